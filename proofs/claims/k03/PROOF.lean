import PyProof.Rows.All
import Wide.All
import OpenK.AllK
import Wide.FinOn
import PyProof.GenQ
import HandS.ForMost
import HandS.GenList
import HandS.ExcInit
import HandS.ExcIs
import HandS.ExcField
import HandS.Property
import KE.KExcInit
import HandS.IsInst
import HandS.Lambda
import KE.KDflt
import HandS.Deep
import HandS.SetFor
import HandS.EndTab
import PyProof.ReprRoads
import HandS.Style
import HandS.Flow
import HandS.Wide
import HandS.Small
import HandS.More
import HandS.Codes
import HandS.CallLocal
import HandS.ListEq
import HandS.ClsMeth
import HandS.Comp
import HandS.WordsExc
import PyProof.TupleOps
import HandS.Walk
import HandS.Dict
import HandS.Nested
import KE.KSuper
import HandS.Iter
import KE.GoesMore
import KE.GoesEnum
import PyProof.StrOps2
import HandS.Call
import HandS.Defaults
import HandS.HeadHook3
import KE.KNestM
import KE.KExcLine
import KE.RegKIsAll
import PySem.Challenge.RW_entryhall_k03_invalid_key_objects
set_option Elab.async false
set_option linter.all false
set_option maxRecDepth 100000
set_option maxHeartbeats 1000000
/-! Fk: a run that wakes none of the generators that slept when it began leaves them as they were. Those that sleep are replaced by ones that look alike and cannot be woken;
a run over the replaced ones is a run over the real ones. -/
namespace Fk
open PySem
open Sem (wp)

/-- looks alike, cannot be woken -/
def fk : GenState → GenState
  | .suspended _ l c p fs cl => .suspended (fun _ => .unsupported "") l c p fs cl
  | x => x
theorem fk_seen (x : GenState) : (fk x).seen = x.seen := by cases x <;> rfl
theorem fk_bare (x : GenState) : (fk x).bare = x.bare := by cases x <;> rfl
def isSusp : GenState → Bool
  | .suspended .. => true
  | _ => false
def plainG : GenState → Prop
  | .suspended _ _ _ _ fs _ => splitAtGen fs = none
  | _ => True
def plainE : End → Prop
  | .susp _ _ _ _ _ _ fs => splitAtGen fs = none
  | .ret _ => True
theorem plainG_end {e : End} (h : plainE e) : plainG e.genState := by cases e <;> first | exact h | trivial
/-- F: which of them are replaced, by their places: what they are in truth. a: the replaced ones; b: the real ones -/
structure Rel (F : Nat → Option GenState) (a b : Array GenState) : Prop where
  size : b.size = a.size
  fake : ∀ (i : Nat) x, F i = some x → isSusp x = true ∧ a[i]? = some (fk x) ∧ b[i]? = some x
  same : ∀ (i : Nat), F i = none → b[i]? = a[i]?
  plain : ∀ (i : Nat) x, F i = none → a[i]? = some x → plainG x
variable {F : Nat → Option GenState} {a b : Array GenState}
theorem Rel.push (h : Rel F a b) (c : Code) : Rel F (a.push (.fresh c)) (b.push (.fresh c)) := by
  refine ⟨by simp [h.size], fun i x e => ?_, fun i e => ?_, fun i x e hx => ?_⟩
  · obtain ⟨q, k, l⟩ := h.fake i x e
    have l1 : i < a.size := (Array.getElem?_eq_some_iff.mp k).1
    have l2 : i < b.size := (Array.getElem?_eq_some_iff.mp l).1
    exact ⟨q, by rw [Array.getElem?_push, if_neg (by omega)]; exact k, by rw [Array.getElem?_push, if_neg (by omega)]; exact l⟩
  · rw [Array.getElem?_push, Array.getElem?_push, h.size, h.same i e]
  · rw [Array.getElem?_push] at hx
    split at hx
    · cases hx; trivial
    · exact h.plain i x e hx
theorem Rel.set (h : Rel F a b) {g : Nat} {x : GenState} (hF : F g = none) (hx : plainG x) : Rel F (a.setIfInBounds g x) (b.setIfInBounds g x) := by
  refine ⟨by simp [h.size], fun i y e => ?_, fun i e => ?_, fun i y e hy => ?_⟩
  · obtain ⟨q, k, l⟩ := h.fake i y e
    have ne : g ≠ i := fun z => by rw [z, e] at hF; cases hF
    exact ⟨q, by rw [Array.getElem?_setIfInBounds_ne ne]; exact k, by rw [Array.getElem?_setIfInBounds_ne ne]; exact l⟩
  · rw [Array.getElem?_setIfInBounds, Array.getElem?_setIfInBounds, h.size, h.same i e]
  · rw [Array.getElem?_setIfInBounds] at hy
    split at hy
    · split at hy
      · cases hy; exact hx
      · cases hy
    · exact h.plain i y e hy
theorem plain_app {a b : List Frame} (ha : splitAtGen a = none) (hb : splitAtGen b = none) : splitAtGen (a ++ b) = none := by
  induction a with
  | nil => exact hb
  | cons f t ih =>
    cases f with
    | ret k h g l c p kp =>
      have e : (splitAtGen t).map (fun x => (Frame.ret k h g l c p kp :: x.1, x.2.1, x.2.2)) = none := ha
      have e' : splitAtGen t = none := by
        cases q : splitAtGen t with
        | none => rfl
        | some z => rw [q] at e; cases e
      show (splitAtGen (t ++ b)).map (fun x => (Frame.ret k h g l c p kp :: x.1, x.2.1, x.2.2)) = none
      rw [ih e']; rfl
    | gen g k l c p => exact absurd (show some _ = none from ha) (fun z => nomatch z)
theorem plain_tail {k h g l c p kp} {fs : List Frame} (e : splitAtGen (.ret k h g l c p kp :: fs) = none) : splitAtGen fs = none := by
  have e : (splitAtGen fs).map (fun x => (Frame.ret k h g l c p kp :: x.1, x.2.1, x.2.2)) = none := e
  cases q : splitAtGen fs with
  | none => rfl
  | some z => rw [q] at e; cases e
variable {M : Model}
theorem no_unsup {Γ : Ctx} {p : Pos} {w : String} {fs : List Frame} {s s' : Shared} {e : End} (h : Runs M Γ p (.unsupported w) fs s e s') : False := by
  generalize ht : (Sem.unsupported w : Sem PySem.Fin) = t at h
  induction h <;> first | (cases ht; done) | (rename_i ih _; exact ih ht) | (rename_i ih _ _; exact ih ht) | (rename_i ih; exact ih ht)
/-- with other generators -/
abbrev gw (s : Shared) (G : Array GenState) : Shared := { s with gens := G }
/-- the run over the real ones -/
theorem runs_fk {Γ : Ctx} {p : Pos} {t : Sem PySem.Fin} {fs : List Frame} {s s' : Shared} {e : End} (h : Runs M Γ p t fs s e s') : splitAtGen fs = none → ∀ G, Rel F s.gens G →
    ∃ G', Runs M Γ p t fs (gw s G) e (gw s' G') ∧ Rel F s'.gens G' ∧ plainE e := by
  induction h with
  | done => intro _ G R; exact ⟨G, .done, R, trivial⟩
  | raise => intro _ G R; exact ⟨G, .raise, R, trivial⟩
  | again hq _ ih => intro hf G R; obtain ⟨r', h1, h2, h3⟩ := ih hf G R; exact ⟨r', .again hq h1, h2, h3⟩
  | rule _ ih => intro hf G R; obtain ⟨r', h1, h2, h3⟩ := ih hf G R; exact ⟨r', .rule h1, h2, h3⟩
  | «at» _ ih => intro hf G R; obtain ⟨r', h1, h2, h3⟩ := ih hf G R; exact ⟨r', .at h1, h2, h3⟩
  | load ho _ ih => intro hf G R; obtain ⟨r', h1, h2, h3⟩ := ih hf G R; exact ⟨r', .load ho h1, h2, h3⟩
  | update ha _ ih => intro hf G R; obtain ⟨r', h1, h2, h3⟩ := ih hf G R; exact ⟨r', .update ha h1, h2, h3⟩
  | loadIfAlive _ ih => intro hf G R; obtain ⟨r', h1, h2, h3⟩ := ih hf G R; exact ⟨r', .loadIfAlive h1, h2, h3⟩
  | point _ ih => intro hf G R; obtain ⟨r', h1, h2, h3⟩ := ih hf G R; exact ⟨r', .point h1, h2, h3⟩
  | alloc _ ih => intro hf G R; obtain ⟨r', h1, h2, h3⟩ := ih hf G R; exact ⟨r', .alloc h1, h2, h3⟩
  | fresh _ ih => intro hf G R; obtain ⟨r', h1, h2, h3⟩ := ih hf G R; exact ⟨r', .fresh h1, h2, h3⟩
  | ask _ ih => intro hf G R; obtain ⟨r', h1, h2, h3⟩ := ih hf G R; exact ⟨r', .ask h1, h2, h3⟩
  | choose hn _ ih => intro hf G R; obtain ⟨r', h1, h2, h3⟩ := ih hf G R; exact ⟨r', .choose hn h1, h2, h3⟩
  | os _ ih => intro hf G R; obtain ⟨r', h1, h2, h3⟩ := ih hf G R; exact ⟨r', .os h1, h2, h3⟩
  | handled _ ih => intro hf G R; obtain ⟨r', h1, h2, h3⟩ := ih hf G R; exact ⟨r', .handled h1, h2, h3⟩
  | @genState g st Γ p k s e s' hg hr ih =>
    intro hf G R
    obtain ⟨r', h1, h2, h3⟩ := ih hf G R
    cases q : F g with
    | none => exact ⟨r', .genState (by rw [← R.same g q] at hg; exact hg) h1, h2, h3⟩
    | some x =>
      obtain ⟨_, k1, k2⟩ := R.fake g x q
      rw [k1] at hg
      cases hg
      rw [fk_seen] at h1
      exact ⟨r', .genState k2 h1, h2, h3⟩
  | stack _ ih => intro hf G R; obtain ⟨r', h1, h2, h3⟩ := ih hf G R; exact ⟨r', .stack h1, h2, h3⟩
  | thread _ ih => intro hf G R; obtain ⟨r', h1, h2, h3⟩ := ih hf G R; exact ⟨r', .thread h1, h2, h3⟩
  | @newGen Γ p k s e s' c hr ih =>
    intro hf G R
    obtain ⟨r', h1, h2, h3⟩ := ih hf (G.push (.fresh c)) (R.push c)
    refine ⟨r', .newGen ?_, h2, h3⟩
    have := R.size
    rw [show (gw s G).gens.size = s.gens.size from R.size]
    exact h1
  | call _ _ ih1 ih2 =>
    intro hf G R
    obtain ⟨r1, h1, h2, _⟩ := ih1 rfl G R
    obtain ⟨r2, k1, k2, k3⟩ := ih2 hf r1 h2
    exact ⟨r2, .call h1 k1, k2, k3⟩
  | callSusp _ ih =>
    intro hf G R
    obtain ⟨r1, h1, h2, h3⟩ := ih rfl G R
    exact ⟨r1, .callSusp h1, h2, plain_app h3 rfl⟩
  | yield => intro hf G R; exact ⟨G, .yield, R, rfl⟩
  | @resumeFresh Γ p g l k s c e₁ s₁ e s' hg _ hq _ ih1 ih2 =>
    intro hf G R
    cases q : F g with
    | some x =>
      obtain ⟨z, k1, k2⟩ := R.fake g x q
      rw [k1] at hg
      cases x <;> first | (cases z; done) | (cases hg; done)
    | none =>
      obtain ⟨r1, h1, h2, h3⟩ := ih1 rfl (G.setIfInBounds g .running) (R.set q trivial)
      obtain ⟨r2, j1, j2, j3⟩ := ih2 hf (r1.setIfInBounds g e₁.genState) (h2.set q (plainG_end h3))
      exact ⟨r2, .resumeFresh (by rw [← R.same g q] at hg; exact hg) h1 hq j1, j2, j3⟩
  | @resumeSuspended Γ p g rr l k s k₀ l₀ c₀ p₀ fs cl e₁ s₁ e s' hg hr hq _ ih1 ih2 =>
    intro hf G R
    cases q : F g with
    | some x =>
      obtain ⟨z, k1, k2⟩ := R.fake g x q
      rw [k1] at hg
      cases x with
      | suspended a1 a2 a3 a4 a5 a6 =>
        cases hg
        exact (no_unsup hr).elim
      | _ => cases z
    | none =>
      have pl : splitAtGen fs = none := R.plain g _ q hg
      obtain ⟨r1, h1, h2, h3⟩ := ih1 pl (G.setIfInBounds g .running) (R.set q trivial)
      obtain ⟨r2, j1, j2, j3⟩ := ih2 hf (r1.setIfInBounds g e₁.genState) (h2.set q (plainG_end h3))
      exact ⟨r2, .resumeSuspended (by rw [← R.same g q] at hg; exact hg) h1 hq j1, j2, j3⟩
  | @resumeJustStarted g v Γ p k s e s' l c hg hv _ ih =>
    intro hf G R
    cases q : F g with
    | some x =>
      obtain ⟨z, k1, k2⟩ := R.fake g x q
      rw [k1] at hg
      cases x <;> first | (cases z; done) | (cases hg; done)
    | none =>
      obtain ⟨r2, j1, j2, j3⟩ := ih hf G R
      exact ⟨r2, .resumeJustStarted (by rw [← R.same g q] at hg; exact hg) hv j1, j2, j3⟩
  | @resumeThrowFresh g Γ p k e s' x l s c hg _ ih =>
    intro hf G R
    cases q : F g with
    | some x =>
      obtain ⟨z, k1, k2⟩ := R.fake g x q
      rw [k1] at hg
      cases x <;> first | (cases z; done) | (cases hg; done)
    | none =>
      obtain ⟨r2, j1, j2, j3⟩ := ih hf (G.setIfInBounds g .finished) (R.set q trivial)
      exact ⟨r2, .resumeThrowFresh (by rw [← R.same g q] at hg; exact hg) j1, j2, j3⟩
  | @resumeRunning g Γ p k s e s' r l hg _ ih =>
    intro hf G R
    cases q : F g with
    | some x =>
      obtain ⟨z, k1, k2⟩ := R.fake g x q
      rw [k1] at hg
      cases x <;> first | (cases z; done) | (cases hg; done)
    | none =>
      obtain ⟨r2, j1, j2, j3⟩ := ih hf G R
      exact ⟨r2, .resumeRunning (by rw [← R.same g q] at hg; exact hg) j1, j2, j3⟩
  | @resumeFinished g Γ p k s e s' r l hg _ ih =>
    intro hf G R
    cases q : F g with
    | some x =>
      obtain ⟨z, k1, k2⟩ := R.fake g x q
      rw [k1] at hg
      cases x <;> first | (cases z; done) | (cases hg; done)
    | none =>
      obtain ⟨r2, j1, j2, j3⟩ := ih hf G R
      exact ⟨r2, .resumeFinished (by rw [← R.same g q] at hg; exact hg) j1, j2, j3⟩
  | segRet _ _ ih1 ih2 =>
    intro hf G R
    obtain ⟨r1, h1, h2, _⟩ := ih1 rfl G R
    obtain ⟨r2, j1, j2, j3⟩ := ih2 (plain_tail hf) r1 h2
    exact ⟨r2, .segRet h1 j1, j2, j3⟩
  | segGen _ _ _ _ => intro hf; exact absurd (show some _ = none from hf) (fun z => nomatch z)
  | segSuspOut hs _ ih =>
    intro hf G R
    obtain ⟨r1, h1, h2, h3⟩ := ih rfl G R
    exact ⟨r1, .segSuspOut hs h1, h2, plain_app h3 hs⟩
  | segSuspGen hs _ _ _ _ _ => intro hf; rw [hf] at hs; cases hs

theorem returns_fk {Γ : Ctx} {p : Pos} {s s' : Shared} {r : Result} (h : Returns M Γ p s r s') {G : Array GenState} (R : Rel F s.gens G) : ∃ G', Returns M Γ p (gw s G) r (gw s' G') ∧ Rel F s'.gens G' := by
  obtain ⟨G', h1, h2, _⟩ := runs_fk h rfl G R
  exact ⟨G', h1, h2⟩
theorem wakes_fk {Γ : Ctx} {p : Pos} {g : Nat} {r : Resume} {s s' : Shared} {res : GenResult} (h : Wakes M Γ p g r s res s') {G : Array GenState} (R : Rel F s.gens G) : ∃ G', Wakes M Γ p g r (gw s G) res (gw s' G') ∧ Rel F s'.gens G' := by
  cases q : F g with
  | some x =>
    obtain ⟨z, k1, k2⟩ := R.fake g x q
    unfold Wakes at h
    rw [k1] at h
    cases x with
    | suspended a1 a2 a3 a4 a5 a6 =>
      obtain ⟨e₁, s₁, hr, _⟩ := h
      exact (no_unsup hr).elim
    | _ => cases z
  | none =>
    have hs := R.same g q
    unfold Wakes at h ⊢
    rw [show (gw s G).gens[g]? = s.gens[g]? from hs]
    cases hg : s.gens[g]? with
    | none => rw [hg] at h; exact h.elim
    | some gs =>
      rw [hg] at h
      cases gs with
      | fresh c =>
        cases r with
        | send v =>
          by_cases hv : v = Value.none
          · subst hv
            obtain ⟨e₁, s₁, hr, hq, hres, hs'⟩ := h
            obtain ⟨G1, h1, h2, h3⟩ := runs_fk hr rfl (G.setIfInBounds g .running) (R.set q trivial)
            subst hs'
            exact ⟨G1.setIfInBounds g e₁.genState, ⟨e₁, _, h1, hq, hres, rfl⟩, h2.set q (plainG_end h3)⟩
          · cases v <;> first | exact absurd rfl hv | (obtain ⟨h1, h2⟩ := h; subst h2; exact ⟨G, ⟨h1, rfl⟩, R⟩)
        | throw x =>
          obtain ⟨h1, h2⟩ := h
          subst h2
          exact ⟨G.setIfInBounds g .finished, ⟨h1, rfl⟩, R.set q trivial⟩
      | suspended k₀ l₀ c₀ p₀ fs cl =>
        obtain ⟨e₁, s₁, hr, hq, hres, hs'⟩ := h
        obtain ⟨G1, h1, h2, h3⟩ := runs_fk hr (R.plain g _ q hg) (G.setIfInBounds g .running) (R.set q trivial)
        subst hs'
        exact ⟨G1.setIfInBounds g e₁.genState, ⟨e₁, _, h1, hq, hres, rfl⟩, h2.set q (plainG_end h3)⟩
      | running => obtain ⟨h1, h2⟩ := h; subst h2; exact ⟨G, ⟨h1, rfl⟩, R⟩
      | finished => obtain ⟨h1, h2⟩ := h; subst h2; exact ⟨G, ⟨h1, rfl⟩, R⟩
/-- what holds over the replaced ones holds over the real ones -/
theorem wp_fk {α : Type} (F : Nat → Option GenState) (M : Model) (Γ : Ctx) (t : Sem α) : ∀ (Q : α → Pos → Shared → Prop) (E : Value → Pos → Shared → Prop) (p : Pos) (s : Shared) (G : Array GenState), Rel F s.gens G → wp M Γ t Q E p s →
    wp M Γ t (fun a p' s' => ∃ G0, Rel F G0 s'.gens ∧ Q a p' (gw s' G0)) (fun e p' s' => ∃ G0, Rel F G0 s'.gens ∧ E e p' (gw s' G0)) p (gw s G) := by
  induction t with
  | pure a => intro Q E p s G R h; exact ⟨s.gens, R, h⟩
  | raise e => intro Q E p s G R h; exact ⟨s.gens, R, h⟩
  | unsupported _ => intro Q E p s G _ h; exact h
  | finish _ => intro Q E p s G _ h; exact h
  | rule _ k ih => intro Q E p s G R h; exact ih () Q E p s G R h
  | «at» p' k ih => intro Q E p s G R h; exact ih () Q E p' s G R h
  | load a _ k ih => intro Q E p s G R h; obtain ⟨o, ho, h⟩ := h; exact ⟨o, ho, ih o Q E p s G R h⟩
  | update a _ f k ih => intro Q E p s G R h; exact ⟨h.1, ih () Q E p { s with heap := s.heap.update a f } G R h.2⟩
  | loadIfAlive a k ih => intro Q E p s G R h; exact ih _ Q E p s G R h
  | point _ k ih => intro Q E p s G R h; exact ih () Q E p s G R h
  | register _ _ => intro Q E p s G _ h; exact h
  | alloc o k ih => intro Q E p s G R h; exact ih _ Q E p { s with heap := s.heap.push o } G R h
  | fresh k ih => intro Q E p s G R h; exact ih _ Q E p { s with toks := s.toks + 1 } G R h
  | ask k ih => intro Q E p s G R h; exact ih _ Q E p s G R h
  | choose src m k ih => intro Q E p s G R h; exact ⟨h.1, ih _ Q E p { s with drawn := s.drawn.bump src } G R h.2⟩
  | os q _ k ih => intro Q E p s G R h; exact ih _ Q E p { s with os := (Os.step s.os q).1 } G R h
  | call c hd _ _ k ih =>
    intro Q E p s G R h
    obtain ⟨r, s', hr, h⟩ := h
    obtain ⟨G', h1, h2⟩ := returns_fk hr R
    exact ⟨r, _, h1, ih r Q E p s' G' h2 h⟩
  | handled own k ih => intro Q E p s G R h; exact ih _ Q E p s G R h
  | genState g k ih =>
    intro Q E p s G R h
    obtain ⟨st, hs, h⟩ := h
    cases q : F g with
    | none => exact ⟨st, by rw [← R.same g q] at hs; exact hs, ih _ Q E p s G R h⟩
    | some x =>
      obtain ⟨_, k1, k2⟩ := R.fake g x q
      rw [k1] at hs
      cases hs
      rw [fk_seen] at h
      exact ⟨x, k2, ih _ Q E p s G R h⟩
  | newGen c k ih =>
    intro Q E p s G R h
    have := ih _ Q E p _ _ (R.push c) h
    rw [← R.size] at this
    exact this
  | resume g r _ k ih =>
    intro Q E p s G R h
    obtain ⟨res, s', hw, h⟩ := h
    obtain ⟨G', h1, h2⟩ := wakes_fk hw R
    exact ⟨res, _, h1, ih res Q E p s' G' h2 h⟩
  | yield _ _ _ _ => intro Q E p s G _ h; exact h
  | stack k ih => intro Q E p s G R h; exact ih _ Q E p s G R h
  | fork _ _ => intro Q E p s G _ h; exact h
  | thread k ih => intro Q E p s G R h; exact ih _ Q E p s G R h
  | await _ _ _ _ _ => intro Q E p s G _ h; exact h
theorem wpAny_fk {α : Type} {M : Model} {A : Around} {t : Sem α} {Q : α → Shared → Prop} {E : Value → Shared → Prop} {s : Shared} {G : Array GenState} (R : Rel F s.gens G) (h : wpAny M A t Q E s) :
    wpAny M A t (fun a s' => ∃ G0, Rel F G0 s'.gens ∧ Q a (gw s' G0)) (fun e s' => ∃ G0, Rel F G0 s'.gens ∧ E e (gw s' G0)) (gw s G) := fun Γ p hΓ => wp_fk F M Γ t _ _ p s G R (h Γ p hΓ)
/-- all that sleep now -/
def sleepers (G : Array GenState) (i : Nat) : Option GenState := match G[i]? with
  | some x => if isSusp x = true then some x else none
  | none => none
def faked (G : Array GenState) : Array GenState := G.map fk
theorem rel_faked (G : Array GenState) : Rel (sleepers G) (faked G) G := by
  refine ⟨by simp [faked], fun i x e => ?_, fun i e => ?_, fun i x e hx => ?_⟩
  · unfold sleepers at e
    split at e
    · rename_i y hy
      split at e
      · rename_i hs
        cases e
        exact ⟨hs, by simp [faked, hy], hy⟩
      · cases e
    · cases e
  · unfold sleepers at e
    unfold faked
    rw [Array.getElem?_map]
    cases hy : G[i]? with
    | none => rfl
    | some y =>
      rw [hy] at e
      cases y <;> first | rfl | (simp [isSusp] at e)
  · unfold sleepers at e
    unfold faked at hx
    rw [Array.getElem?_map] at hx
    cases hy : G[i]? with
    | none => rw [hy] at hx; cases hx
    | some y =>
      rw [hy] at e hx
      cases hx
      cases y <;> first | trivial | (simp [isSusp] at e)
theorem bare_faked {G : Array GenState} (h : ∀ y ∈ G, y.bare = true) : ∀ y ∈ faked G, y.bare = true := fun y hy => by
  obtain ⟨x, hx, rfl⟩ := Array.mem_map.mp hy
  rw [fk_bare]; exact h x hx
theorem bare_real (h : Rel F a b) (hF : ∀ i x, F i = some x → x.bare = true) (ha : ∀ y ∈ a, y.bare = true) : ∀ y ∈ b, y.bare = true := fun y hy => by
  obtain ⟨i, hi, rfl⟩ := Array.mem_iff_getElem.mp hy
  have hb : b[i]? = some b[i] := Array.getElem?_eq_getElem hi
  cases q : F i with
  | some x =>
    obtain ⟨_, _, k2⟩ := h.fake i x q
    rw [k2] at hb
    have : x = b[i] := Option.some.inj hb
    rw [← this]; exact hF i x q
  | none =>
    have k := h.same i q
    rw [hb] at k
    have hi' : i < a.size := by rw [← h.size]; exact hi
    rw [Array.getElem?_eq_getElem hi'] at k
    have : b[i] = a[i] := Option.some.inj k
    rw [this]; exact ha _ (Array.getElem_mem hi')
theorem sleepers_at {G : Array GenState} {g : Nat} {x : GenState} (h : G[g]? = some x) (hs : isSusp x = true) : sleepers G g = some x := by
  unfold sleepers; rw [h]; simp [hs]
theorem sleepers_bare {G : Array GenState} (h : ∀ y ∈ G, y.bare = true) : ∀ i x, sleepers G i = some x → x.bare = true := fun i x e => by
  unfold sleepers at e
  split at e
  · rename_i y hy
    split at e
    · cases e; exact h _ (Array.mem_of_getElem? hy)
    · cases e
  · cases e
end Fk
set_option Elab.async false
set_option linter.all false
set_option maxRecDepth 100000
set_option maxHeartbeats 1000000
/-! Pth: the generator path, its turns over the machine's own rules -/
namespace Pth
open PySem PySem.Spec PyProof.Rows L2 GenW
/-! ### the text of the loop -/
abbrev stPush (p1 p2 p3 p4 p5 : Pos) : Stmt := .Assign [.Name "push" p1] (.BinOp (.Name "push" p2) .FloorDiv (.Name "PUSH_SHARE" p3) p4) p5
abbrev stSlot (p1 p2 p3 p4 p5 p6 p7 p8 p9 p10 p11 : Pos) (k1 k2 : Nat) : Stmt := .Assign [.Name "slot" p1] (.BinOp (.BinOp (.BinOp (.BinOp (.Constant (.int 5) k1 p2) .Mult (.Name "slot" p3) p4) .Add (.Name "push" p5) p6) .Add (.Constant (.int 1) k2 p7) p8) .Mod (.Name "size" p9) p10) p11
/-- what the walk asks of the env -/
structure PEnv (env : Env) : Prop where
  kind : env.scope.kind = .function
  co : env.scope.isCoroutine = false
  gl : env.globals = mainGlobals
  slot : env.kindOf "slot" = some .local
  push : env.kindOf "push" = some .local
  size : env.kindOf "size" = some .local
  low : env.kindOf "_" = some .local
  share : env.kindOf "PUSH_SHARE" = some .globalImplicit
/-- the frame's names -/
structure Fm (env : Env) (h : Heap) (size slot push : Int) : Prop where
  ns : ∃ m, h.Ns env.locals m ∧ (∃ t, m "slot" = some (.int slot t)) ∧ (∃ t, m "push" = some (.int push t)) ∧ ∃ t, m "size" = some (.int size t)
  gl : ∃ mg, h.Ns mainGlobals mg ∧ ∃ t, mg "PUSH_SHARE" = some (.int 32 t)
theorem Fm.keeps {env : Env} {h h' : Heap} {size slot push : Int} (x : Fm env h size slot push) (k : ∀ b o, (b = env.locals ∨ b = mainGlobals) → h.get? b = some o → h'.get? b = some o) : Fm env h' size slot push := by
  obtain ⟨⟨m, hn, r⟩, ⟨mg, hg, q⟩⟩ := x
  exact ⟨⟨m, hn.at' fun o e => k _ o (.inl rfl) e, r⟩, ⟨mg, hg.at' fun o e => k _ o (.inr rfl) e, q⟩⟩
section
variable {prog : Program} {w : World} {A : Around} {E : Value → Shared → Prop} {s : Shared} {env : Env} {size slot push : Int}
theorem nm {x : Str} {p : Pos} {m : Str → Option Value} {v : Value} {Q : Value → Shared → Prop} (T : PEnv env) (hk : env.kindOf x = some .local) (hn : s.heap.Ns env.locals m) (hm : m x = some v) (h : Q v s) (hd : (x == ("__debug__" : Str)) = false := by decide) :
    wpAny (model prog w) A (eval (.Name x p) env) Q E s := wpAny_Name (wpAny_loadName_local T.kind hk hn hm h) hd
/-- push = push // PUSH_SHARE -/
theorem run_push {p1 p2 p3 p4 p5 : Pos} {Q : Flow → Shared → Prop} (T : PEnv env) (hL : env.locals ≠ mainGlobals) (x : Fm env s.heap size slot push)
    (h : ∀ h' tk, Fm env h' size slot (push.fdiv 32) → (∀ b o, b ≠ env.locals → s.heap.get? b = some o → h'.get? b = some o) → Q .next { s with heap := h', toks := tk }) :
    wpAny (model prog w) A (exec (stPush p1 p2 p3 p4 p5) env) Q E s := by
  obtain ⟨⟨m, hn, ⟨t1, e1⟩, ⟨t2, e2⟩, ⟨t3, e3⟩⟩, ⟨mg, hg, ⟨t4, e4⟩⟩⟩ := x
  have h1 : (("slot" : Str) = "push") = False := by simp [show ¬ (("slot" : Str) = "push") by decide]
  have h2 : (("size" : Str) = "push") = False := by simp [show ¬ (("size" : Str) = "push") by decide]
  refine wpAny_Assign_Name ?_
  refine wpAny_BinOp (nm T T.push hn e2 ?_)
  refine Calls.Name_function_global T.kind T.share (Calls.loadGlobal_global (by rw [T.gl]; exact hg) e4 ?_) (by decide)
  refine floordiv_int (by decide) ?_
  refine wpAny_storeName_local (s := { s with toks := s.toks + 1 }) T.push hn (fun h' hn' hs => ?_) (by rw [T.kind]; rfl)
  refine h h' _ ⟨⟨_, hn', ⟨t1, by rw [if_neg (by simp [h1])]; exact e1⟩, ⟨_, if_pos rfl⟩, ⟨t3, by rw [if_neg (by simp [h2])]; exact e3⟩⟩, ⟨mg, hg.sameBut hs (Ne.symm hL), t4, e4⟩⟩ fun b o hb e => (hs.2 b hb).trans e
/-- slot = (5 * slot + push + 1) % size -/
theorem run_slot {p1 p2 p3 p4 p5 p6 p7 p8 p9 p10 p11 : Pos} {k1 k2 : Nat} {Q : Flow → Shared → Prop} (T : PEnv env) (hL : env.locals ≠ mainGlobals) (hz : size ≠ 0) (x : Fm env s.heap size slot push)
    (h : ∀ h' tk, Fm env h' size ((5 * slot + push + 1).fmod size) push → (∀ b o, b ≠ env.locals → s.heap.get? b = some o → h'.get? b = some o) → Q .next { s with heap := h', toks := tk }) :
    wpAny (model prog w) A (exec (stSlot p1 p2 p3 p4 p5 p6 p7 p8 p9 p10 p11 k1 k2) env) Q E s := by
  obtain ⟨⟨m, hn, ⟨t1, e1⟩, ⟨t2, e2⟩, ⟨t3, e3⟩⟩, ⟨mg, hg, q⟩⟩ := x
  have h1 : (("push" : Str) = "slot") = False := by simp [show ¬ (("push" : Str) = "slot") by decide]
  have h2 : (("size" : Str) = "slot") = False := by simp [show ¬ (("size" : Str) = "slot") by decide]
  refine wpAny_Assign_Name ?_
  refine wpAny_BinOp (wpAny_BinOp (wpAny_BinOp (wpAny_BinOp (wpAny_Constant_int (nm (s := { s with toks := s.toks + 1 }) T T.slot hn e1 ?_)))))
  refine mul_int ?_ (CMul.ok (.inl ⟨by decide, by decide⟩))
  refine nm (s := { s with toks := s.toks + 1 + 1 }) T T.push hn e2 ?_
  refine add_int ?_
  refine wpAny_Constant_int ?_
  refine add_int ?_
  refine nm (s := { s with toks := s.toks + 1 + 1 + 1 + 1 + 1 }) T T.size hn e3 ?_
  refine mod_int' hz ?_
  refine wpAny_storeName_local (s := { s with toks := _ }) T.slot hn (fun h' hn' hs => ?_) (by rw [T.kind]; rfl)
  refine h h' _ ⟨⟨_, hn', ⟨_, if_pos rfl⟩, ⟨t2, by rw [if_neg (by simp [h1])]; exact e2⟩, ⟨t3, by rw [if_neg (by simp [h2])]; exact e3⟩⟩, ⟨mg, hg.sameBut hs (Ne.symm hL), q⟩⟩ fun b o hb e => (hs.2 b hb).trans e
end

/-! ### for, within a generator -/
section
variable {M : Model} {A : Around} {R : GenEnd} {Y : Protocol} {n : Nat} {s₀ : Shared} {c : Code} {fs : List Frame} {s : Shared} {env : Env}
  {K : Flow → Sem PySem.Fin} {H : Value → Sem PySem.Fin} {gd : Bool → Bool} {lv : List Value → List Value}
/-- what stands behind the loop's call -/
abbrev behind (env : Env) (K : Flow → Sem PySem.Fin) (H : Value → Sem PySem.Fin) (gd : Bool → Bool) (lv : List Value → List Value) (r : Result) : Sem PySem.Fin :=
  ((match r with | .ok f => (.pure f : Sem Flow) | .error e => .raise e).onRaise fun (x : Value) => do
    if (← field x 1) == Value.none then unsupported "frame.own-activation:exception-without-traceback"
    setFlight x env.frame).wrap K H gd lv
theorem seg_For {target iter : Expr} {body orelse : List Stmt} {pos : Pos} (hs : ∀ x, foldedSetIterable iter env x = pure x)
    (h : wpAny M (A.over c fs) (eval iter env) (fun x s₁ => wpAny M (A.over c fs) (pyIter x) (fun it s₂ => ∀ p, Seg M A R Y n s₀ (.forLoop target it body orelse env) (M.den (.forLoop target it body orelse env)) (.ret (behind env K H gd lv) none (gd false) (lv []) c p [] :: fs) s₂)
      (fun x s' => Seg M A R Y n s₀ c (H x) fs s') s₁) (fun x s' => Seg M A R Y n s₀ c (H x) fs s') s) :
    Seg M A R Y n s₀ c ((exec (.For target iter body orelse pos) env).wrap K H gd lv) fs s := by
  rw [exec_For]
  refine seg_at ?_
  show Seg _ _ _ _ _ _ _ (((eval iter env) >>= fun x => (foldedSetIterable iter env x >>= fun x => (standAt iter.pos >>= fun _ => (holding [x] (pyIter x)) >>= fun it => runOwn (.forLoop target it body orelse env) env))).wrap K H gd lv) fs s
  rw [Sem.bind_eq_wrap', Sem.wrap_wrap]
  refine seg_wrap (wpAny_mono h (fun x s₁ h₁ => ?_) fun _ _ h' => h')
  rw [hs x]
  refine seg_at ?_
  show Seg _ _ _ _ _ _ _ (((holding [x] (pyIter x)) >>= fun it => runOwn (.forLoop target it body orelse env) env).wrap K H gd lv) fs s₁
  rw [Sem.bind_eq_wrap', Sem.wrap_wrap]
  refine seg_wrap (wpAny_holding (wpAny_mono h₁ (fun it s₂ h₂ => ?_) fun _ _ h' => h'))
  exact seg_call h₂
end
section
variable {prog : Program} {w : World} {A : Around} {R : GenEnd} {Y : Protocol} {n : Nat} {s₀ : Shared} {fs : List Frame} {s : Shared} {env : Env}
/-- what is left of a loop's turn behind its body -/
abbrev turned (target : Expr) (it : Value) (body orelse : List Stmt) (env : Env) (f : Flow) : Sem PySem.Fin := match f with
  | .next | .cont => .pure (.again (.forLoop target it body orelse env))
  | .brk => .pure (.done .next)
  | .ret v => .pure (.done (.ret v))
abbrev noted (env : Env) (e : Value) : Sem PySem.Fin := (do noteFrame e env; theTreesLotGoes e : Sem Unit).wrap (fun _ => .raise e) .raise id id
theorem seg_forLoop {target : Expr} {it : Value} {body orelse : List Stmt} (hgo : ∀ v, letOwnedTupleGo target it v = pure ())
    (h : wpAny (model prog w) (A.over (.forLoop target it body orelse env) fs) (pyNext it) (fun r s₁ => match r with
        | none => Seg (model prog w) A R Y n s₀ (.block orelse env) ((model prog w).den (.block orelse env)) fs s₁
        | some v => wpAny (model prog w) (A.over (.forLoop target it body orelse env) fs) (assign target env v) (fun _ s₂ =>
            Seg (model prog w) A R Y n s₀ (.forLoop target it body orelse env) ((execs body env).wrap (turned target it body orelse env) (noted env) id id) fs s₂)
            (fun _ _ => False) s₁) (fun _ _ => False) s)
    (hq : (Code.block orelse env).quiet = true := by rfl) :
    Seg (model prog w) A R Y n s₀ (.forLoop target it body orelse env) ((model prog w).den (.forLoop target it body orelse env)) fs s := by
  show Seg _ A R Y n s₀ _ ((forTurn target it body orelse env).onRaise (fun x => do noteFrame x env; theTreesLotGoes x)) fs s
  rw [Sem.onRaise_eq_wrap]
  unfold forTurn
  refine seg_at ?_
  show Seg _ A R Y n s₀ _ ((((pyNext it).onRaise (fun _ => standAt { target.pos with line := 0 })) >>= fun r => (match r with
    | none => again (.block orelse env)
    | some v => letOwnedTupleGo target it v >>= fun _ => assign target env v >>= fun _ => execs body env >>= fun f => (match f with
      | .next | .cont => again (.forLoop target it body orelse env)
      | .brk => pure (.done .next)
      | .ret v => pure (.done (.ret v)) : Sem PySem.Fin) : Sem PySem.Fin)).wrap _ _ id id) fs s
  rw [Sem.bind_eq_wrap', Sem.wrap_wrap]
  refine seg_wrap (wpAny_onRaise (wpAny_mono h (fun r s₁ h₁ => ?_) fun _ _ h' => h'.elim))
  cases r with
  | none => exact seg_again hq h₁
  | some v =>
    show Seg _ A R Y n s₀ _ ((letOwnedTupleGo target it v >>= fun _ => assign target env v >>= fun _ => execs body env >>= fun f => (match f with
      | .next | .cont => again (.forLoop target it body orelse env)
      | .brk => pure (.done .next)
      | .ret v => pure (.done (.ret v)) : Sem PySem.Fin)).wrap _ _ id id) fs s₁
    rw [hgo v]
    show Seg _ A R Y n s₀ _ ((assign target env v >>= fun _ => execs body env >>= fun f => (match f with
      | .next | .cont => again (.forLoop target it body orelse env)
      | .brk => pure (.done .next)
      | .ret v => pure (.done (.ret v)) : Sem PySem.Fin)).wrap _ _ id id) fs s₁
    rw [Sem.bind_eq_wrap', Sem.wrap_wrap]
    refine seg_wrap (wpAny_mono h₁ (fun _ s₂ h₂ => ?_) fun _ _ h' => h'.elim)
    rw [Sem.bind_eq_wrap', Sem.wrap_wrap]
    refine cast ?_ h₂
    congr 1
    refine Sem.wrap_congr _ id id (fun f => by cases f <;> rfl) (fun e => ?_)
    show _ = ((do noteFrame e env; theTreesLotGoes e : Sem Unit).bind (fun _ => Sem.raise e))
    rw [Sem.bind_eq_wrap]
end

/-! ### the loop of path -/
/-- the pushes and the slots -/
def pu (code : Int) : Nat → Int
  | 0 => code
  | i + 1 => (pu code i).fdiv 32
def sl (size code : Int) : Nat → Int
  | 0 => code.fmod size
  | i + 1 => (5 * sl size code i + pu code (i + 1) + 1).fmod size
/-- ahead of the turn i: the frame, and the iterator of range(N) -/
structure LSt (env : Env) (it : Addr) (N : Nat) (size code : Int) (i : Nat) (h : Heap) : Prop where
  fm : Fm env h size (sl size code i) (pu code i)
  rg : IsRangeIter h it (0 + (i : Nat) * 1) ((N : Int) - (i : Nat)) 1
/-- amid the turn i: the slot is out -/
structure LSy (env : Env) (it : Addr) (N : Nat) (size code : Int) (i : Nat) (h : Heap) : Prop where
  fm : Fm env h size (sl size code i) (pu code i)
  rg : IsRangeIter h it (0 + ((i + 1 : Nat) : Int) * 1) ((N : Int) - ((i + 1 : Nat) : Int)) 1
/-- only the frame and the iterator have changed -/
def Mv (L it : Addr) (s s' : Shared) : Prop := ∃ h' tk, s' = { s with heap := h', toks := tk } ∧ ∀ b o, b ≠ L → b ≠ it → s.heap.get? b = some o → h'.get? b = some o
theorem Mv.refl {L it : Addr} {s : Shared} : Mv L it s s := ⟨s.heap, s.toks, rfl, fun _ _ _ _ e => e⟩
theorem Mv.trans {L it : Addr} {s s1 s2 : Shared} (a : Mv L it s s1) (b : Mv L it s1 s2) : Mv L it s s2 := by
  obtain ⟨h1, t1, rfl, k1⟩ := a
  obtain ⟨h2, t2, rfl, k2⟩ := b
  exact ⟨h2, t2, rfl, fun c o n1 n2 e => k2 c o n1 n2 (k1 c o n1 n2 e)⟩
/-- asleep: the generator's own things stay -/
def Slp (env : Env) (it : Addr) (s s' : Shared) : Prop := ∀ b o, (b = env.locals ∨ b = it ∨ b = mainGlobals) → s.heap.get? b = some o → s'.heap.get? b = some o
theorem LSy.keeps {env : Env} {it : Addr} {N : Nat} {size code : Int} {i : Nat} {s s' : Shared} (x : LSy env it N size code i s.heap) (k : Slp env it s s') : LSy env it N size code i s'.heap :=
  ⟨x.fm.keeps fun b o hb e => k b o (hb.elim .inl fun z => .inr (.inr z)) e, k it _ (.inr (.inl rfl)) x.rg⟩
/-- the wake that began at s₀ has come to s: ahead of the first slot by its own word, later the frame and the iterator alone have changed -/
def Jr (J0 : Shared → Shared → Prop) (L it : Addr) (i : Nat) (s₀ s : Shared) : Prop := if i = 0 then J0 s₀ s else Mv L it s₀ s
def YP (J0 : Shared → Shared → Prop) (env : Env) (it : Addr) (N : Nat) (size code : Int) : Protocol := fun n s₀ v s kap =>
  ∃ i t, n + 1 + i = N ∧ v = .int (sl size code i) t ∧ Jr J0 env.locals it i s₀ s ∧ LSy env it N size code i s.heap ∧ ∀ s', Slp env it s s' → kap (.send .none) s'
def RP (J0 : Shared → Shared → Prop) (L it : Addr) (N : Nat) : GenEnd := fun n s₀ r s => r = .ok (.ret .none) ∧ n = 0 ∧ Jr J0 L it N s₀ s
section
variable {prog : Program} {w : World} {A : Around} {env : Env} {J0 : Shared → Shared → Prop} {it : Addr} {N : Nat} {size code : Int}
abbrev loopBody (p0 p0' p0'' p1 p2 p3 p4 p5 q1 q2 q3 q4 q5 q6 q7 q8 q9 q10 q11 : Pos) (k1 k2 : Nat) : List Stmt :=
  [.Expr (.Yield (some (.Name "slot" p0)) p0') p0'', stPush p1 p2 p3 p4 p5, stSlot q1 q2 q3 q4 q5 q6 q7 q8 q9 q10 q11 k1 k2]
theorem path_seg {pt p0 p0' p0'' p1 p2 p3 p4 p5 q1 q2 q3 q4 q5 q6 q7 q8 q9 q10 q11 : Pos} {k1 k2 : Nat} (T : PEnv env) (hi : interactive env = false) (hL : env.locals ≠ mainGlobals) (hiL : it ≠ env.locals) (hiG : it ≠ mainGlobals) (hz : size ≠ 0)
    (hJ : ∀ s₀ s s', J0 s₀ s → Mv env.locals it s s' → J0 s₀ s') {kf : Result → Sem PySem.Fin} {g : Bool → Bool} {l : List Value} {c : Code} {p : Pos} (hg : g false = false)
    (hA : (A.over (.forLoop (.Name "_" pt) (.ref it) (loopBody p0 p0' p0'' p1 p2 p3 p4 p5 q1 q2 q3 q4 q5 q6 q7 q8 q9 q10 q11 k1 k2) [] env) [.ret kf none (g false) l c p []]).handled = none)
    (hend : ∀ s₀ s, Jr J0 env.locals it N s₀ s → Seg (model prog w) A (RP J0 env.locals it N) (YP J0 env it N size code) 0 s₀ c (kf (.ok .next)) [] s) :
    ∀ (r i : Nat) (s₀ s : Shared), i + r = N → LSt env it N size code i s.heap → Jr J0 env.locals it i s₀ s →
      Seg (model prog w) A (RP J0 env.locals it N) (YP J0 env it N size code) r s₀ (.forLoop (.Name "_" pt) (.ref it) (loopBody p0 p0' p0'' p1 p2 p3 p4 p5 q1 q2 q3 q4 q5 q6 q7 q8 q9 q10 q11 k1 k2) [] env)
        ((model prog w).den (.forLoop (.Name "_" pt) (.ref it) (loopBody p0 p0' p0'' p1 p2 p3 p4 p5 q1 q2 q3 q4 q5 q6 q7 q8 q9 q10 q11 k1 k2) [] env)) [.ret kf none (g false) l c p []] s := by
  have jmv : ∀ i s₀ s s', Jr J0 env.locals it i s₀ s → Mv env.locals it s s' → Jr J0 env.locals it i s₀ s' := fun i s₀ s s' h m => by
    unfold Jr at h ⊢
    split at h
    · rename_i e
      rw [if_pos e]; exact hJ _ _ _ h m
    · rename_i e
      rw [if_neg e]; exact h.trans m
  intro r
  induction r with
  | zero =>
    intro i s₀ s hir x j
    obtain rfl : i = N := by omega
    refine seg_forLoop (fun v => rfl) ?_
    refine wpAny_pyNext_range_end hA x.rg (by omega) fun h' eb => ?_
    show Seg _ _ _ _ 0 s₀ (.block [] env) ((model prog w).den (.block [] env)) _ _
    refine seg_leaf (.ok .next) (hend s₀ _ (jmv _ _ _ _ j ⟨h', s.toks, rfl, fun b o _ hb e => eb b o hb e⟩))
  | succ r ih =>
    intro i s₀ s hir x j
    refine seg_forLoop (fun v => rfl) ?_
    have W := Walks.range (prog := prog) (w := w) hA it 0 1 N
    refine W.item i s _ _ (by omega) x.rg fun v h1 t1 hv rg1 k1' => ?_
    obtain ⟨tv, rfl⟩ := hv
    have kk : ∀ b o, b ≠ it → s.heap.get? b = some o → h1.get? b = some o := fun b o hb e => k1' b o (by simpa using hb) e
    have f1 : Fm env h1 size (sl size code i) (pu code i) := x.fm.keeps fun b o hb e => kk b o (by rcases hb with hb | hb <;> rw [hb] <;> first | exact Ne.symm hiL | exact Ne.symm hiG) e
    have j1 : Jr J0 env.locals it i s₀ { s with heap := h1, toks := t1 } := jmv _ _ _ _ j ⟨h1, t1, rfl, fun b o _ hb e => kk b o hb e⟩
    -- the loop's own name
    show wpAny _ _ (assign (.Name "_" pt) env _) _ _ _
    obtain ⟨⟨m, hn, ⟨a1, e1⟩, ⟨a2, e2⟩, ⟨a3, e3⟩⟩, ⟨mg, hg', gq⟩⟩ := f1
    have n1 : ¬ (("slot" : Str) = "_") := by decide
    have n2 : ¬ (("push" : Str) = "_") := by decide
    have n3 : ¬ (("size" : Str) = "_") := by decide
    refine wpAny_assign_Name (wpAny_storeName_local (s := { s with heap := h1, toks := t1 }) T.low hn (fun h2 hn2 hs2 => ?_) (by rw [T.kind]; rfl))
    have f2 : Fm env h2 size (sl size code i) (pu code i) := ⟨⟨_, hn2, ⟨a1, by rw [if_neg n1]; exact e1⟩, ⟨a2, by rw [if_neg n2]; exact e2⟩, ⟨a3, by rw [if_neg n3]; exact e3⟩⟩, ⟨mg, hg'.sameBut hs2 (Ne.symm hL), gq⟩⟩
    have j2 : Jr J0 env.locals it i s₀ { s with heap := h2, toks := t1 + 1 } := jmv _ _ _ _ j1 ⟨h2, t1 + 1, rfl, fun b o hb _ e => (hs2.2 b hb).trans e⟩
    have y2 : LSy env it N size code i h2 := ⟨f2, (hs2.2 it hiL).trans rg1⟩
    -- yield slot
    refine seg_execs_cons ?_
    refine seg_Expr_Yield (n := r) (gd := id) (by rfl) rfl (by show (g false || false) = false; rw [hg]; rfl) ?_ T.co hi
    obtain ⟨⟨m2, hm2, ⟨b1, c1⟩, _⟩, _⟩ := f2
    refine nm (s := { s with heap := h2, toks := t1 + 1 }) T T.slot hm2 c1 ?_
    intro kap hk
    refine ⟨i, b1, by omega, rfl, j2, y2, fun s'' z => hk .none s'' ?_⟩
    show Seg _ _ _ _ r s'' _ _ _ _
    have y3 := y2.keeps (s := { s with heap := h2, toks := t1 + 1 }) (s' := s'') z
    -- push, slot
    show Seg _ _ _ _ r s'' _ ((execs [stPush p1 p2 p3 p4 p5, stSlot q1 q2 q3 q4 q5 q6 q7 q8 q9 q10 q11 k1 k2] env).wrap _ _ id id) _ s''
    refine seg_execs_cons (seg_wrap (run_push T hL y3.fm fun h4 t4 f4 k4 => ?_))
    show Seg _ _ _ _ r s'' _ ((execs [stSlot q1 q2 q3 q4 q5 q6 q7 q8 q9 q10 q11 k1 k2] env).wrap _ _ id id) _ _
    refine seg_execs_cons (seg_wrap (run_slot (s := { s'' with heap := h4, toks := t4 }) T hL hz f4 fun h5 t5 f5 k5 => ?_))
    show Seg _ _ _ _ r s'' _ ((execs [] env).wrap _ _ id id) _ _
    refine seg_execs_nil ?_
    refine seg_again rfl ?_
    refine ih (i + 1) s'' _ (by omega) ⟨f5, (k5 it _ hiL (k4 it _ hiL y3.rg))⟩ ?_
    unfold Jr
    rw [if_neg (by omega)]
    exact ⟨h5, t5, rfl, fun b o hb _ e => k5 b o hb (k4 b o hb e)⟩
end
end Pth
set_option Elab.async false
set_option linter.all false
set_option maxRecDepth 100000
set_option maxHeartbeats 1000000
/-! Pg: the first wake of a generator, its end by any word -/
namespace Pth
open PySem PySem.Spec PyProof.Rows L2 GenW
def SegG (M : Model) (A : Around) (Φ : End → Shared → Prop) (c : Code) (t : Sem PySem.Fin) (fs : List Frame) (s : Shared) : Prop :=
  ∀ (Γ : PySem.Ctx) (p : Pos), Γ.code = c → Γ.Woken A → ∃ e s', Runs M Γ p t fs s e s' ∧ Φ e s'
section
variable {M : Model} {A : Around} {Φ : End → Shared → Prop} {c : Code} {fs : List Frame} {s : Shared} {env : Env}
theorem sg_wrap {α : Type} {m : Sem α} {K : α → Sem PySem.Fin} {H : Value → Sem PySem.Fin} {gd lv}
    (h : wpAny M (A.over c fs) m (fun a s' => SegG M A Φ c (K a) fs s') (fun x s' => SegG M A Φ c (H x) fs s') s) : SegG M A Φ c (m.wrap K H gd lv) fs s := by
  rintro Γ p rfl hΓ
  exact runs_wrap_of_wp K H gd lv m (h (Γ.over fs) p (hΓ.over fs)) (fun a p' s' h' => h' Γ p' rfl hΓ) (fun x p' s' h' => h' Γ p' rfl hΓ)
theorem sg_at {p' : Pos} {k : Unit → Sem PySem.Fin} (h : SegG M A Φ c (k ()) fs s) : SegG M A Φ c (.at p' k) fs s :=
  sg_wrap (m := standAt p') (K := k) (H := .raise) (gd := id) (lv := id) (wpAny_standAt h)
theorem sg_point {l : List Value} {k : Unit → Sem PySem.Fin} (h : SegG M A Φ c (k ()) fs s) : SegG M A Φ c (.point l k) fs s :=
  sg_wrap (m := point) (K := k) (H := .raise) (gd := id) (lv := fun _ => l) (wpAny_point h)
theorem sg_call {c' : Code} {h g l} {k : Result → Sem PySem.Fin} (hc : ∀ p, SegG M A Φ c' (M.den c') (.ret k h g l c p [] :: fs) s) : SegG M A Φ c (.call c' h g l k) fs s := by
  rintro Γ p rfl hΓ
  obtain ⟨e, s', hr, he⟩ := hc p (Γ.goto c') p rfl (hΓ.goto c')
  exact ⟨e, s', runs_call_seg hr, he⟩
theorem sg_leaf {k h g l c₁ p₁ kp} (r : Result) (hk : SegG M A Φ c₁ (k r) fs s) : SegG M A Φ c (leafOf r) (.ret k h g l c₁ p₁ kp :: fs) s := by
  rintro Γ p rfl hΓ
  obtain ⟨e, s', hr, he⟩ := hk (Γ.goto c₁) p₁ rfl (hΓ.goto c₁)
  exact ⟨e, s', Runs.pop r hr, he⟩
theorem sg_again {c' : Code} (hq : c'.quiet = true) (hc : SegG M A Φ c' (M.den c') fs s) : SegG M A Φ c (.pure (.again c')) fs s := by
  rintro Γ p rfl hΓ
  obtain ⟨e, s', hr, he⟩ := hc (Γ.goto c') p rfl (hΓ.goto c')
  exact ⟨e, s', Runs.head (c₁ := c') (fun _ _ x => .again hq x) hr, he⟩
theorem sg_end (r : Result) (h : Φ (.ret r) s) : SegG M A Φ c (leafOf r) [] s := by
  rintro Γ p rfl _
  exact ⟨.ret r, s, Runs.leaf r, h⟩
theorem sg_yield {v g l} {k : Resume → Sem PySem.Fin} (hfs : splitAtGen fs = none) (h : ∀ p, Φ (.susp v g l k c p fs) s) : SegG M A Φ c (.yield v g l k) fs s := by
  rintro Γ p rfl _
  exact ⟨_, s, Runs.yield' fs hfs, h p⟩
variable {K : Flow → Sem PySem.Fin} {H : Value → Sem PySem.Fin} {gd : Bool → Bool} {lv : List Value → List Value}
theorem sg_execs_nil (h : SegG M A Φ c (K .next) fs s) : SegG M A Φ c ((execs [] env).wrap K H gd lv) fs s := h
theorem sg_execs_cons {st : Stmt} {rest : List Stmt}
    (h : SegG M A Φ c ((exec st env).wrap (fun f => match f with | .next => (execs rest env).wrap K H gd lv | f => K f) H gd lv) fs s) :
    SegG M A Φ c ((execs (st :: rest) env).wrap K H gd lv) fs s := by rw [execs_cons_wrap]; exact h
/-- some statements ahead, by one judgement -/
theorem execs_app_wrap : ∀ (l r : List Stmt) (K : Flow → Sem PySem.Fin), (execs (l ++ r) env).wrap K H gd lv = (execs l env).wrap (fun f => match f with | .next => (execs r env).wrap K H gd lv | f => K f) H gd lv := by
  intro l
  induction l with
  | nil => intro r K; rfl
  | cons a t ih =>
    intro r K
    rw [List.cons_append, execs_cons_wrap, execs_cons_wrap]
    refine Sem.wrap_congr _ gd lv (fun f => ?_) (fun _ => rfl)
    cases f with
    | next => exact ih r K
    | _ => rfl
theorem sg_app {l r : List Stmt} (h : SegG M A Φ c ((execs l env).wrap (fun f => match f with | .next => (execs r env).wrap K H gd lv | f => K f) H gd lv) fs s) : SegG M A Φ c ((execs (l ++ r) env).wrap K H gd lv) fs s := by
  rw [execs_app_wrap]; exact h
theorem sg_For {target iter : Expr} {body orelse : List Stmt} {pos : Pos} (hs : ∀ x, foldedSetIterable iter env x = pure x)
    (h : wpAny M (A.over c fs) (eval iter env) (fun x s₁ => wpAny M (A.over c fs) (pyIter x) (fun it s₂ => ∀ p, SegG M A Φ (.forLoop target it body orelse env) (M.den (.forLoop target it body orelse env)) (.ret (behind env K H gd lv) none (gd false) (lv []) c p [] :: fs) s₂)
      (fun x s' => SegG M A Φ c (H x) fs s') s₁) (fun x s' => SegG M A Φ c (H x) fs s') s) :
    SegG M A Φ c ((exec (.For target iter body orelse pos) env).wrap K H gd lv) fs s := by
  rw [exec_For]
  refine sg_at ?_
  show SegG _ _ _ _ (((eval iter env) >>= fun x => (foldedSetIterable iter env x >>= fun x => (standAt iter.pos >>= fun _ => (holding [x] (pyIter x)) >>= fun it => runOwn (.forLoop target it body orelse env) env))).wrap K H gd lv) fs s
  rw [Sem.bind_eq_wrap', Sem.wrap_wrap]
  refine sg_wrap (wpAny_mono h (fun x s₁ h₁ => ?_) fun _ _ h' => h')
  rw [hs x]
  refine sg_at ?_
  show SegG _ _ _ _ (((holding [x] (pyIter x)) >>= fun it => runOwn (.forLoop target it body orelse env) env).wrap K H gd lv) fs s₁
  rw [Sem.bind_eq_wrap', Sem.wrap_wrap]
  refine sg_wrap (wpAny_holding (wpAny_mono h₁ (fun it s₂ h₂ => ?_) fun _ _ h' => h'))
  exact sg_call h₂
end
section
variable {prog : Program} {w : World} {A : Around} {Φ : End → Shared → Prop} {fs : List Frame} {s : Shared} {env : Env}
theorem sg_forLoop {target : Expr} {it : Value} {body orelse : List Stmt} (hgo : ∀ v, letOwnedTupleGo target it v = pure ())
    (h : wpAny (model prog w) (A.over (.forLoop target it body orelse env) fs) (pyNext it) (fun r s₁ => match r with
        | none => SegG (model prog w) A Φ (.block orelse env) ((model prog w).den (.block orelse env)) fs s₁
        | some v => wpAny (model prog w) (A.over (.forLoop target it body orelse env) fs) (assign target env v) (fun _ s₂ =>
            SegG (model prog w) A Φ (.forLoop target it body orelse env) ((execs body env).wrap (turned target it body orelse env) (noted env) id id) fs s₂)
            (fun _ _ => False) s₁) (fun _ _ => False) s)
    (hq : (Code.block orelse env).quiet = true := by rfl) :
    SegG (model prog w) A Φ (.forLoop target it body orelse env) ((model prog w).den (.forLoop target it body orelse env)) fs s := by
  show SegG _ A Φ _ ((forTurn target it body orelse env).onRaise (fun x => do noteFrame x env; theTreesLotGoes x)) fs s
  rw [Sem.onRaise_eq_wrap]
  unfold forTurn
  refine sg_at ?_
  show SegG _ A Φ _ ((((pyNext it).onRaise (fun _ => standAt { target.pos with line := 0 })) >>= fun r => (match r with
    | none => again (.block orelse env)
    | some v => letOwnedTupleGo target it v >>= fun _ => assign target env v >>= fun _ => execs body env >>= fun f => (match f with
      | .next | .cont => again (.forLoop target it body orelse env)
      | .brk => pure (.done .next)
      | .ret v => pure (.done (.ret v)) : Sem PySem.Fin) : Sem PySem.Fin)).wrap _ _ id id) fs s
  rw [Sem.bind_eq_wrap', Sem.wrap_wrap]
  refine sg_wrap (wpAny_onRaise (wpAny_mono h (fun r s₁ h₁ => ?_) fun _ _ h' => h'.elim))
  cases r with
  | none => exact sg_again hq h₁
  | some v =>
    show SegG _ A Φ _ ((letOwnedTupleGo target it v >>= fun _ => assign target env v >>= fun _ => execs body env >>= fun f => (match f with
      | .next | .cont => again (.forLoop target it body orelse env)
      | .brk => pure (.done .next)
      | .ret v => pure (.done (.ret v)) : Sem PySem.Fin)).wrap _ _ id id) fs s₁
    rw [hgo v]
    show SegG _ A Φ _ ((assign target env v >>= fun _ => execs body env >>= fun f => (match f with
      | .next | .cont => again (.forLoop target it body orelse env)
      | .brk => pure (.done .next)
      | .ret v => pure (.done (.ret v)) : Sem PySem.Fin)).wrap _ _ id id) fs s₁
    rw [Sem.bind_eq_wrap', Sem.wrap_wrap]
    refine sg_wrap (wpAny_mono h₁ (fun _ s₂ h₂ => ?_) fun _ _ h' => h'.elim)
    rw [Sem.bind_eq_wrap', Sem.wrap_wrap]
    refine cast ?_ h₂
    congr 1
    refine Sem.wrap_congr _ id id (fun f => by cases f <;> rfl) (fun e => ?_)
    show _ = ((do noteFrame e env; theTreesLotGoes e : Sem Unit).bind (fun _ => Sem.raise e))
    rw [Sem.bind_eq_wrap]
theorem sg_Expr_Yield {K : Flow → Sem PySem.Fin} {H : Value → Sem PySem.Fin} {e : Expr} {ypos pos : Pos} {c : Code} (hfs : splitAtGen fs = none)
    (h : wpAny (model prog w) (A.over c fs) (eval e env) (fun v s' => ∀ p k, (∀ v, k (.send v) = (dropValue (.Yield (some e) ypos) pos v).wrap K H id id) → Φ (.susp v false [] k c p fs) s')
      (fun x s' => SegG (model prog w) A Φ c (H x) fs s') s) (hco : env.scope.isCoroutine = false := by rfl) (hi : interactive env = false := by rfl) :
    SegG (model prog w) A Φ c ((exec (.Expr (.Yield (some e) ypos) pos) env).wrap K H id id) fs s := by
  rw [exec_Expr env _ pos hi rfl]
  show SegG _ A Φ c (.at pos fun _ => ((eval e env >>= fun v => (standAt ypos >>= fun _ => yieldOut env v)) >>= fun x =>
    dropValue (.Yield (some e) ypos) pos x).wrap K H id id) fs s
  have hy : ∀ v, yieldOut env v = yieldValue v := fun v => by simp only [yieldOut, hco, Bool.false_eq_true, if_false]
  simp only [hy]
  refine sg_at ?_
  rw [Sem.bind_eq_wrap', Sem.bind_eq_wrap', Sem.wrap_wrap, Sem.wrap_wrap]
  refine sg_wrap (wpAny_mono h (fun v s' h' => ?_) fun _ _ x => x)
  refine sg_at ?_
  exact sg_yield hfs fun p => h' p _ fun v => rfl
theorem sg_func {body : List Stmt}
    (h : SegG (model prog w) A Φ (.func body env) ((execs body env).wrap (fun f => .pure (.done (.ret (match f with | .ret v => v | _ => .none))))
      (fun e => (leaving env e).wrap (fun _ => .raise e) .raise id id) id id) fs s) :
    SegG (model prog w) A Φ (.func body env) ((model prog w).den (.func body env)) fs s := by
  show SegG _ A Φ _ (.point [] fun _ => ((execs body env).onRaise (leaving env)) >>= _) fs s
  refine sg_point ?_
  rw [Sem.onRaise_eq_wrap, Sem.bind_eq_wrap', Sem.wrap_wrap]
  rw [Sem.wrap_congr (execs body env) _ _ (K' := fun f => .pure (.done (.ret (match f with | .ret v => v | _ => .none))))
    (H' := fun e => (leaving env e).wrap (fun _ => .raise e) .raise id id) (fun f => by cases f <;> rfl)
    (fun e => by rw [Sem.bind_eq_wrap, Sem.wrap_wrap]; rfl)]
  exact h
end

/-! ### the first turn -/
/-- what the first wake comes to: J the state's own word; no slot at all, or the first one is out -/
def FstP (prog : Program) (w : World) (A : Around) (env : Env) (N : Nat) (size code : Int) (low : List Addr) (J : Shared → Prop) (e : End) (s' : Shared) : Prop := match e with
  | .ret r => r = .ok (.ret .none) ∧ N = 0 ∧ J s'
  | .susp v g l k c p fs => (End.susp v g l k c p fs).quiet = true ∧ 0 < N ∧ (∃ t, v = .int (sl size code 0) t) ∧ J s' ∧ ∃ it : Addr, (∀ b ∈ low, b < it) ∧ LSy env it N size code 0 s'.heap ∧
      ∀ s'', Slp env it s' s'' → Seg (model prog w) A (RP (fun _ _ => True) env.locals it N) (YP (fun _ _ => True) env it N size code) (N - 1) s'' c (k (.send .none)) fs s''
section
variable {prog : Program} {w : World} {A : Around} {env : Env} {it : Addr} {N : Nat} {size code : Int}
theorem path_first {J : Shared → Prop} {low : List Addr} {pt p0 p0' p0'' p1 p2 p3 p4 p5 q1 q2 q3 q4 q5 q6 q7 q8 q9 q10 q11 : Pos} {k1 k2 : Nat} (T : PEnv env) (hi : interactive env = false) (hL : env.locals ≠ mainGlobals) (hiL : it ≠ env.locals) (hiG : it ≠ mainGlobals) (hz : size ≠ 0) (hlow : ∀ b ∈ low, b < it)
    (hJ : ∀ s s', J s → Mv env.locals it s s' → J s') {kf : Result → Sem PySem.Fin} {g : Bool → Bool} {l : List Value} {c : Code} {p : Pos} (hg : g false = false)
    (hA : (A.over (.forLoop (.Name "_" pt) (.ref it) (loopBody p0 p0' p0'' p1 p2 p3 p4 p5 q1 q2 q3 q4 q5 q6 q7 q8 q9 q10 q11 k1 k2) [] env) [.ret kf none (g false) l c p []]).handled = none)
    (hend0 : ∀ s, N = 0 → J s → SegG (model prog w) A (FstP prog w A env N size code low J) c (kf (.ok .next)) [] s)
    (hend : ∀ s₀ s, Jr (fun _ _ => True) env.locals it N s₀ s → Seg (model prog w) A (RP (fun _ _ => True) env.locals it N) (YP (fun _ _ => True) env it N size code) 0 s₀ c (kf (.ok .next)) [] s)
    {s : Shared} (x : LSt env it N size code 0 s.heap) (j : J s) :
    SegG (model prog w) A (FstP prog w A env N size code low J) (.forLoop (.Name "_" pt) (.ref it) (loopBody p0 p0' p0'' p1 p2 p3 p4 p5 q1 q2 q3 q4 q5 q6 q7 q8 q9 q10 q11 k1 k2) [] env)
        ((model prog w).den (.forLoop (.Name "_" pt) (.ref it) (loopBody p0 p0' p0'' p1 p2 p3 p4 p5 q1 q2 q3 q4 q5 q6 q7 q8 q9 q10 q11 k1 k2) [] env)) [.ret kf none (g false) l c p []] s := by
  refine sg_forLoop (fun v => rfl) ?_
  by_cases hN : N = 0
  · refine wpAny_pyNext_range_end hA x.rg (by omega) fun h' eb => ?_
    show SegG _ _ _ (.block [] env) ((model prog w).den (.block [] env)) _ _
    exact sg_leaf (.ok .next) (hend0 _ hN (hJ _ _ j ⟨h', s.toks, rfl, fun b o _ hb e => eb b o hb e⟩))
  · have W := Walks.range (prog := prog) (w := w) hA it 0 1 N
    refine W.item 0 s _ _ (by omega) x.rg fun v h1 t1 hv rg1 k1' => ?_
    obtain ⟨tv, rfl⟩ := hv
    have kk : ∀ b o, b ≠ it → s.heap.get? b = some o → h1.get? b = some o := fun b o hb e => k1' b o (by simpa using hb) e
    have f1 : Fm env h1 size (sl size code 0) (pu code 0) := x.fm.keeps fun b o hb e => kk b o (by rcases hb with hb | hb <;> rw [hb] <;> first | exact Ne.symm hiL | exact Ne.symm hiG) e
    have j1 : J { s with heap := h1, toks := t1 } := hJ _ _ j ⟨h1, t1, rfl, fun b o _ hb e => kk b o hb e⟩
    show wpAny _ _ (assign (.Name "_" pt) env _) _ _ _
    obtain ⟨⟨m, hn, ⟨a1, e1⟩, ⟨a2, e2⟩, ⟨a3, e3⟩⟩, ⟨mg, hg', gq⟩⟩ := f1
    have n1 : ¬ (("slot" : Str) = "_") := by decide
    have n2 : ¬ (("push" : Str) = "_") := by decide
    have n3 : ¬ (("size" : Str) = "_") := by decide
    refine wpAny_assign_Name (wpAny_storeName_local (s := { s with heap := h1, toks := t1 }) T.low hn (fun h2 hn2 hs2 => ?_) (by rw [T.kind]; rfl))
    have f2 : Fm env h2 size (sl size code 0) (pu code 0) := ⟨⟨_, hn2, ⟨a1, by rw [if_neg n1]; exact e1⟩, ⟨a2, by rw [if_neg n2]; exact e2⟩, ⟨a3, by rw [if_neg n3]; exact e3⟩⟩, ⟨mg, hg'.sameBut hs2 (Ne.symm hL), gq⟩⟩
    have j2 : J { s with heap := h2, toks := t1 + 1 } := hJ _ _ j1 ⟨h2, t1 + 1, rfl, fun b o hb _ e => (hs2.2 b hb).trans e⟩
    have y2 : LSy env it N size code 0 h2 := ⟨f2, (hs2.2 it hiL).trans rg1⟩
    refine sg_execs_cons ?_
    refine sg_Expr_Yield (by rfl) ?_ T.co hi
    obtain ⟨⟨m2, hm2, ⟨b1, c1⟩, _⟩, _⟩ := f2
    refine nm (s := { s with heap := h2, toks := t1 + 1 }) T T.slot hm2 c1 ?_
    intro pp kk' hkk
    refine ⟨?_, by omega, ⟨b1, rfl⟩, j2, it, hlow, y2, fun s'' z => ?_⟩
    · show (!(false || (g false || false))) = true
      rw [hg]; rfl
    rw [hkk]
    show Seg _ _ _ _ _ s'' _ (((dropValue (.Yield (some (.Name "slot" p0)) p0') p0'' .none)).wrap _ _ id id) _ s''
    have y3 := y2.keeps (s := { s with heap := h2, toks := t1 + 1 }) (s' := s'') z
    show Seg _ _ _ _ _ s'' _ ((execs [stPush p1 p2 p3 p4 p5, stSlot q1 q2 q3 q4 q5 q6 q7 q8 q9 q10 q11 k1 k2] env).wrap _ _ id id) _ s''
    refine seg_execs_cons (seg_wrap (run_push T hL y3.fm fun h4 t4 f4 k4 => ?_))
    show Seg _ _ _ _ _ s'' _ ((execs [stSlot q1 q2 q3 q4 q5 q6 q7 q8 q9 q10 q11 k1 k2] env).wrap _ _ id id) _ _
    refine seg_execs_cons (seg_wrap (run_slot (s := { s'' with heap := h4, toks := t4 }) T hL hz f4 fun h5 t5 f5 k5 => ?_))
    show Seg _ _ _ _ _ s'' _ ((execs [] env).wrap _ _ id id) _ _
    refine seg_execs_nil ?_
    refine seg_again rfl ?_
    refine path_seg T hi hL hiL hiG hz (fun _ _ _ _ _ => trivial) hg hA hend (N - 1) 1 s'' _ (by omega) ⟨f5, (k5 it _ hiL (k4 it _ hiL y3.rg))⟩ ?_
    unfold Jr
    rw [if_neg (by omega)]
    exact ⟨h5, t5, rfl, fun b o hb _ e => k5 b o hb (k4 b o hb e)⟩
end
end Pth
set_option Elab.async false
set_option linter.all false
set_option maxRecDepth 100000
set_option maxHeartbeats 1000000
/-! Pm: path is called -/
namespace Pth
open PySem PySem.Spec PyProof.Rows L2 GenW
theorem run_range {X : Cx} {pins : List (Addr × Obj)} {σ : L2.St} {H : Hp} {s : Shared} {j : Int} {p pm pos : Pos} (I : Inv X pins σ H s) (hg : Gl X "range") (hm : X.mg "range" = none) (h2 : X.N[2]? = some ("many" : Str)) (hv : Vis X.env.scope "many") (hσ : σ[2]? = some (some (V.int j)))
    (j0 : 0 ≤ j) (j1 : j < 2 ^ 62) :
    wpAny (model X.prog X.w) X.A (eval (.Call (.Name "range" p) [.Name "many" pm] [] pos) X.env) (fun v s1 => wpAny (model X.prog X.w) X.A (pyIter v) (fun itv s2 => ∃ it : Addr, itv = .ref it ∧ X.env.locals < it ∧ (∀ p ∈ X.pn ++ pins, p.1 < it) ∧
      IsRangeIter s2.heap it (0 + ((0 : Nat) : Int) * 1) ((j.toNat : Int) - ((0 : Nat) : Int)) 1 ∧ Inv X pins σ H s2) X.xe s1) X.xe s := by
  refine Call_ (ld_blt I hg hm boot_range (PyProof.Rows.callWith_type1 (thn ((pa_cons (pe_var (i := 2) h2 hv) pa_nil).run pos pins s σ H (fun vs H1 => vs = [.int j] ∧ H1 = H) I ⟨_, hσ, rfl, rfl⟩) fun us s1 ⟨vs, H1, I1, r1, q1⟩ => ?_) rfl rfl))
  obtain ⟨e1, e2⟩ := q1
  subst e1
  subst e2
  cases r1 with
  | cons r rr =>
    cases rr
    obtain ⟨t, rfl⟩ := r
    refine call_range_1 ?_
    refine wpAny_pyIter_range (IsRange.new ..) (small_one (by omega) (by omega) (by omega) j1) ?_
    have I2 : Inv X pins σ H1 { s1 with heap := s1.heap.push { cls := .type "range", data := .fields #[.int 0 s1.toks, .int j t, .int 1 (s1.toks + 1)] }, toks := s1.toks + 1 + 1 } := I1.kept (t' := s1.toks + 1 + 1) fun b o e => Heap.get?_push_of_some _ e
    have hsz : s1.heap.objs.size < (s1.heap.push { cls := .type "range", data := .fields #[.int 0 s1.toks, .int j t, .int 1 (s1.toks + 1)] }).objs.size := by rw [Heap.size_push]; exact Nat.lt_succ_self _
    refine ⟨_, rfl, Nat.lt_trans I1.lt hsz, fun p hp => Nat.lt_trans (Heap.lt_size (I1.pin p hp).1) hsz, ?_, I2.kept (t' := s1.toks + 1 + 1) fun b o e => Heap.get?_push_of_some _ e⟩
    have e1 : (0 : Int) + ((0 : Nat) : Int) * 1 = 0 := by simp
    have e2 : ((j.toNat : Nat) : Int) - ((0 : Nat) : Int) = Builtin.Range.rangeSize 0 j 1 := by rw [rangeSize_one]; split <;> omega
    rw [e1, e2]
    exact Heap.get?_push_size _ rfl

/-- what a call of path gives: a generator that has not begun; what its first wake comes to, from any state that has all that stood there -/
structure PMade (P : Program) (w : World) (k : Nat) (outer : List Env) (H : Hp) (sC : Shared) (N : Nat) (size code : Int) (a : Addr) (g : Nat) (c : Code) (env : Env) (s' : Shared) : Prop where
  T : PEnv env
  nG : env.locals ≠ mainGlobals
  young : sC.heap.objs.size ≤ env.locals
  La : env.locals < a
  aE : a + 1 = s'.heap.objs.size
  gen : s'.heap.IsGen a g
  fresh : s'.gens[g]? = some (.fresh c)
  os : s'.os = sC.os
  bare : AllBare s'.gens
  lim : s'.heap.NoLimit
  keep : ∀ b o, sC.heap.get? b = some o → s'.heap.get? b = some o
  wake : ∀ (A : Around) (s2 : Shared) (xs : List (Addr × Obj)), Room k A → A.frames = some outer → (∀ b o, s'.heap.get? b = some o → s2.heap.get? b = some o) → s2.os = sC.os → AllBare s2.gens → (∀ p ∈ xs, s2.heap.get? p.1 = some p.2 ∧ a < p.1 ∧ ∀ v, p.2.data ≠ .cell v) →
     SegG (model P w) A (FstP P w A env N size code (a :: xs.map (·.1)) (fun s3 => s3.os = sC.os ∧ AllBare s3.gens ∧ Un (frs outer) [] H H sC.heap s3.heap ∧ HOk P w H s3.heap ∧ s3.heap.IsGen a g ∧ s3.heap.NoLimit ∧ ∀ p ∈ xs, s3.heap.get? p.1 = some p.2)) c ((model P w).den c) [] s2
def E00 : XK := fun _ _ _ => False
section
variable {P : Program} {w : World} {K : PySem.W.Frag} {mg : Str → Option Value} {base : Heap}
/-- path's names -/
abbrev pN : List Str := ["code", "size", "many", "slot", "push", "_"]
abbrev pP : List Str := ["code", "size", "many"]
structure PSc (sc : Scope) : Prop where
  S : GScope pN pP sc
  co : sc.isCoroutine = false
  slot : sc.names.lookup ("slot" : Str) = some NameKind.local
  push : sc.names.lookup ("push" : Str) = some NameKind.local
  size : sc.names.lookup ("size" : Str) = some NameKind.local
  many : sc.names.lookup ("many" : Str) = some NameKind.local
  low : sc.names.lookup ("_" : Str) = some NameKind.local
  share : sc.names.lookup ("PUSH_SHARE" : Str) = some NameKind.globalImplicit
  range : sc.names.lookup ("range" : Str) = some NameKind.globalImplicit
theorem PSc.env {sc : Scope} (S : PSc sc) {q : Str} {L f : Addr} {cd : Value} : PEnv (envOfC q sc L f cd) := ⟨S.S.kind, S.co, rfl, S.slot, S.push, S.size, S.low, S.share⟩
theorem path_call {k : Nat} {f : Addr} {name qual : Str} {params : Arguments} {l5 : List Stmt} {scope : Scope} {dV kV doc pm cdv ct oc : Value} {an od : Option Addr} {osl : Array (Option Value)} {tsh : Tok}
    {pt pr pmm pcl pf p0 p0' p0'' p1 p2 p3 p4 p5 q1 q2 q3 q4 q5 q6 q7 q8 q9 q10 q11 : Pos} {k1 k2 : Nat} {size code many : Int}
    (lk : K.lookup f = some ⟨oc, od, .func (PySem.W.fnOf name qual params (l5 ++ [.For (.Name "_" pt) (.Call (.Name "range" pr) [.Name "many" pmm] [] pcl) (loopBody p0 p0' p0'' p1 p2 p3 p4 p5 q1 q2 q3 q4 q5 q6 q7 q8 q9 q10 q11 k1 k2) [] pf]) scope dV kV doc pm an cdv ct), osl⟩)
    (hcd : PySem.W.codeIn K cdv qual = true) (S : PSc scope) (msh : mg "PUSH_SHARE" = some (.int 32 tsh)) (mra : mg "range" = none) (hm0 : 0 ≤ many) (hm1 : many < 2 ^ 62) (hz : size ≠ 0)
    (h5 : ∀ (A : Around) (outer : List Env) (s : Shared) (H : Hp) (pn : List (Addr × Obj)), Room k (A.deeper (envOfC qual scope s.heap.objs.size f cdv)) →
      ∃ t, PSs (gcxOf P w K mg base pN qual scope f cdv A outer s H E00 pn) l5 t ∧ t { nx := fun σ' H' => σ' = [some (.int code), some (.int size), some (.int many), some (.int (code.fmod size)), some (.int code), none] ∧ H' = H, rt := fun _ _ => False } (start pN [.int code, .int size, .int many]) H)
    {A : Around} {outer : List Env} {s : Shared} {H : Hp} {args : Args} {us : List Value} (hr : Room (k + 1) A) (e0 : Env0 P w K mg base A outer s H)
    (hb : BindsTo s (PySem.W.fnOf name qual params (l5 ++ [.For (.Name "_" pt) (.Call (.Name "range" pr) [.Name "many" pmm] [] pcl) (loopBody p0 p0' p0'' p1 p2 p3 p4 p5 q1 q2 q3 q4 q5 q6 q7 q8 q9 q10 q11 k1 k2) [] pf]) scope dV kV doc pm an cdv ct) args (pP.zip us))
    (r : Vals [.int code, .int size, .int many] us) :
    codeAny (model P w) A (.call (.ref f) args) (fun r s' => match r with | .ok (.ret u) => ∃ a g c env, u = .ref a ∧ PMade P w (k + 1) outer H s many.toNat size code a g c env s' | _ => False) s := by
  have hl : [V.int code, .int size, .int many].length = pP.length := rfl
  have KX : K.In s.heap := e0.mod.kin.keeps fun b o e => (e0.bs b o e).1
  have lim : s.heap.NoLimit := e0.mod.nolimit.keeps fun b o e => (e0.bs b o e).1
  have hkind : ∀ y ∈ pP.zip us, scope.names.lookup y.1 = some .local ∨ (scope.names.lookup y.1 = some .cell ∧ ((cellsFrom (s.heap.objs.size + 1) scope.names []).lookup y.1).isSome = true) := fun ⟨n, v⟩ hy => by
    rcases S.S.par n (List.of_mem_zip hy).1 with q | q
    · exact .inl q
    · exact .inr ⟨q, PySem.W.cellsFrom_some _ _ _ (.inl q)⟩
  refine codeAny_call_generator hr.depth (KX _ _ lk) rfl S.S.co S.S.gen rfl (PySem.W.codeRec_of KX hcd) (hb _ _ _ _ ?_)
  refine wpAny_newFunctionEnv_cells S.S.kind hkind fun env he s1 x => ?_
  subst he
  have lim1 : s1.heap.NoLimit := lim.keeps x.toInCall.keep
  refine ⟨lim1, ?_⟩
  obtain ⟨h1, tk, es1, hk1⟩ := x.done
  have os1 : s1.os = s.os := by rw [es1]
  have gen1 : s1.gens = s.gens := by rw [es1]
  have lt1 : s.heap.objs.size < s1.heap.objs.size := x.toInCall.ns.lt
  have sz1 : s.heap.objs.size ≤ s1.heap.objs.size := Nat.le_of_lt lt1
  have kp1 : ∀ b o, s.heap.get? b = some o → s1.heap.get? b = some o := x.toInCall.keep
  have main : ∀ (go : Obj) (nm' qn : Value) (tk2 : Nat), go.cls = .type "generator" → go.data = .fields #[.int s1.gens.size 0, nm', qn] → go.slots = #[] → (∀ h : Heap, (h.push go).get? h.objs.size = some go) →
      PMade P w (k + 1) outer H s many.toNat size code s1.heap.objs.size s1.gens.size (.func (l5 ++ [.For (.Name "_" pt) (.Call (.Name "range" pr) [.Name "many" pmm] [] pcl) (loopBody p0 p0' p0'' p1 p2 p3 p4 p5 q1 q2 q3 q4 q5 q6 q7 q8 q9 q10 q11 k1 k2) [] pf]) (envOfC qual scope s.heap.objs.size f cdv)) (envOfC qual scope s.heap.objs.size f cdv)
        { s1 with gens := s1.gens.push (.fresh (.func (l5 ++ [.For (.Name "_" pt) (.Call (.Name "range" pr) [.Name "many" pmm] [] pcl) (loopBody p0 p0' p0'' p1 p2 p3 p4 p5 q1 q2 q3 q4 q5 q6 q7 q8 q9 q10 q11 k1 k2) [] pf]) (envOfC qual scope s.heap.objs.size f cdv))), toks := tk2, heap := s1.heap.push go } := by
    intro go nm' qn tk2 hgc hgd0 hgs hgp
    have hgen : ∀ h : Heap, h.get? s1.heap.objs.size = some go → h.IsGen s1.heap.objs.size s1.gens.size := fun h e => ⟨go, nm', qn, e, hgc, hgd0, hgs⟩
    have hpushed : (s1.heap.push go).get? s1.heap.objs.size = some go := hgp _
    have hG : mainGlobals < s.heap.objs.size := by
      obtain ⟨o, es, ep, ho, _⟩ := e0.mod.glob
      exact Heap.lt_size (e0.bs _ o ho).1
    have T : PEnv (envOfC qual scope s.heap.objs.size f cdv) := S.env
    have hint : interactive (envOfC qual scope s.heap.objs.size f cdv) = false := by
      unfold interactive
      rw [show (envOfC qual scope s.heap.objs.size f cdv).scope.kind = .function from S.S.kind]
      rfl
    have nG : (envOfC qual scope s.heap.objs.size f cdv).locals ≠ mainGlobals := Nat.ne_of_gt hG
    refine ⟨T, nG, Nat.le_refl _, lt1, ?_, hgen _ hpushed, Array.getElem?_push_size .., os1, ?_, lim1.keeps fun b o e => Heap.get?_push_of_some _ e, fun b o e => Heap.get?_push_of_some _ (kp1 b o e), ?_⟩
    · show _ = (s1.heap.push _).objs.size
      rw [Heap.size_push]
    · exact AllBare.push (by rw [gen1]; exact e0.bare) rfl
    intro Aw s2 xs hrw hfr hk2 hos hba hxs
    have e0w : Env0 P w K mg base Aw outer s H := ⟨hfr, e0.mod, e0.bs, e0.bsz, e0.funs, e0.frf, e0.hok, e0.bare⟩
    obtain ⟨t, ht, hq⟩ := h5 Aw outer s H [(s1.heap.objs.size, go)] (hrw.deeper _)
    have I1 : Inv (gcxOf P w K mg base pN qual scope f cdv Aw outer s H E00 []) [] (start pN [.int code, .int size, .int many]) H s1 := inv_startG S.S hrw.hd e0w hl r x
    have kp2 : ∀ b o, s1.heap.get? b = some o → s2.heap.get? b = some o := fun b o e => hk2 b o (Heap.get?_push_of_some _ e)
    have I2 : Inv (gcxOf P w K mg base pN qual scope f cdv Aw outer s H E00 []) [] (start pN [.int code, .int size, .int many]) H s2 :=
      I1.call' (ch := []) (hos.trans os1.symm) (Un.kept kp2) (I1.hok.kept kp2) hba fun b z => by simp at z
    have hea : s2.heap.get? s1.heap.objs.size = some go := hk2 s1.heap.objs.size go hpushed
    have hgd : ∀ v, go.data ≠ .cell v := fun v q => by rw [hgd0] at q; cases q
    have I3 : Inv (gcxOf P w K mg base pN qual scope f cdv Aw outer s H E00 [(s1.heap.objs.size, go)]) xs (start pN [.int code, .int size, .int many]) H s2 := Inv.pinnedG I2 fun p hp => by
      rcases List.mem_append.mp hp with z | z
      · rw [List.mem_singleton.mp z]
        exact ⟨hea, I1.hok.fresh (Nat.le_refl _), Nat.ne_of_gt lt1, I1.nofs (Nat.le_refl _), hgd⟩
      · obtain ⟨x1, x2, x3⟩ := hxs p z
        exact ⟨x1, I1.hok.fresh (Nat.le_of_lt x2), Nat.ne_of_gt (Nat.lt_trans lt1 x2), I1.nofs (Nat.le_of_lt x2), x3⟩
    -- the state's own word
    have word : ∀ {σ' : L2.St} {s3 : Shared}, Inv (gcxOf P w K mg base pN qual scope f cdv Aw outer s H E00 [(s1.heap.objs.size, go)]) xs σ' H s3 →
        (s3.os = s.os ∧ AllBare s3.gens ∧ Un (frs outer) [] H H s.heap s3.heap ∧ HOk P w H s3.heap ∧ s3.heap.IsGen s1.heap.objs.size s1.gens.size ∧ s3.heap.NoLimit ∧ ∀ p ∈ xs, s3.heap.get? p.1 = some p.2) := fun {σ' s3} J =>
      ⟨J.os, J.bare, J.base, J.hok, hgen _ (J.pin (s1.heap.objs.size, go) (List.mem_append_left _ (List.mem_singleton.mpr rfl))).1, J.nolimit, fun p hp => (J.pin p (List.mem_append_right _ hp)).1⟩
    have fall : ∀ (e : Value) (s' : Shared), (gcxOf P w K mg base pN qual scope f cdv Aw outer s H E00 [(s1.heap.objs.size, go)]).xe e s' → ∀ Φ : End → Shared → Prop, SegG (model P w) Aw Φ (.func (l5 ++ [.For (.Name "_" pt) (.Call (.Name "range" pr) [.Name "many" pmm] [] pcl) (loopBody p0 p0' p0'' p1 p2 p3 p4 p5 q1 q2 q3 q4 q5 q6 q7 q8 q9 q10 q11 k1 k2) [] pf]) (envOfC qual scope s.heap.objs.size f cdv))
        (Sem.wrap (fun _ => .raise e) .raise id id (leaving (envOfC qual scope s.heap.objs.size f cdv) e)) [] s' := fun e s' hx Φ => by
      refine sg_wrap ?_
      rw [over_func]
      refine wpAny_mono (show wpAny (model P w) (Aw.deeper (envOfC qual scope s.heap.objs.size f cdv)) (leaving (envOfC qual scope s.heap.objs.size f cdv) e) (fun _ s'' => CX P w outer H s E00 e s'' ∧ ∀ p ∈ [(s1.heap.objs.size, go)], s''.heap.get? p.1 = some p.2) (fun _ _ => False) s' from hx) (fun _ s'' q => ?_) fun _ s'' q => q.elim
      obtain ⟨⟨_, _, _, _, _, _, _, _, _, _, _, _, z⟩, _⟩ := q
      exact z.elim
    refine sg_func (sg_app (sg_wrap ?_))
    rw [over_func]
    refine wpAny_mono (ht.run xs s2 _ H _ I3 hq) (fun fl s3 hs => ?_) fun e s' hx => fall e s' hx _
    cases fl with
    | brk => obtain ⟨_, _, _, q⟩ := hs; exact False.elim q
    | cont => obtain ⟨_, _, _, q⟩ := hs; exact False.elim q
    | ret u => obtain ⟨_, _, _, _, _, q⟩ := hs; exact False.elim q
    | next =>
      obtain ⟨σ3, H3, J3, e3, e4⟩ := hs
      subst e3
      subst e4
      refine sg_execs_cons (sg_For (fun _ => rfl) ?_)
      rw [over_func]
      have hvis : Vis scope ("many" : Str) := .inl S.many
      refine wpAny_mono (run_range (j := many) (pm := pmm) (p := pr) (pos := pcl) J3 S.range mra rfl hvis rfl hm0 hm1) (fun v s4 h4 => wpAny_mono h4 (fun itv s5 h5' => ?_) fun e s' hx => fall e s' hx _) fun e s' hx => fall e s' hx _
      obtain ⟨it, rfl, hLit, hpit, hrg, J5⟩ := h5'
      have hLit' : s.heap.objs.size < it := hLit
      have hait : s1.heap.objs.size < it := hpit (s1.heap.objs.size, go) (List.mem_append_left _ (List.mem_singleton.mpr rfl))
      have hlows : ∀ b ∈ s1.heap.objs.size :: xs.map (·.1), b < it := fun b hb => by
        rcases List.mem_cons.mp hb with z | z
        · rw [z]; exact hait
        · obtain ⟨p, hp, rfl⟩ := List.mem_map.mp z
          exact hpit p (List.mem_append_right _ hp)
      have hit0 : it ≠ (envOfC qual scope s.heap.objs.size f cdv).locals := Nat.ne_of_gt hLit'
      have hitG : it ≠ mainGlobals := Nat.ne_of_gt (Nat.lt_trans hG hLit')
      have fm5 : Fm (envOfC qual scope s.heap.objs.size f cdv) s5.heap size (code.fmod size) code := by
        obtain ⟨m, hn, hl5⟩ := J5.loc
        have get : ∀ (i : Nat) (x : Str) (n : Int), pN[i]? = some x → scope.names.lookup x = some NameKind.local → ([some (.int code), some (.int size), some (.int many), some (.int (code.fmod size)), some (.int code), none] : L2.St)[i]? = some (some (.int n)) → ∃ t, m x = some (.int n t) := fun i x n h1 h2 h3 => by
          obtain ⟨u, ru, lu⟩ := hl5 i x _ h1 h3 (.inl h2)
          obtain ⟨t, rfl⟩ := ru
          rcases lu with ⟨_, hm⟩ | ⟨hk, _⟩
          · exact ⟨t, hm⟩
          · have hk' : scope.names.lookup x = some .cell ∨ scope.names.lookup x = some .free := hk
            rw [h2] at hk'
            rcases hk' with z | z <;> cases z
        exact ⟨⟨m, hn, get 3 _ _ rfl S.slot rfl, get 4 _ _ rfl S.push rfl, get 1 _ _ rfl S.size rfl⟩, ⟨mg, J5.mod.glob.keeps J5.bk, tsh, msh⟩⟩
      intro pp
      have ltL : ∀ b o, s.heap.get? b = some o → b ≠ s.heap.objs.size ∧ b ≠ it := fun b o e => ⟨Nat.ne_of_lt (Heap.lt_size e), Nat.ne_of_lt (Nat.lt_trans (Heap.lt_size e) hLit')⟩
      refine path_first T hint nG hit0 hitG hz hlows (fun sa sb hja hm => ?_) rfl ?_ (fun sa hN hja => ?_) (fun s₀ sa hja => ?_) ⟨fm5, hrg⟩ (word J5)
      · obtain ⟨h', tk', rfl, hk⟩ := hm
        obtain ⟨a1, a2, a3, a4, a5, a6, a7⟩ := hja
        have hLn : H3 s.heap.objs.size = none := e0.hok.fresh (Nat.le_refl _)
        have hIn : H3 it = none := e0.hok.fresh (Nat.le_of_lt hLit')
        have nt : ∀ b u, H3 b = some u → b ≠ s.heap.objs.size ∧ b ≠ it := fun b u e => ⟨ne_of_none e hLn, ne_of_none e hIn⟩
        have hcS : cStatics < s.heap.objs.size := let ⟨_, hn, _⟩ := lim; hn.lt
        refine ⟨a1, a2, ⟨fun b o e n hb hx => ?_, fun b o e n hb hx => ?_, a3.free, fun b o e hx => ?_, a3.tups, a3.frzs, a3.tbls⟩, fun b u e => ?_, ?_, ?_, fun p hp => hk p.1 p.2 (Nat.ne_of_gt (Nat.lt_trans lt1 (hxs p hp).2.1)) (Nat.ne_of_lt (hlows p.1 (List.mem_cons_of_mem _ (List.mem_map.mpr ⟨p, hp, rfl⟩)))) (a7 p hp)⟩
        · exact hk b o (ltL b o e).1 (ltL b o e).2 (a3.keep b o e n hb hx)
        · obtain ⟨sl', e'⟩ := a3.slot b o e n hb hx
          exact ⟨sl', hk b _ (ltL b o e).1 (ltL b o e).2 e'⟩
        · obtain ⟨o', e'⟩ := a3.there b o e hx
          exact ⟨o', hk b _ (ltL b o e).1 (ltL b o e).2 e'⟩
        · refine (a4 b u e).stay (fun c v hc q => ?_) (fun _ z => z) fun _ _ z => z
          rcases hc with hc | hc
          · rw [hc] at q ⊢
            exact hk b v (nt b u e).1 (nt b u e).2 q
          · exact hk c v (nt c _ hc).1 (nt c _ hc).2 q
        · obtain ⟨o, n1, n2, ho, z⟩ := a5
          exact ⟨o, n1, n2, hk _ o (Nat.ne_of_gt lt1) (Nat.ne_of_lt hait) ho, z⟩
        · obtain ⟨mc, hns, hnn⟩ := a6
          exact ⟨mc, hns.at' fun o e => hk _ o (Nat.ne_of_lt hcS) (Nat.ne_of_lt (Nat.lt_trans hcS hLit')) e, hnn⟩
      · exact hrw.hd
      · exact sg_end (.ok (.ret .none)) ⟨rfl, hN, hja⟩
      · exact seg_end (.ok (.ret .none)) ⟨rfl, rfl, hja⟩
  exact ⟨_, _, _, _, rfl, main _ _ _ _ rfl rfl rfl fun h => Heap.get?_push_size _ rfl⟩
end
end Pth
set_option Elab.async false
set_option linter.all false
set_option maxRecDepth 100000
set_option maxHeartbeats 1000000
/-! Pf: a for over path(..), its body by a judgement; list(path(..)) -/
namespace Pth
open PySem PySem.Spec PyProof.Rows L2 GenW
open Sem (wp)
section
variable {M : Model}
theorem resume_first {A : Around} {Φ : End → Shared → Prop} {E : Value → Shared → Prop} {s : Shared} {g : Nat} {c : Code} {l : List Value} {α : Type} {k : GenResult → Sem α} {Q : α → Shared → Prop} (hg : s.gens[g]? = some (.fresh c))
    (hgo : SegG M A Φ c (M.den c) [] (s.setGen g .running))
    (hR : ∀ e s₁, Φ e s₁ → e.quiet = true ∧ wpAny M A (k e.result) Q E (s₁.setGen g e.genState)) : wpAny M A (.resume g (.send .none) l k) Q E s := by
  intro Γ p hΓ
  rw [Sem.wp_resume]
  obtain ⟨e₁, s₁, hr, he⟩ := hgo (Γ.wake c p) p rfl (hΓ.wake c p)
  obtain ⟨hq, hw⟩ := hR e₁ s₁ he
  exact ⟨_, _, by unfold Wakes; rw [hg]; exact ⟨e₁, s₁, hr, hq, rfl, rfl⟩, hw Γ p hΓ⟩
theorem resume_later {A : Around} {R : GenEnd} {Y : Protocol} {n : Nat} {E : Value → Shared → Prop} {s : Shared} {g : Nat} {k₀ : Resume → Sem PySem.Fin} {l₀ : List Value} {c₀ : Code} {p₀ : Pos} {fs₀ : List Frame} {cl₀ : Bool} {r : Resume} {l : List Value} {α : Type} {k : GenResult → Sem α} {Q : α → Shared → Prop}
    (hg : s.gens[g]? = some (.suspended k₀ l₀ c₀ p₀ fs₀ cl₀))
    (hgo : Seg M A R Y n (s.setGen g .running) c₀ (k₀ r) fs₀ (s.setGen g .running))
    (hR : ∀ e s₁, SegEnd R Y n (Seg.next M A R Y n) (s.setGen g .running) e s₁ → e.quiet = true ∧ wpAny M A (k e.result) Q E (s₁.setGen g e.genState)) : wpAny M A (.resume g r l k) Q E s := by
  intro Γ p hΓ
  rw [Sem.wp_resume]
  obtain ⟨e₁, s₁, hr, he⟩ := seg_iff.mp hgo (Γ.wake c₀ p) p₀ rfl (hΓ.wake c₀ p)
  obtain ⟨hq, hw⟩ := hR e₁ s₁ he
  exact ⟨_, _, by unfold Wakes; rw [hg]; exact ⟨e₁, s₁, hr, hq, rfl, rfl⟩, hw Γ p hΓ⟩
end
section
variable {P : Program} {w : World} {A : Around} {E : Value → Shared → Prop} {s : Shared}
theorem next_first {a : Addr} {g : Nat} {c : Code} {Φ : End → Shared → Prop} {Q : Option Value → Shared → Prop} (hh : A.handled = none) (hl : s.heap.NoLimit) (hroom : A.depth < recursionLimit) (hg : s.heap.IsGen a g) (hgs : s.gens[g]? = some (.fresh c))
    (hgo : SegG (model P w) A.in1 Φ c ((model P w).den c) [] (s.setGen g .running))
    (hR : ∀ e s₁, Φ e s₁ → (e = .ret (.ok (.ret .none)) ∧ ∀ h', (∀ b o, s₁.heap.get? b = some o → h'.get? b = some o) → Q none { s₁.setGen g .finished with heap := h' }) ∨
      ∃ v gd l k c' p' fs, e = .susp v gd l k c' p' fs ∧ e.quiet = true ∧ Q (some v) (s₁.setGen g e.genState)) :
    wpAny (model P w) A (pyNext (.ref a)) Q E s := by
  unfold pyNext
  refine wpAny_bind (wpAny_attempt (wpAny_callSpecial?_slot (name := Str.ofString "__next__") hg.typeIs slot_gen_next
    (wpAny_call_entry slot_gen_next hg.typeIs entry_gen_next ?_ (args_gen_next _))))
  show wpAny _ A.in1 (Builtin.Generator.genWake (.ref a) (.send .none)) _ _ s
  unfold Builtin.Generator.genWake
  refine wpAny_bind (wpAny_holding (wpAny_genNumber hg (wpAny_bind (wpAny_genState hgs ?_))))
  refine wpAny_bind (wpAny_roomToWake hl hroom ?_)
  show wpAny _ A.in1 (.resume g (.send .none) [] _) _ _ s
  refine resume_first hgs hgo fun e s₁ he => ?_
  rcases hR e s₁ he with ⟨rfl, h⟩ | ⟨v, gd, l, k, c', p', fs, rfl, hq, h⟩
  · refine ⟨rfl, ?_⟩
    show wpAny _ A.in1 (newExc (.type "StopIteration") [] >>= _) _ _ _
    refine wpAny_bind ?_
    simp only [newExc, newTuple]
    refine wpAny_bind (wpAny_newObj_type ?_ (by size_fits))
    refine wpAny_bind (m := firstArgMember _ _) (wpAny_of_eq (a := Value.none) (by first | rfl | (simp only [firstArgMember]; rfl)) ?_)
    refine wpAny_newObj_type ?_ (by size_fits)
    simp only [raiseNew]
    refine wpAny_bind (wpAny_bind (wpAny_handled ?_))
    first | rw [show A.in1.handled = none from hh] | rw [hh]
    refine wpAny_throw ?_
    refine wpAny_bind (wpAny_isInstance (T := "StopIteration") (b := true) ⟨_, Heap.get?_push_size _ rfl, rfl⟩ isSubtype_stop ?_)
    exact wpAny_pure (h _ fun b o hb => Heap.get?_push_of_some _ (Heap.get?_push_of_some _ hb))
  · exact ⟨hq, wpAny_pure ⟨v, rfl, wpAny_pure h⟩⟩
theorem next_later {a : Addr} {g n : Nat} {R : GenEnd} {Y : Protocol} {k₀ : Resume → Sem PySem.Fin} {l₀ : List Value} {c₀ : Code} {p₀ : Pos} {fs₀ : List Frame} {cl₀ : Bool} {Q : Option Value → Shared → Prop} (hh : A.handled = none) (hl : s.heap.NoLimit) (hroom : A.depth < recursionLimit) (hg : s.heap.IsGen a g)
    (hgs : s.gens[g]? = some (.suspended k₀ l₀ c₀ p₀ fs₀ cl₀))
    (hgo : Seg (model P w) A.in1 R Y n (s.setGen g .running) c₀ (k₀ (.send .none)) fs₀ (s.setGen g .running))
    (hR : ∀ r s₁, R n (s.setGen g .running) r s₁ → r = .ok (.ret .none) ∧ ∀ h', (∀ b o, s₁.heap.get? b = some o → h'.get? b = some o) → Q none { s₁.setGen g .finished with heap := h' })
    (hY : ∀ v gd l k c' p' fs s₁, (End.susp v gd l k c' p' fs).quiet = true → Y (n - 1) (s.setGen g .running) v s₁ (fun r s'' => Seg.next (model P w) A.in1 R Y n c' (k r) fs s'') → Q (some v) (s₁.setGen g (End.susp v gd l k c' p' fs).genState)) :
    wpAny (model P w) A (pyNext (.ref a)) Q E s := by
  unfold pyNext
  refine wpAny_bind (wpAny_attempt (wpAny_callSpecial?_slot (name := Str.ofString "__next__") hg.typeIs slot_gen_next
    (wpAny_call_entry slot_gen_next hg.typeIs entry_gen_next ?_ (args_gen_next _))))
  show wpAny _ A.in1 (Builtin.Generator.genWake (.ref a) (.send .none)) _ _ s
  unfold Builtin.Generator.genWake
  refine wpAny_bind (wpAny_holding (wpAny_genNumber hg (wpAny_bind (wpAny_genState hgs ?_))))
  refine wpAny_bind (wpAny_roomToWake hl hroom ?_)
  show wpAny _ A.in1 (.resume g (.send .none) [] _) _ _ s
  refine resume_later hgs hgo fun e s₁ he => ?_
  cases e with
  | ret r =>
    obtain ⟨rfl, h⟩ := hR r s₁ he
    refine ⟨rfl, ?_⟩
    show wpAny _ A.in1 (newExc (.type "StopIteration") [] >>= _) _ _ _
    refine wpAny_bind ?_
    simp only [newExc, newTuple]
    refine wpAny_bind (wpAny_newObj_type ?_ (by size_fits))
    refine wpAny_bind (m := firstArgMember _ _) (wpAny_of_eq (a := Value.none) (by first | rfl | (simp only [firstArgMember]; rfl)) ?_)
    refine wpAny_newObj_type ?_ (by size_fits)
    simp only [raiseNew]
    refine wpAny_bind (wpAny_bind (wpAny_handled ?_))
    first | rw [show A.in1.handled = none from hh] | rw [hh]
    refine wpAny_throw ?_
    refine wpAny_bind (wpAny_isInstance (T := "StopIteration") (b := true) ⟨_, Heap.get?_push_size _ rfl, rfl⟩ isSubtype_stop ?_)
    exact wpAny_pure (h _ fun b o hb => Heap.get?_push_of_some _ (Heap.get?_push_of_some _ hb))
  | susp v gd l k c' p' fs =>
    obtain ⟨hq, h⟩ := he
    exact ⟨hq, wpAny_pure ⟨v, rfl, wpAny_pure (hY v gd l k c' p' fs s₁ hq h)⟩⟩
end

/-! ### the consumer -/
/-- what path takes -/
def POk (code size many : Int) : Prop := 0 ≤ code ∧ code < 4294967296 ∧ size ∈ ([8, 16, 32, 64, 128, 256, 512, 1024, 2048, 4096] : List Int) ∧ 0 ≤ many ∧ many < 2 ^ 62
/-- path, called -/
def PathDef (P : Program) (w : World) (K : PySem.W.Frag) (mg : Str → Option Value) (base : Heap) (k : Nat) (f : Addr) (fd : FuncData) : Prop :=
  ∀ {code size many : Int}, POk code size many → ∀ {A : Around} {outer : List Env} {s : Shared} {H : Hp} {args : Args} {us : List Value}, Room k A → Env0 P w K mg base A outer s H → BindsTo s fd args (pP.zip us) → Vals [.int code, .int size, .int many] us →
    codeAny (model P w) A (.call (.ref f) args) (fun r s' => match r with | .ok (.ret u) => ∃ a g c env, u = .ref a ∧ PMade P w k outer H s many.toNat size code a g c env s' | _ => False) s
section
variable {X : Cx} {pins : List (Addr × Obj)} {σ : L2.St} {H : Hp} {s : Shared}
/-- with other generators -/
theorem Inv.withG (I : Inv X pins σ H s) {G : Array GenState} (h : AllBare G) : Inv X pins σ H (Fk.gw s G) := ⟨I.ok, I.os, h, I.base, I.loc, I.cell, I.free, I.freeC, I.pin, I.hok, I.len⟩
/-- where the generator at a stands, i slots out, asleep -/
structure Asleep (X : Cx) (B : Around) (env : Env) (a : Addr) (g : Nat) (N : Nat) (size code : Int) (low : Nat) (i : Nat) (it : Addr) (H : Hp) (s : Shared) : Prop where
  lowIt : low ≤ it
  gen : s.heap.IsGen a g
  st : LSy env it N size code (i - 1) s.heap
  nT : ∀ b ∈ [a, env.locals, it], H b = none
  at_ : ∃ k l c p fs cl, s.gens[g]? = some (.suspended k l c p fs cl) ∧ cl = false ∧ ∀ s'', Slp env it s s'' → Seg (model X.prog X.w) B (RP (fun _ _ => True) env.locals it N) (YP (fun _ _ => True) env it N size code) (N - i) s'' c (k (.send .none)) fs s''
/-- at the loop's head, i slots out -/
inductive Head (X : Cx) (B : Around) (s0 : Shared) (σ0 : L2.St) (H0 : Hp) (env : Env) (a : Addr) (g : Nat) (N : Nat) (size code : Int) (low : Nat) : Nat → L2.St → Hp → Shared → Prop
  | begin : Head X B s0 σ0 H0 env a g N size code low 0 σ0 H0 s0
  | amid {i : Nat} {it : Addr} {σ : L2.St} {H : Hp} {s : Shared} : 0 < i → Asleep X B env a g N size code low i it H s → Head X B s0 σ0 H0 env a g N size code low i σ H s
/-- the slots, as they come: Pv i holds ahead of the turn i -/
def tForP (i : Nat) (ta : TA) (tb : TS) : TS := fun D σ H => ta σ H fun vs H1 => ∃ code size many : Int, vs = [.int code, .int size, .int many] ∧ POk code size many ∧ ∃ Pv : Nat → L2.St → Hp → Prop, Pv 0 σ H1 ∧
  (∀ n σ' H', n < many.toNat → Pv n σ' H' → tb { D with nx := Pv (n + 1), ct := Pv (n + 1), bk := D.nx } (σ'.set i (some (.int (sl size code n)))) H') ∧ ∀ σ' H', Pv many.toNat σ' H' → D.nx σ' H'

/-- the generator's own things have turned -/
theorem inv_mv {L it : Addr} {s' : Shared} (I : Inv X pins σ H s) (m : Mv L it s s') (f1 : FpOk X pins H L) (f2 : FpOk X pins H it) : Inv X pins σ H s' := by
  obtain ⟨h', tk, rfl, k⟩ := m
  obtain ⟨a0, a1, a2, a3, a4, a5⟩ := f1
  obtain ⟨b0, b1, b2, b3, b4, b5⟩ := f2
  have ne : ∀ b, b ∉ [L, it] → b ≠ L ∧ b ≠ it := fun b hb => ⟨fun z => hb (by rw [z]; simp), fun z => hb (by rw [z]; simp)⟩
  have nt : ∀ b u, H b = some u → b ≠ L ∧ b ≠ it := fun b u e => ⟨ne_of_none e a0, ne_of_none e b0⟩
  refine I.step (g' := s.gens) (d' := s.drawn) (ch := [L, it]) (fun b hb => ?_) (fun b o _ _ hc e _ => k b o (ne b hc).1 (ne b hc).2 e) (fun b o _ _ hc e _ => ⟨o.slots, k b o (ne b hc).1 (ne b hc).2 e⟩) (fun _ _ _ _ n => n)
    (fun b o hc e => ⟨o, k b o (ne b hc).1 (ne b hc).2 e⟩) (fun _ _ e => e) (fun _ _ _ e => e) (fun b ps e => ⟨#[], by rw [e]; simp⟩) (fun m hm => ?_) (fun b u e => ?_) I.bare
  · rcases List.mem_cons.mp hb with e | hb
    · rw [e]; exact ⟨a3, a1, a4, a5⟩
    · rw [List.mem_singleton.mp hb]; exact ⟨b3, b1, b4, b5⟩
  · obtain ⟨o, es, ep, ho, r⟩ := hm
    exact ⟨o, es, ep, k _ o (Ne.symm a1) (Ne.symm b1) ho, r⟩
  · refine (I.hok b u e).stay (fun c v hc q => ?_) (fun _ q => q) fun _ _ q => q
    rcases hc with z | z
    · rw [z] at q ⊢
      exact k b v (nt b u e).1 (nt b u e).2 q
    · exact k c v (nt c _ z).1 (nt c _ z).2 q
theorem turn_body {B : Around} {env : Env} {a g : Nat} {N : Nat} {size code : Int} {low : Nat} {i ix : Nat} {it : Addr} {x : Str} {px : Pos} {body : List Stmt} {tb : TS} {D : Ends} {N' : L2.St → Hp → Prop} {v : V} {u : Value} {E : Value → Shared → Prop}
    (I : Inv X pins σ H s) (hA : Asleep X B env a g N size code low i it H s) (yg : ∀ b ∈ [a, env.locals, it], ∀ H' : Hp, H' b = none → FpOk X pins H' b) (hN : X.N.Nodup) (hi : X.N[ix]? = some x) (hx : Loc X.env.scope x) (hf : X.fn x = true ∨ X.env.scope.names.lookup x = some .local)
    (hbd : PSs X.nox body tb) (rv : RelV v u) (ht : tb { D with nx := N', ct := N', bk := D.nx } (σ.set ix (some v)) H) :
    wpAny (model X.prog X.w) X.A (assign (.Name x px) X.env u) (fun _ s6 => wpAny (model X.prog X.w) X.A (execs body X.env) (fun f s7 => match f with
      | .next | .cont => ∃ σ7 H7, Inv X pins σ7 H7 s7 ∧ N' σ7 H7 ∧ Asleep X B env a g N size code low i it H7 s7
      | .brk => ∃ σ7 H7, Inv X pins σ7 H7 s7 ∧ D.nx σ7 H7
      | .ret u => ∃ v σ7 H7, Inv X pins σ7 H7 s7 ∧ RelV v u ∧ D.rt v H7) E s6) E s := by
  obtain ⟨hlow, hgen, hst, hnT, ⟨k, l, c, p, fs, cl, hgs, hcl, hsl⟩⟩ := hA
  have R := Fk.rel_faked s.gens
  have bF : AllBare (Fk.faked s.gens) := Fk.bare_faked I.bare
  have I5 : Inv X pins σ H (Fk.gw s (Fk.faked s.gens)) := Inv.withG I bF
  obtain ⟨mm, hmm, _⟩ := hst.fm.ns
  have hob : ∀ b ∈ [a, env.locals, it], ∃ o, s.heap.get? b = some o ∧ ∀ v, o.data ≠ .cell v := fun b hb => by
    rcases List.mem_cons.mp hb with e | hb
    · rw [e]
      obtain ⟨o, n1, n2, ho, _, hd, _⟩ := hgen
      exact ⟨o, ho, fun v z => by rw [hd] at z; cases z⟩
    · rcases List.mem_cons.mp hb with e | hb
      · rw [e]
        obtain ⟨o, es, ep, ho, hd, _⟩ := hmm
        exact ⟨o, ho, fun v z => by rw [hd] at z; cases z⟩
      · rw [List.mem_singleton.mp hb]
        exact ⟨_, hst.rg, fun v z => by
          have z' : Data.fields _ = Data.cell v := z
          cases z'⟩
  have Ip : Inv X (pins ++ pinsAt [a, env.locals, it] s.heap) σ H (Fk.gw s (Fk.faked s.gens)) := I5.pinned (fun b hb => yg b hb H (hnT b hb)) hob
  have hbare : ∀ i x, Fk.sleepers s.gens i = some x → x.bare = true := Fk.sleepers_bare I.bare
  -- over the replaced ones
  have h1 : wpAny (model X.prog X.w) X.A (assign (.Name x px) X.env u) (fun _ s6 => wpAny (model X.prog X.w) X.A (execs body X.env) (SP X.nox (pins ++ pinsAt [a, env.locals, it] s.heap) { D with nx := N', ct := N', bk := D.nx }) (fun _ _ => False) s6) (fun _ _ => False) (Fk.gw s (Fk.faked s.gens)) := by
    refine wpAny_assign_Name (store_ok Ip hN hi hx rv (fun s6 I6 => ?_) hf)
    exact hbd.run _ s6 _ H _ (I6.wish _) ht
  have h2 := Fk.wpAny_fk (G := s.gens) R h1
  refine wpAny_mono h2 (fun _ s6 h6 => ?_) fun _ _ ⟨_, _, z⟩ => z.elim
  obtain ⟨G0, R0, h6⟩ := h6
  have h7 := Fk.wpAny_fk (s := Fk.gw s6 G0) (G := s6.gens) R0 h6
  refine wpAny_mono h7 (fun f s7 q7 => ?_) fun _ _ ⟨_, _, z⟩ => z.elim
  obtain ⟨G1, R1, q7⟩ := q7
  have real : ∀ {σ7 : L2.St} {H7 : Hp}, Inv X.nox (pins ++ pinsAt [a, env.locals, it] s.heap) σ7 H7 (Fk.gw s7 G1) → Inv X (pins ++ pinsAt [a, env.locals, it] s.heap) σ7 H7 s7 := fun {σ7 H7} J => by
    have b7 : AllBare s7.gens := Fk.bare_real R1 hbare J.bare
    exact Inv.withG (s := Fk.gw s7 G1) J.unwish b7
  have asl : ∀ {σ7 : L2.St} {H7 : Hp}, Inv X (pins ++ pinsAt [a, env.locals, it] s.heap) σ7 H7 s7 → Asleep X B env a g N size code low i it H7 s7 := fun {σ7 H7} J => by
    have kept : ∀ b ∈ [a, env.locals, it], ∀ o, s.heap.get? b = some o → s7.heap.get? b = some o ∧ H7 b = none := fun b hb o e => by
      have := J.pin (b, o) (List.mem_append_right _ (List.mem_append_right _ (mem_pinsAt hb e)))
      exact ⟨this.1, this.2.1⟩
    have slp : Slp env it s s7 := fun b o hb e => by
      rcases hb with e1 | e1 | e1
      · exact (kept b (by rw [e1]; simp) o e).1
      · exact (kept b (by rw [e1]; simp) o e).1
      · obtain ⟨og, es, ep, ho, _⟩ := I.mod.glob
        have z1 := I.bk _ _ ho
        have z2 := J.bk _ _ ho
        rw [e1] at e ⊢
        rw [z1] at e
        cases e
        exact z2
    refine ⟨hlow, ?_, hst.keeps slp, fun b hb => ?_, k, l, c, p, fs, cl, ?_, hcl, fun s'' z => hsl s'' fun b o hb e => z b o hb (slp b o hb e)⟩
    · obtain ⟨o, n1, n2, ho, z⟩ := hgen
      exact ⟨o, n1, n2, (kept a (by simp) o ho).1, z⟩
    · obtain ⟨o, ho, _⟩ := hob b hb
      exact (kept b hb o ho).2
    · exact (R1.fake g _ (Fk.sleepers_at hgs rfl)).2.2
  cases f with
  | next => obtain ⟨σ7, H7, J, n7⟩ := q7; exact ⟨σ7, H7, (real J).unpinned, n7, asl (real J)⟩
  | cont => obtain ⟨σ7, H7, J, n7⟩ := q7; exact ⟨σ7, H7, (real J).unpinned, n7, asl (real J)⟩
  | brk => obtain ⟨σ7, H7, J, n7⟩ := q7; exact ⟨σ7, H7, (real J).unpinned, n7⟩
  | ret u => obtain ⟨v7, σ7, H7, J, r7, n7⟩ := q7; exact ⟨v7, σ7, H7, (real J).unpinned, r7, n7⟩

/-- what a turn of the loop comes to -/
def TurnP (X : Cx) (pins : List (Addr × Obj)) (env : Env) (a g N : Nat) (size code : Int) (low : Nat) (it : Addr) (i : Nat) (D : Ends) (N' : L2.St → Hp → Prop) (f : Flow) (s7 : Shared) : Prop := match f with
  | .next | .cont => ∃ σ7 H7, Inv X pins σ7 H7 s7 ∧ N' σ7 H7 ∧ Asleep X X.A.in1 env a g N size code low i it H7 s7
  | .brk => ∃ σ7 H7, Inv X pins σ7 H7 s7 ∧ D.nx σ7 H7
  | .ret u => ∃ v σ7 H7, Inv X pins σ7 H7 s7 ∧ RelV v u ∧ D.rt v H7
theorem ps_forP {f : Addr} {fd : FuncData} {k ix : Nat} {nmp x : Str} {px p pos' pos : Pos} {e : Expr} {es : List Expr} {ta : TA} {body : List Stmt} {tb : TS}
    (F : PathDef X.prog X.w X.K X.mg X.base k f fd) (hr : Room (k + 1) X.A) (hg : Gl X nmp) (hm : X.mg nmp = some (.ref f)) (hk : PySem.W.keepIn X.K (.ref f) = true) (hb : Binds X.K fd pP []) (ha : PA X (e :: es) ta) (hp : PassesOwn (model X.prog X.w) X.A X.env X.xe) (hc : X.calm = true)
    (hN : X.N.Nodup) (hi : X.N[ix]? = some x) (hx : Loc X.env.scope x) (hbd : PSs X.nox body tb) (hf : X.fn x = true ∨ X.env.scope.names.lookup x = some .local := by first | exact .inl rfl | exact .inr rfl | assumption)
    (hdb : (nmp == ("__debug__" : Str)) = false := by decide) (he : starEach (e :: es) X.env = (false, eval e X.env) :: starEach es X.env := by rfl) (hpl : (backTo pos' (starEach es X.env)).any (·.1) = false := by rfl)
    (hs : ∀ v, foldedSetIterable (.Call (.Name nmp p) (e :: es) [] pos') X.env v = pure v := by intro _; rfl) :
    PS X (.For (.Name x px) (.Call (.Name nmp p) (e :: es) [] pos') body [] pos) (tForP ix ta tb) := by
  refine ⟨fun pins s σ H D I h => ?_⟩
  refine wpAny_For ?_ hs
  refine wpAny_Call_Name_kw (ld_glob I hg hm ?_ hdb)
  refine PySem.W.callWith_K (h₀ := X.base) I.ok.mod.kin hk (thn (ha.run pos' pins s σ H _ I h) fun us s1 ⟨vs, H1, I1, r1, q1⟩ => ⟨I1.kIn, ?_⟩) he hpl
  obtain ⟨code, size, many, rfl, ok, Pv, h0, hturn, hdone⟩ := q1
  have hl2 : us.length = 3 := r1.length.symm
  have hbt : BindsTo s1 fd ⟨us, []⟩ (pP.zip us) := by
    have := hb s1 us I1.kIn (by rw [List.append_nil]; exact hl2)
    rw [List.append_nil] at this
    exact this
  refine wpAny_call (codeAny_mono (F ok (hr.mono (Nat.le_succ _)) I1.env0 hbt r1) fun r s2 hq => ?_)
  cases r with
  | error e => exact False.elim hq
  | ok fl =>
  cases fl with
  | next => exact False.elim hq
  | brk => exact False.elim hq
  | cont => exact False.elim hq
  | ret u =>
  obtain ⟨a, g, c, env, rfl, m⟩ := hq
  refine wpAny_pyIter_gen m.gen ?_
  have hh : X.A.handled = none := I.ok.hd hc
  have hsz : s1.heap.objs.size ≤ s2.heap.objs.size := by
    have h1 : @LE.le Nat _ s1.heap.objs.size env.locals := m.young
    have h2 : @LT.lt Nat _ env.locals a := m.La
    have h3 : @Eq Nat (a + 1) s2.heap.objs.size := m.aE
    omega
  have I2 : Inv X pins σ H1 s2 := I1.call' (ch := []) m.os (Un.kept m.keep) (I1.hok.kept m.keep) m.bare fun b z => by simp at z
  have hgl : g < s2.gens.size := (Array.getElem?_eq_some_iff.mp m.fresh).1
  have yg : ∀ it : Addr, a + 1 ≤ it → ∀ b ∈ [a, env.locals, it], ∀ H' : Hp, H' b = none → FpOk X pins H' b := fun it hit b hb' H' hn => by
    have h1 : @LE.le Nat _ s1.heap.objs.size env.locals := m.young
    have h2 : @LT.lt Nat _ env.locals a := m.La
    have h3 : @LE.le Nat _ (a + 1) it := hit
    refine I1.fpOk ?_ hn
    show @LE.le Nat _ s1.heap.objs.size b
    rcases List.mem_cons.mp hb' with z | z
    · have z : @Eq Nat b a := z
      omega
    · rcases List.mem_cons.mp z with z | z
      · have z : @Eq Nat b env.locals := z
        omega
      · have z : @Eq Nat b it := List.mem_singleton.mp z
        omega
  -- a slot is out: the turn
  have go : ∀ (i : Nat) (it : Addr) (σ5 : L2.St) (H5 : Hp) (s5 : Shared) (t : Tok), i < many.toNat → a + 1 ≤ it → Inv X pins σ5 H5 s5 → Pv i σ5 H5 → Asleep X X.A.in1 env a g many.toNat size code (a + 1) (i + 1) it H5 s5 →
      wpAny (model X.prog X.w) X.A (assign (.Name x px) X.env (.int (sl size code i) t)) (fun _ s6 => wpAny (model X.prog X.w) X.A (execs body X.env) (TurnP X pins env a g many.toNat size code (a + 1) it (i + 1) D (Pv (i + 1))) (fun _ _ => False) s6) (fun _ _ => False) s5 := fun i it σ5 H5 s5 t hlt hit I5 hP hA => by
    refine wpAny_mono (turn_body I5 hA (yg it hit) hN hi hx hf hbd (v := .int (sl size code i)) ⟨t, rfl⟩ (hturn i σ5 H5 hlt hP)) (fun _ s6 h6 => wpAny_mono h6 (fun f s7 h7 => ?_) fun _ _ z => z) fun _ _ z => z
    cases f <;> exact h7
  refine codeAny_forLoop_any (fun n s' => ∃ i σ' H', i ≤ many.toNat ∧ n = many.toNat - i ∧ Inv X pins σ' H' s' ∧ Pv i σ' H' ∧ Head X X.A.in1 s2 σ H1 env a g many.toNat size code (a + 1) i σ' H' s') ?_ many.toNat ⟨0, σ, H1, Nat.zero_le _, by omega, I2, h0, .begin⟩
  rintro n s3 ⟨i, σ3, H3, hle, rfl, I3, hP, hd⟩
  -- behind the turn's body
  have fin : ∀ {it : Addr} {f : Flow} {s7 : Shared}, i < many.toNat → TurnP X pins env a g many.toNat size code (a + 1) it (i + 1) D (Pv (i + 1)) f s7 →
      (match f with
        | .next | .cont => ∃ m, m < many.toNat - i ∧ ∃ i σ' H', i ≤ many.toNat ∧ m = many.toNat - i ∧ Inv X pins σ' H' s7 ∧ Pv i σ' H' ∧ Head X X.A.in1 s2 σ H1 env a g many.toNat size code (a + 1) i σ' H' s7
        | .brk => SP X pins D .next s7
        | .ret v => SP X pins D (.ret v) s7) := fun {it f s7} hlt q => by
    cases f with
    | next => obtain ⟨σ7, H7, J, n7, z⟩ := q; exact ⟨many.toNat - (i + 1), by omega, i + 1, σ7, H7, by omega, rfl, J, n7, .amid (Nat.succ_pos _) z⟩
    | cont => obtain ⟨σ7, H7, J, n7, z⟩ := q; exact ⟨many.toNat - (i + 1), by omega, i + 1, σ7, H7, by omega, rfl, J, n7, .amid (Nat.succ_pos _) z⟩
    | brk => obtain ⟨σ7, H7, J, n7⟩ := q; exact ⟨σ7, H7, J, n7⟩
    | ret u => obtain ⟨v7, σ7, H7, J, r7, n7⟩ := q; exact ⟨v7, σ7, H7, J, r7, n7⟩
  -- the turn, from where the slot is out
  have turn : ∀ {it : Addr} {s5 : Shared} {t : Tok} {σ5 : L2.St} {H5 : Hp} {Z : Flow → Shared → Prop} {E : Value → Shared → Prop}, i < many.toNat → a + 1 ≤ it → Inv X pins σ5 H5 s5 → Pv i σ5 H5 → Asleep X X.A.in1 env a g many.toNat size code (a + 1) (i + 1) it H5 s5 →
      (∀ f s7, TurnP X pins env a g many.toNat size code (a + 1) it (i + 1) D (Pv (i + 1)) f s7 → Z f s7) →
      wpAny (model X.prog X.w) X.A (letOwnedTupleGo (.Name x px) (.ref a) (.int (sl size code i) t)) (fun _ s₁' => wpAny (model X.prog X.w) X.A (assign (.Name x px) X.env (.int (sl size code i) t)) (fun _ s₂ => wpAny (model X.prog X.w) X.A (execs body X.env) Z E s₂) E s₁') E s5 := fun {it s5 t σ5 H5 Z E} hlt hit I5 hP5 hA hZ => by
    refine wpAny_pure ?_
    exact wpAny_mono (go i it σ5 H5 s5 t hlt hit I5 hP5 hA) (fun _ s6 h6 => wpAny_mono h6 (fun f s7 h7 => hZ f s7 h7) fun _ _ z => z.elim) fun _ _ z => z.elim
  cases hd with
  | begin =>
    refine wpAny_gsz (n := g + 1) hgl (next_first hh I2.nolimit hr.depth m.gen m.fresh (m.wake X.A.in1 (s2.setGen g .running) [] hr.in1 I2.ok.frames (fun _ _ e => e) m.os (allBare_setGen m.bare rfl) (fun p hp => by simp at hp)) fun e s₁ he => ?_)
    cases e with
    | ret r =>
      obtain ⟨rfl, hN0, ⟨j1, j2, j3, j4, j5, j6, _⟩⟩ := he
      refine .inl ⟨rfl, fun h' hk' _ => ?_⟩
      have I4 : Inv X pins σ H1 s₁ := I1.call' (ch := []) j1 j3 j4 j2 fun b z => by simp at z
      have I5 : Inv X pins σ H1 { s₁.setGen g .finished with heap := h' } := Inv.withG (I4.kept (t' := s₁.toks) hk') (allBare_setGen j2 rfl)
      refine wpAny_execs_nil ?_
      rw [hN0] at hdone
      exact ⟨σ, H1, I5, hdone σ H1 hP⟩
    | susp v gd l k₁ c₁ p₁ fs₁ =>
      obtain ⟨hq, hN0, ⟨t, rfl⟩, ⟨j1, j2, j3, j4, j5, j6, _⟩, it, hit', hst, hsl⟩ := he
      have hit : a + 1 ≤ it := Nat.succ_le_of_lt (hit' a List.mem_cons_self)
      refine .inr ⟨_, gd, l, k₁, c₁, p₁, fs₁, rfl, hq, fun hsz' => ?_⟩
      have I4 : Inv X pins σ H1 s₁ := I1.call' (ch := []) j1 j3 j4 j2 fun b z => by simp at z
      have hcl : (gd || fs₁.any Frame.guarded) = false := by
        have : (!(gd || fs₁.any Frame.guarded)) = true := hq
        simpa using this
      have hb' : (End.susp (Value.int (sl size code 0) t) gd l k₁ c₁ p₁ fs₁).genState.bare = true := End.bare_of_quiet hq
      have I5 : Inv X pins σ H1 (s₁.setGen g (End.susp (Value.int (sl size code 0) t) gd l k₁ c₁ p₁ fs₁).genState) := Inv.withG I4 (allBare_setGen j2 hb')
      have hgs1 : g < s₁.gens.size := by
        have q : (s₁.setGen g (End.susp (Value.int (sl size code 0) t) gd l k₁ c₁ p₁ fs₁).genState).gens.size = s₁.gens.size := setGen_size _ _ _
        have hsz'' : g + 1 ≤ (s₁.setGen g (End.susp (Value.int (sl size code 0) t) gd l k₁ c₁ p₁ fs₁).genState).gens.size := hsz'
        omega
      refine turn hN0 hit I5 hP ⟨hit, j5, hst, fun b hb' => ?_, k₁, l, c₁, p₁, fs₁, _, setGen_at hgs1, hcl, hsl⟩ fun f s7 q => ?_
      · have yy : @LE.le Nat _ s1.heap.objs.size b := by
          have h1 : @LE.le Nat _ s1.heap.objs.size env.locals := m.young
          have h2 : @LT.lt Nat _ env.locals a := m.La
          have h3 : @LE.le Nat _ (a + 1) it := hit
          rcases List.mem_cons.mp hb' with z | z
          · have z : @Eq Nat b a := z
            omega
          · rcases List.mem_cons.mp z with z | z
            · have z : @Eq Nat b env.locals := z
              omega
            · have z : @Eq Nat b it := List.mem_singleton.mp z
              omega
        exact I1.hok.fresh yy
      · have := fin hN0 q
        cases f <;> exact this
  | @amid _ it _ _ _ hpos hA =>
    obtain ⟨hlow, hgen, hst, hnT, ⟨k₁, l₁, c₁, p₁, fs₁, cl₁, hgs, hcl, hsl⟩⟩ := hA
    have hgl3 : g < s3.gens.size := (Array.getElem?_eq_some_iff.mp hgs).1
    have fL : FpOk X pins H3 env.locals := yg it hlow _ (by simp) H3 (hnT _ (by simp))
    have fI : FpOk X pins H3 it := yg it hlow _ (by simp) H3 (hnT _ (by simp))
    have haL : a ≠ env.locals := Nat.ne_of_gt m.La
    have haI : a ≠ it := Nat.ne_of_lt (Nat.lt_of_lt_of_le (Nat.lt_succ_self a) hlow)
    have I3' : Inv X pins σ3 H3 (s3.setGen g .running) := Inv.withG I3 (allBare_setGen I3.bare rfl)
    refine wpAny_gsz (n := g + 1) hgl3 (next_later (n := many.toNat - i) hh I3.nolimit hr.depth hgen hgs (hsl (s3.setGen g .running) fun _ _ _ e => e) (fun r s₁ hR => ?_) fun v gd l k₂ c₂ p₂ fs₂ s₁ hq hY => ?_)
    · obtain ⟨rfl, hn0, hj⟩ := hR
      unfold Jr at hj
      rw [if_neg (by omega)] at hj
      refine ⟨rfl, fun h' hk' _ => ?_⟩
      have I4 : Inv X pins σ3 H3 s₁ := inv_mv I3' hj fL fI
      have I5 : Inv X pins σ3 H3 { s₁.setGen g .finished with heap := h' } := Inv.withG (I4.kept (t' := s₁.toks) hk') (allBare_setGen I4.bare rfl)
      refine wpAny_execs_nil ?_
      have e : i = many.toNat := by omega
      rw [← e] at hdone
      exact ⟨σ3, H3, I5, hdone σ3 H3 hP⟩
    · obtain ⟨i', t, hi', rfl, hj, hy, hkap⟩ := hY
      intro hsz'
      obtain ⟨m', hm'⟩ : ∃ m', many.toNat - i = m' + 1 := by
        cases hz : many.toNat - i with
        | succ m' => exact ⟨m', rfl⟩
        | zero =>
          have := hkap s₁ fun _ _ _ e => e
          rw [hz] at this
          exact False.elim this
      have ei : i' = i := by omega
      subst ei
      have hlt : i' < many.toNat := by omega
      unfold Jr at hj
      rw [if_neg (by omega)] at hj
      have I4 : Inv X pins σ3 H3 s₁ := inv_mv I3' hj fL fI
      have hcl2 : (gd || fs₂.any Frame.guarded) = false := by
        have : (!(gd || fs₂.any Frame.guarded)) = true := hq
        simpa using this
      have hb' : (End.susp (Value.int (sl size code i') t) gd l k₂ c₂ p₂ fs₂).genState.bare = true := End.bare_of_quiet hq
      have I5 : Inv X pins σ3 H3 (s₁.setGen g (End.susp (Value.int (sl size code i') t) gd l k₂ c₂ p₂ fs₂).genState) := Inv.withG I4 (allBare_setGen I4.bare hb')
      have hgs1 : g < s₁.gens.size := by
        have q : (s₁.setGen g (End.susp (Value.int (sl size code i') t) gd l k₂ c₂ p₂ fs₂).genState).gens.size = s₁.gens.size := setGen_size _ _ _
        have hsz'' : g + 1 ≤ (s₁.setGen g (End.susp (Value.int (sl size code i') t) gd l k₂ c₂ p₂ fs₂).genState).gens.size := hsz'
        omega
      have hgen1 : s₁.heap.IsGen a g := by
        obtain ⟨h', tk, rfl, k'⟩ := hj
        obtain ⟨o, n1, n2, ho, z⟩ := hgen
        exact ⟨o, n1, n2, k' _ o haL haI ho, z⟩
      refine turn hlt hlow I5 hP ⟨hlow, hgen1, hy, hnT, k₂, l, c₂, p₂, fs₂, _, setGen_at hgs1, hcl2, fun s'' z => ?_⟩ fun f s7 q => ?_
      · have := hkap s'' z
        rw [hm'] at this
        rw [show many.toNat - (i' + 1) = m' by omega]
        exact this
      · have := fin hlt q
        cases f <;> exact this
end
end Pth
set_option Elab.async false
set_option linter.all false
set_option maxRecDepth 100000
set_option maxHeartbeats 1000000
/-! Pl: list(path(..)) -/
namespace Pth
open PySem PySem.Spec PyProof.Rows L2 GenW
section
variable {X : Cx} {pins : List (Addr × Obj)} {σ : L2.St} {H : Hp} {s : Shared}
/-- an object of ours is tracked from now on -/
theorem inv_track {S : Addr} {o : HO} (I : Inv X pins σ H s) (f : FpOk X pins H S) (hs : ∃ u, s.heap.get? S = some u) (new : ObjOk X.prog X.w (upd H S o) s.heap S o) : Inv X pins σ (upd H S o) s := by
  obtain ⟨a0, a1, a2, a3, a4, a5⟩ := f
  have ne : ∀ b, b ∉ [S] → b ≠ S := fun b hb z => hb (by rw [z]; simp)
  have nt : ∀ b u, H b = some u → b ≠ S := fun b u e => ne_of_none e a0
  obtain ⟨hp, g, d, t, os⟩ := s
  refine I.step (g' := g) (d' := d) (t' := t) (h' := hp) (ch := [S]) (fun b hb => ?_) (fun b o _ _ _ e _ => e) (fun b o _ _ _ e _ => ⟨o.slots, e⟩) (fun b _ hc _ n => by rw [upd_ne (ne b hc)]; exact n)
    (fun b o _ e => ⟨o, e⟩) (fun b _ e => by rw [upd_ne (nt b _ e)]; exact e) (fun b _ _ e => by rw [upd_ne (nt b _ e)]; exact e) (fun b ps e => ⟨#[], by rw [upd_ne (nt b _ e), e]; simp⟩) (fun m hm => hm) (fun b u e => ?_) I.bare
  · rw [List.mem_singleton.mp hb]; exact ⟨a3, a1, a4, a5⟩
  · by_cases hb : b = S
    · rw [hb, upd_same] at e
      cases e
      rw [hb]
      exact new
    · rw [upd_ne hb] at e
      exact (I.hok b u e).stay (fun _ _ _ q => q) (fun c q => by rw [upd_ne (nt c _ q)]; exact q) fun c xs q => by rw [upd_ne (nt c _ q)]; exact q
/-- the slots, a list -/
def slots (size code many : Int) : List V := (List.range many.toNat).map fun i => V.int (sl size code i)
def tListP (ta : TA) : TE := fun σ H Q => ta σ H fun vs H1 => ∃ code size many : Int, vs = [.int code, .int size, .int many] ∧ POk code size many ∧ many.toNat ≤ sizeLine ∧ ∀ p, H1 p = none → Q (.ref p) (upd H1 p (.lst (slots size code many)))
/-- the list stands at S: i slots are in it -/
def InList (S : Addr) (size code : Int) (i : Nat) (s : Shared) : Prop := ∃ (acc : Array Value) (c : Nat), Vals ((List.range i).map fun i => V.int (sl size code i)) acc.toList ∧ s.heap.get? S = some (lstObj acc c)
theorem vals_snoc {size code : Int} {i : Nat} {acc : Array Value} {t : Tok} (h : Vals ((List.range i).map fun i => V.int (sl size code i)) acc.toList) : Vals ((List.range (i + 1)).map fun i => V.int (sl size code i)) (acc.push (.int (sl size code i) t)).toList := by
  rw [List.range_succ, List.map_append, Array.toList_push]
  exact h.append (.cons ⟨t, rfl⟩ .nil)
/-- the loop that fills the list, i slots being in it -/
theorem drainP {A : Around} {env : Env} {a g : Nat} {size code many : Int} {S it : Addr} {R : Result → Shared → Prop} {res : Value} (hh : A.handled = none) (hd : A.depth < recursionLimit) (hle : many.toNat ≤ sizeLine) (hL : env.locals ≠ S) (hI : it ≠ S) (haS : a ≠ S) (haL : a ≠ env.locals) (haI : a ≠ it) (hGS : mainGlobals ≠ S)
    (fS : FpOk X pins H S) (fL : FpOk X pins H env.locals) (fI : FpOk X pins H it)
    (hend : ∀ s', Inv X pins σ H s' → InList S size code many.toNat s' → R (.ok (.ret res)) s') :
    ∀ (r i : Nat) (s : Shared), 0 < i → i + r = many.toNat → Inv X pins σ H s → InList S size code i s → Asleep X A.in1.in1 env a g many.toNat size code 0 i it H s →
      codeAny (model X.prog X.w) A (.builtin "list.extend.loop" ⟨[.ref S, .ref a, res], []⟩) R s := by
  intro r
  induction r with
  | zero =>
    intro i s hpos hir I hin hA
    obtain ⟨hlow, hgen, hst, hnT, ⟨k₁, l₁, c₁, p₁, fs₁, cl₁, hgs, hcl, hsl⟩⟩ := hA
    have I' : Inv X pins σ H (s.setGen g .running) := Inv.withG I (allBare_setGen I.bare rfl)
    refine codeAny_builtin F.entry_extend_loop ?_
    rw [Around.under_plainId F.plain_extend_loop _]
    show wpAny _ A.in1 (pyNext (.ref a) >>= _) _ _ s
    refine wpAny_bind (next_later (A := A.in1) (n := many.toNat - i) hh I.nolimit hd hgen hgs (hsl (s.setGen g .running) fun _ _ _ e => e) (fun r s₁ hR => ?_) fun v gd l k₂ c₂ p₂ fs₂ s₁ hq hY => ?_)
    · obtain ⟨rfl, hn0, hj⟩ := hR
      unfold Jr at hj
      rw [if_neg (by omega)] at hj
      refine ⟨rfl, fun h' hk' => ?_⟩
      have I4 : Inv X pins σ H s₁ := inv_mv I' hj fL fI
      have I5 : Inv X pins σ H { s₁.setGen g .finished with heap := h' } := Inv.withG (I4.kept (t' := s₁.toks) hk') (allBare_setGen I4.bare rfl)
      refine wpAny_pure (hend _ I5 ?_)
      obtain ⟨acc, c, hv, hS⟩ := hin
      obtain ⟨h2, tk, rfl, k2⟩ := hj
      refine ⟨acc, c, ?_, hk' _ _ (k2 _ _ (Ne.symm hL) (Ne.symm hI) hS)⟩
      have e : many.toNat = i := by omega
      rw [e]; exact hv
    · obtain ⟨i', t, hi', rfl, hj, hy, hkap⟩ := hY
      have := hkap s₁ fun _ _ _ e => e
      rw [show many.toNat - i = 0 by omega] at this
      exact False.elim this
  | succ r ih =>
    intro i s hpos hir I hin hA
    obtain ⟨hlow, hgen, hst, hnT, ⟨k₁, l₁, c₁, p₁, fs₁, cl₁, hgs, hcl, hsl⟩⟩ := hA
    have hgl : g < s.gens.size := (Array.getElem?_eq_some_iff.mp hgs).1
    have I' : Inv X pins σ H (s.setGen g .running) := Inv.withG I (allBare_setGen I.bare rfl)
    refine codeAny_builtin F.entry_extend_loop ?_
    rw [Around.under_plainId F.plain_extend_loop _]
    show wpAny _ A.in1 (pyNext (.ref a) >>= _) _ _ s
    refine wpAny_bind (wpAny_gsz (n := g + 1) hgl (next_later (A := A.in1) (n := many.toNat - i) hh I.nolimit hd hgen hgs (hsl (s.setGen g .running) fun _ _ _ e => e) (fun r s₁ hR => ?_) fun v gd l k₂ c₂ p₂ fs₂ s₁ hq hY => ?_))
    · obtain ⟨rfl, hn0, hj⟩ := hR
      omega
    · obtain ⟨i', t, hi', rfl, hj, hy, hkap⟩ := hY
      intro hsz'
      have ei : i' = i := by omega
      subst ei
      unfold Jr at hj
      rw [if_neg (by omega)] at hj
      have I4 : Inv X pins σ H s₁ := inv_mv I' hj fL fI
      have hcl2 : (gd || fs₂.any Frame.guarded) = false := by
        have : (!(gd || fs₂.any Frame.guarded)) = true := hq
        simpa using this
      have hb' : (End.susp (Value.int (sl size code i') t) gd l k₂ c₂ p₂ fs₂).genState.bare = true := End.bare_of_quiet hq
      have I5 : Inv X pins σ H (s₁.setGen g (End.susp (Value.int (sl size code i') t) gd l k₂ c₂ p₂ fs₂).genState) := Inv.withG I4 (allBare_setGen I4.bare hb')
      have hgs1 : g < s₁.gens.size := by
        have q : (s₁.setGen g (End.susp (Value.int (sl size code i') t) gd l k₂ c₂ p₂ fs₂).genState).gens.size = s₁.gens.size := setGen_size _ _ _
        have hsz'' : g + 1 ≤ (s₁.setGen g (End.susp (Value.int (sl size code i') t) gd l k₂ c₂ p₂ fs₂).genState).gens.size := hsz'
        omega
      obtain ⟨h2, tk, rfl, k2⟩ := hj
      obtain ⟨acc, c, hv, hS⟩ := hin
      have hS1 : h2.get? S = some (lstObj acc c) := k2 _ _ (Ne.symm hL) (Ne.symm hI) hS
      have hal : acc.size = i' := by
        have := hv.length
        simpa using this.symm
      show wpAny _ A.in1 (updateSeq S (·.push (.int (sl size code i') t)) >>= _) _ _ _
      refine wpAny_bind ?_
      refine wpAny_updateSeq hS1 rfl (wpAny_pure ⟨plainId_quiet F.plain_extend_loop _, ?_⟩) (by omega) (by show (acc.push _).size ≤ sizeLine + 1; rw [Array.size_push]; omega)
      have keep3 : ∀ b o, b ≠ S → h2.get? b = some o → (h2.update S (Obj.mapSeq (·.push (.int (sl size code i') t)))).get? b = some o := fun b o hbS e => (Heap.get?_update_other _ _ (Ne.symm hbS)).trans e
      obtain ⟨s0, s1', s2, s3, s4, s5⟩ := fS
      refine ih (i' + 1) _ (by omega) (by omega) (I5.turned (it := S) (t' := tk) keep3 s0 s1' s3 s4 s5) ⟨_, _, vals_snoc hv, Heap.get?_update_self _ hS1 rfl⟩ ⟨Nat.zero_le _, ?_, ?_, hnT, k₂, l, c₂, p₂, fs₂, _, setGen_at hgs1, hcl2, fun s'' z => ?_⟩
      · obtain ⟨o, n1, n2, ho, z⟩ := hgen
        exact ⟨o, n1, n2, keep3 _ o haS (k2 _ o haL haI ho), z⟩
      · refine hy.keeps (s' := { heap := h2.update S (Obj.mapSeq (·.push (.int (sl size code i') t))), gens := s.gens, drawn := s.drawn, toks := tk, os := s.os }) fun b o hb e => ?_
        refine keep3 b o ?_ e
        rcases hb with e | e | e <;> rw [e] <;> first | exact hL | exact hI | exact hGS
      · have := hkap s'' fun b o hb e => z b o hb ?_
        · rw [show many.toNat - i' = r + 1 by omega] at this
          rw [show many.toNat - (i' + 1) = r by omega]
          exact this
        · refine keep3 b o ?_ e
          rcases hb with e | e | e <;> rw [e] <;> first | exact hL | exact hI | exact hGS

theorem drain0 {A : Around} {env : Env} {k a g : Nat} {c : Code} {size code many : Int} {S : Addr} {R : Result → Shared → Prop} {res : Value} {H1 : Hp} {s1 s2 : Shared} {cc : Nat} (hh : A.handled = none) (hd : A.depth < recursionLimit) (hle : many.toNat ≤ sizeLine)
    (I1 : Inv X pins σ H1 s1) (m : PMade X.prog X.w k X.stack H1 s1 many.toNat size code a g c env s2) (hr : Room k A.in1.in1) (hfr : A.in1.in1.frames = some X.stack) (hk : ∀ b o, s2.heap.get? b = some o → s.heap.get? b = some o) (hg : s.gens = s2.gens) (ho : s.os = s2.os)
    (hS : s.heap.get? S = some (lstObj #[] cc)) (haS : a < S)
    (hend : ∀ s', Inv X pins σ H1 s' → InList S size code many.toNat s' → R (.ok (.ret res)) s') :
    codeAny (model X.prog X.w) A (.builtin "list.extend.loop" ⟨[.ref S, .ref a, res], []⟩) R s := by
  have y1 : @LE.le Nat _ s1.heap.objs.size env.locals := m.young
  have y2 : @LT.lt Nat _ env.locals a := m.La
  have y3 : @LT.lt Nat _ a S := haS
  have yng : ∀ b : Addr, @LE.le Nat _ env.locals b → ∀ {H' : Hp}, H' b = none → FpOk X pins H' b := fun b hb H' hn => I1.fpOk (show @LE.le Nat _ s1.heap.objs.size b by omega) hn
  have ynn : ∀ b : Addr, @LE.le Nat _ env.locals b → H1 b = none := fun b hb => I1.hok.fresh (show @LE.le Nat _ s1.heap.objs.size b by omega)
  have hmG : @LT.lt Nat _ mainGlobals S := by
    obtain ⟨o, es, ep, ho, _⟩ := I1.mod.glob
    have := Heap.lt_size (I1.bk _ _ ho)
    have : @LT.lt Nat _ mainGlobals s1.heap.objs.size := this
    omega
  have hL : env.locals ≠ S := Nat.ne_of_lt (show @LT.lt Nat _ env.locals S by omega)
  have hgen : s.heap.IsGen a g := m.gen.keeps hk
  have hlim : s.heap.NoLimit := m.lim.keeps hk
  have hgs : s.gens[g]? = some (.fresh c) := by rw [hg]; exact m.fresh
  have hgl : g < s.gens.size := (Array.getElem?_eq_some_iff.mp hgs).1
  have hbare : AllBare s.gens := by rw [hg]; exact m.bare
  have fS : FpOk X pins H1 S := yng S (by omega) (ynn S (by omega))
  have fL : FpOk X pins H1 env.locals := yng _ (Nat.le_refl _) (ynn _ (Nat.le_refl _))
  refine codeAny_builtin F.entry_extend_loop ?_
  rw [Around.under_plainId F.plain_extend_loop _]
  show wpAny _ A.in1 (pyNext (.ref a) >>= _) _ _ s
  refine wpAny_bind (wpAny_gsz (n := g + 1) hgl (next_first (A := A.in1) hh hlim hd hgen hgs (m.wake A.in1.in1 (s.setGen g .running) [(S, lstObj #[] cc)] hr hfr (fun b o e => hk b o e) (ho.trans m.os) (allBare_setGen hbare rfl) (fun p hp => by
    rw [List.mem_singleton.mp hp]
    exact ⟨hS, haS, fun v z => by cases z⟩)) fun e s₁ he => ?_))
  cases e with
  | ret r =>
    obtain ⟨rfl, hN0, ⟨j1, j2, j3, j4, j5, j6, j7⟩⟩ := he
    refine .inl ⟨rfl, fun h' hk' _ => ?_⟩
    have I4 : Inv X pins σ H1 s₁ := I1.call' (ch := []) j1 j3 j4 j2 fun b z => by simp at z
    have I5 : Inv X pins σ H1 { s₁.setGen g .finished with heap := h' } := Inv.withG (I4.kept (t' := s₁.toks) hk') (allBare_setGen j2 rfl)
    refine wpAny_pure (hend _ I5 ⟨#[], cc, ?_, hk' _ _ (j7 (S, lstObj #[] cc) (List.mem_singleton.mpr rfl))⟩)
    rw [hN0]
    exact .nil
  | susp v gd l k₁ c₁ p₁ fs₁ =>
    obtain ⟨hq, hN0, ⟨t, rfl⟩, ⟨j1, j2, j3, j4, j5, j6, j7⟩, it, hit', hst, hsl⟩ := he
    refine .inr ⟨_, gd, l, k₁, c₁, p₁, fs₁, rfl, hq, fun hsz' => ?_⟩
    have hai : @LT.lt Nat _ a it := hit' a List.mem_cons_self
    have hSi : @LT.lt Nat _ S it := hit' S (by simp)
    have I4 : Inv X pins σ H1 s₁ := I1.call' (ch := []) j1 j3 j4 j2 fun b z => by simp at z
    have hcl2 : (gd || fs₁.any Frame.guarded) = false := by
      have : (!(gd || fs₁.any Frame.guarded)) = true := hq
      simpa using this
    have hb' : (End.susp (Value.int (sl size code 0) t) gd l k₁ c₁ p₁ fs₁).genState.bare = true := End.bare_of_quiet hq
    have I5 : Inv X pins σ H1 (s₁.setGen g (End.susp (Value.int (sl size code 0) t) gd l k₁ c₁ p₁ fs₁).genState) := Inv.withG I4 (allBare_setGen j2 hb')
    have hgs1 : g < s₁.gens.size := by
      have q : (s₁.setGen g (End.susp (Value.int (sl size code 0) t) gd l k₁ c₁ p₁ fs₁).genState).gens.size = s₁.gens.size := setGen_size _ _ _
      have hsz'' : g + 1 ≤ (s₁.setGen g (End.susp (Value.int (sl size code 0) t) gd l k₁ c₁ p₁ fs₁).genState).gens.size := hsz'
      omega
    have fI : FpOk X pins H1 it := yng it (by omega) (ynn it (by omega))
    have hS1 : s₁.heap.get? S = some (lstObj #[] cc) := j7 (S, lstObj #[] cc) (List.mem_singleton.mpr rfl)
    have haS' : a ≠ S := Nat.ne_of_lt y3
    have haL : a ≠ env.locals := Nat.ne_of_gt y2
    have haI : a ≠ it := Nat.ne_of_lt hai
    have hI : it ≠ S := Nat.ne_of_gt hSi
    have hGS : mainGlobals ≠ S := Nat.ne_of_lt hmG
    obtain ⟨hp1, g1, d1, t1, o1⟩ := s₁
    have hS1 : hp1.get? S = some (lstObj #[] cc) := hS1
    show wpAny _ A.in1 (updateSeq S (·.push (.int (sl size code 0) t)) >>= _) _ _ _
    refine wpAny_bind ?_
    refine wpAny_updateSeq hS1 rfl (wpAny_pure ⟨plainId_quiet F.plain_extend_loop _, ?_⟩) (by show (0 : Nat) ≤ sizeLine; exact Nat.zero_le _) (by show (1 : Nat) ≤ sizeLine + 1; omega)
    have keep3 : ∀ b o, b ≠ S → hp1.get? b = some o → (hp1.update S (Obj.mapSeq (·.push (.int (sl size code 0) t)))).get? b = some o := fun b o hbS e => (Heap.get?_update_other _ _ (Ne.symm hbS)).trans e
    obtain ⟨s0', s1', s2', s3', s4', s5'⟩ := id fS
    refine drainP (A := A) hh hd hle hL hI haS' haL haI hGS fS fL fI hend (many.toNat - 1) 1 _ (by omega) (by omega) (I5.turned (it := S) (t' := t1) keep3 s0' s1' s3' s4' s5') ⟨_, _, vals_snoc (i := 0) (acc := #[]) .nil, Heap.get?_update_self _ hS1 rfl⟩ ⟨Nat.zero_le _, ?_, ?_, fun b hb => ?_, k₁, l, c₁, p₁, fs₁, _, setGen_at hgs1, hcl2, fun s'' z => ?_⟩
    · obtain ⟨o, n1, n2, ho, z⟩ := j5
      exact ⟨o, n1, n2, keep3 _ o haS' ho, z⟩
    · refine hst.keeps (s' := { heap := hp1.update S (Obj.mapSeq (·.push (.int (sl size code 0) t))), gens := g1, drawn := d1, toks := t1, os := o1 }) fun b o hb e => ?_
      refine keep3 b o ?_ e
      rcases hb with e | e | e <;> rw [e] <;> first | exact hL | exact hI | exact hGS
    · refine ynn b ?_
      rcases List.mem_cons.mp hb with z | z
      · have z : @Eq Nat b a := z
        omega
      · rcases List.mem_cons.mp z with z | z
        · have z : @Eq Nat b env.locals := z
          omega
        · have z : @Eq Nat b it := List.mem_singleton.mp z
          omega
    · refine hsl s'' fun b o hb e => z b o hb (keep3 b o ?_ e)
      rcases hb with e | e | e <;> rw [e] <;> first | exact hL | exact hI | exact hGS

theorem inList_lst {P : Program} {w : World} {H' : Hp} {S : Addr} {size code many : Int} {s : Shared} (h : InList S size code many.toNat s) (hle : many.toNat ≤ sizeLine) : ObjOk P w H' s.heap S (.lst (slots size code many)) := by
  obtain ⟨acc, c, hv, hS⟩ := h
  refine ⟨?_, acc.toList, c, hv, hS⟩
  unfold slots
  rw [List.length_map, List.length_range]
  exact hle
theorem call_listP {A : Around} {env : Env} {k a g : Nat} {c : Code} {size code many : Int} {H1 : Hp} {s1 s2 : Shared} {Q : VK} {E : Value → Shared → Prop} (hA : A = X.A) (hle : many.toNat ≤ sizeLine) (hr : Room (k + 3) A) (I1 : Inv X pins σ H1 s1) (m : PMade X.prog X.w k X.stack H1 s1 many.toNat size code a g c env s2)
    (hQ : ∀ p, H1 p = none → Q (.ref p) (upd H1 p (.lst (slots size code many)))) :
    wpAny (model X.prog X.w) A (call (.type "list") [.ref a]) (EP X pins σ Q) E s2 := by
  have y1 : @LE.le Nat _ s1.heap.objs.size env.locals := m.young
  have y2 : @LT.lt Nat _ env.locals a := m.La
  have y3 : @Eq Nat (a + 1) s2.heap.objs.size := m.aE
  have hSa : s2.heap.objs.size ≠ a := Nat.ne_of_gt (show @LT.lt Nat _ a s2.heap.objs.size by omega)
  refine callType_codes (Q₁ := fun obj s₁ => obj = .ref s2.heap.objs.size ∧ s₁ = { s2 with heap := s2.heap.push { cls := .type "list", data := .seq #[] } }) F.called_list (F.typeCall_list_1 _) F.entry_list_init
    (code_list_new _ ⟨rfl, rfl⟩) fun obj s₁ h₁ => ?_
  obtain ⟨rfl, rfl⟩ := h₁
  have hS : (s2.heap.push { cls := .type "list", data := .seq #[] }).get? s2.heap.objs.size = some { cls := .type "list", data := .seq #[] } := Heap.get?_push_size _ rfl
  refine ⟨⟨_, hS, rfl⟩, F.args_list_init_2 _ _, ?_⟩
  show wpAny _ A.in1.in1 (do let old ← Builtin.List.listItems (.ref s2.heap.objs.size); Builtin.List.listUpdate (.ref s2.heap.objs.size) (fun _ => #[]); letGo old.toList.reverse; Builtin.List.listExtendWith (.ref s2.heap.objs.size) (.ref a) .none) _ _ _
  refine wpAny_bind ?_
  unfold Builtin.List.listItems
  refine wpAny_bind (wpAny_seqItems hS rfl (wpAny_pure ?_))
  show wpAny _ A.in1.in1 (updateSeq s2.heap.objs.size (fun _ => #[]) >>= fun _ => letGo (#[] : Array Value).toList.reverse >>= fun _ => Builtin.List.listExtendWith (.ref s2.heap.objs.size) (.ref a) .none) _ _ _
  refine wpAny_bind (wpAny_updateSeq hS rfl ?_)
  have hS2 := Heap.get?_update_self (Obj.mapSeq (fun _ => (#[] : Array Value))) hS rfl
  refine wpAny_bind (wpAny_letGo ?_)
  unfold Builtin.List.listExtendWith
  have up : ∀ (h : Heap) (f : Obj → Obj), (∀ b o, s2.heap.get? b = some o → h.get? b = some o) → ∀ b o, s2.heap.get? b = some o → (h.update s2.heap.objs.size f).get? b = some o := fun h f q b o e =>
    (Heap.get?_update_other _ _ (Ne.symm (Nat.ne_of_lt (Heap.lt_size e)))).trans (q b o e)
  have k1 : ∀ b o, s2.heap.get? b = some o → (s2.heap.push { cls := .type "list", data := .seq #[] }).get? b = some o := fun b o e => Heap.get?_push_of_some _ e
  have k2 := up _ (Obj.mapSeq (fun _ => (#[] : Array Value))) k1
  have gty : ∀ {h : Heap}, (∀ b o, s2.heap.get? b = some o → h.get? b = some o) → h.IsGen a g := fun {h} q => m.gen.keeps q
  refine wpAny_bind (wpAny_typeOf (Heap.IsGen.typeIs (s := { s2 with heap := _ }) (gty k2)) ?_)
  have h1 : Builtin.List.listSameRef (.ref s2.heap.objs.size) (.ref a) = false := by simp [Builtin.List.listSameRef, hSa]
  have h2 : (Value.type "generator" == Value.type "list") = false := by decide
  have h3 : (Value.type "generator" == Value.type "tuple") = false := by decide
  simp only [h1, h2, h3, Bool.or_false, Bool.false_eq_true, if_false]
  refine wpAny_bind (wpAny_pyIter_gen (s := { s2 with heap := _ }) (gty k2) ?_)
  refine wpAny_bind (wpAny_holding ?_)
  unfold Builtin.List.listLengthHint
  refine wpAny_bind (wpAny_specialOf (Heap.IsGen.typeIs (s := { s2 with heap := _ }) (gty k2)) F.gen_no_len ?_)
  show wpAny _ A.in1.in1 (specialOf (Value.ref a) (Str.ofString "__length_hint__") >>= _) _ _ _
  refine wpAny_bind (wpAny_specialOf (Heap.IsGen.typeIs (s := { s2 with heap := _ }) (gty k2)) F.gen_no_hint ?_)
  refine wpAny_pure ?_
  show wpAny _ A.in1.in1 (rule "list.extend.makes-room" >>= fun _ => Builtin.List.listTouch (.ref s2.heap.objs.size) >>= fun _ =>
    again (.builtin "list.extend.loop" ⟨[.ref s2.heap.objs.size, .ref a, .none], []⟩)) _ _ _
  refine wpAny_bind (wpAny_rule ?_)
  refine wpAny_bind ?_
  show wpAny _ A.in1.in1 (updateSeq s2.heap.objs.size (·.push .none) >>= fun _ => updateSeq s2.heap.objs.size (·.pop)) _ _ _
  refine wpAny_bind (wpAny_updateSeq hS2 rfl ?_)
  have hS3 := Heap.get?_update_self (Obj.mapSeq (·.push Value.none)) hS2 rfl
  refine wpAny_updateSeq (hz := by seq_fits) hS3 rfl ?_
  have hS4 := Heap.get?_update_self (Obj.mapSeq (·.pop)) hS3 rfl
  have k4 := up _ (Obj.mapSeq (·.pop)) (up _ (Obj.mapSeq (·.push Value.none)) k2)
  refine wpAny_pure ⟨plainId_quiet F.plain_extend_loop _, ?_⟩
  refine drain0 (A := A.in1) hr.hd (by have := hr.dp; show A.depth < _; omega) hle I1 m ⟨hr.hd, ?_, ?_⟩ (by rw [hA]; exact I1.ok.frames) k4 rfl rfl hS4 (show @LT.lt Nat _ a s2.heap.objs.size by omega) fun s' I' hin => ⟨rfl, ?_⟩
  · have := hr.dp
    show A.depth + 3 * k + 5 < _
    omega
  · have := hr.un
    show A.units + 1 + 1 + 1 + 16 * k + 200 < _
    omega
  · have hn : H1 s2.heap.objs.size = none := I1.hok.fresh (show @LE.le Nat _ s1.heap.objs.size s2.heap.objs.size by omega)
    have fS : FpOk X pins H1 s2.heap.objs.size := I1.fpOk (show @LE.le Nat _ s1.heap.objs.size s2.heap.objs.size by omega) hn
    have hob : ∃ u, s'.heap.get? s2.heap.objs.size = some u := by
      obtain ⟨acc, c, _, h⟩ := hin
      exact ⟨_, h⟩
    exact ⟨.ref s2.heap.objs.size, _, inv_track I' fS hob (inList_lst hin hle), rfl, hQ _ hn⟩
/-- list(path(..)) -/
theorem pe_listP {f : Addr} {fd : FuncData} {k : Nat} {nmp nml : Str} {p p1 pos' pos : Pos} {e : Expr} {es : List Expr} {ta : TA}
    (F : PathDef X.prog X.w X.K X.mg X.base k f fd) (hr : Room (k + 3) X.A) (hg : Gl X nmp) (hm : X.mg nmp = some (.ref f)) (hk : PySem.W.keepIn X.K (.ref f) = true) (hb : Binds X.K fd pP []) (ha : PA X (e :: es) ta)
    (hgl : Gl X nml) (hmg : X.mg nml = none) (hv : bootBuiltins nml = some (.type "list")) (hnm : nml ≠ "__name__" := by decide) (hdl : (nml == ("__debug__" : Str)) = false := by decide)
    (hdb : (nmp == ("__debug__" : Str)) = false := by decide) (he : starEach (e :: es) X.env = (false, eval e X.env) :: starEach es X.env := by rfl) (hpl : (backTo pos' (starEach es X.env)).any (·.1) = false := by rfl)
    (he1 : starEach [.Call (.Name nmp p1) (e :: es) [] pos'] X.env = (false, eval (.Call (.Name nmp p1) (e :: es) [] pos') X.env) :: starEach [] X.env := by rfl) :
    PE X (.Call (.Name nml p) [.Call (.Name nmp p1) (e :: es) [] pos'] [] pos) (tListP ta) := by
  refine ⟨fun pins s σ H Q I h => ?_⟩
  refine wpAny_Call_Name_kw (ld_blt I hgl hmg hv ?_ hnm hdl)
  refine PyProof.Rows.callWith_type1 ?_ he1 rfl
  rw [he1]
  show wpAny _ _ (spliced ((false, eval (.Call (.Name nmp p1) (e :: es) [] pos') X.env) :: backTo pos (starEach [] X.env))) _ _ s
  refine Calls.spliced_cons ?_
  refine wpAny_Call_Name_kw (ld_glob I hg hm ?_ hdb)
  refine PySem.W.callWith_K (h₀ := X.base) I.ok.mod.kin hk (thn (ha.run pos' pins s σ H _ I h) fun us s1 ⟨vs, H1, I1, r1, q1⟩ => ⟨I1.kIn, ?_⟩) he hpl
  obtain ⟨code, size, many, rfl, ok, hle, hq⟩ := q1
  have hl2 : us.length = 3 := r1.length.symm
  have hbt : BindsTo s1 fd ⟨us, []⟩ (pP.zip us) := by
    have := hb s1 us I1.kIn (by rw [List.append_nil]; exact hl2)
    rw [List.append_nil] at this
    exact this
  refine wpAny_call (codeAny_mono (F ok (hr.mono (by omega)) I1.env0 hbt r1) fun r s2 hq' => ?_)
  cases r with
  | error e => exact False.elim hq'
  | ok fl =>
  cases fl with
  | next => exact False.elim hq'
  | brk => exact False.elim hq'
  | cont => exact False.elim hq'
  | ret u =>
  obtain ⟨a, g, c, env, rfl, m⟩ := hq'
  refine Calls.spliced_nil ?_
  exact call_listP rfl hle hr I1 m hq
end
end Pth
/-! mathematics of the paths -/
namespace K12
/-- the first slots of a path: slot, push, how many -/
def pathN (size : Nat) : Nat → Nat → Nat → List Nat
  | _, _, 0 => []
  | slot, push, n + 1 => slot :: pathN size ((5 * slot + push / 32 + 1) % size) (push / 32) n
def first (code size many : Nat) : List Nat := pathN size (code % size) code many

theorem pathN_len (size : Nat) : ∀ (n slot push : Nat), (pathN size slot push n).length = n
  | 0, _, _ => rfl
  | n + 1, _, _ => by simp [pathN, pathN_len size n]
theorem pathN_lt {size : Nat} (h : 0 < size) : ∀ (n slot push : Nat), slot < size → ∀ x ∈ pathN size slot push n, x < size
  | 0, _, _, _, x, hx => by simp [pathN] at hx
  | n + 1, slot, push, hs, x, hx => by
    simp only [pathN, List.mem_cons] at hx
    rcases hx with rfl | hx
    · exact hs
    · exact pathN_lt h n _ _ (Nat.mod_lt _ h) x hx

/-- half the size -/
theorem pathN_half {half : Nat} (_h : 0 < half) : ∀ (n slot push s2 : Nat), s2 = slot % half → pathN half s2 push n = (pathN (2 * half) slot push n).map (· % half)
  | 0, _, _, _, _ => rfl
  | n + 1, slot, push, s2, e => by
    simp only [pathN, List.map_cons]
    rw [e]
    congr 1
    refine pathN_half _h n _ _ _ ?_
    rw [Nat.mod_mul_left_mod]
    simp [Nat.add_mod, Nat.mul_mod]
theorem first_half {half code n : Nat} (h : 0 < half) : first code half n = (first code (2 * half) n).map (· % half) := by
  refine pathN_half h n _ _ _ ?_
  rw [Nat.mod_mul_left_mod]

/-- the slots as a function -/
def slotAt (size code : Nat) : Nat → Nat
  | 0 => code % size
  | i + 1 => (5 * slotAt size code i + code / 32 ^ (i + 1) + 1) % size
theorem pathN_get (size code : Nat) : ∀ (n i : Nat), pathN size (slotAt size code i) (code / 32 ^ i) n = (List.range' i n).map (slotAt size code)
  | 0, i => rfl
  | n + 1, i => by
    simp only [pathN, List.range'_succ, List.map_cons]
    congr 1
    rw [← pathN_get size code n (i + 1)]
    rw [Nat.div_div_eq_div_mul, ← Nat.pow_succ]
    rfl
theorem first_eq (code size n : Nat) : first code size n = (List.range n).map (slotAt size code) := by
  have h := pathN_get size code n 0
  simp only [Nat.pow_zero, Nat.div_one] at h
  rw [List.range_eq_range']
  exact h

/-- behind the sixth step the pushes are 0 -/
theorem push_zero {code i : Nat} (h : code < 4294967296) (hi : 7 ≤ i) : code / 32 ^ i = 0 := by
  apply Nat.div_eq_of_lt
  refine Nat.lt_of_lt_of_le h ?_
  refine Nat.le_trans (show 4294967296 ≤ 32 ^ 7 by decide) ?_
  exact Nat.pow_le_pow_right (by decide) hi

/-! the cycle x -> 5 x + 1 modulo a power of two -/
theorem five_odd_pow (e : Nat) : 5 ^ e % 4 = 1 := by
  induction e with
  | zero => rfl
  | succ e ih => rw [Nat.pow_succ]; omega
/-- the order of 5 modulo 2 ^ (m + 2) is 2 ^ m -/
theorem order5 : ∀ (m d : Nat), 2 ^ (m + 2) ∣ 5 ^ d - 1 → 2 ^ m ∣ d
  | 0, d, _ => by simp
  | m + 1, d, h => by
    have h8 : 8 ∣ 5 ^ d - 1 := by
      refine Nat.dvd_trans ?_ h
      rw [show (8 : Nat) = 2 ^ 3 by rfl]
      exact Nat.pow_dvd_pow 2 (by omega)
    have hd : d % 2 = 0 := by
      rcases Nat.mod_two_eq_zero_or_one d with e | e
      · exact e
      · exfalso
        obtain ⟨k, rfl⟩ : ∃ k, d = 2 * k + 1 := ⟨d / 2, by omega⟩
        have h25 : 5 ^ (2 * k + 1) % 8 = 5 := by
          clear h h8 e
          induction k with
          | zero => rfl
          | succ k ih =>
            rw [show 2 * (k + 1) + 1 = (2 * k + 1) + 2 by omega, Nat.pow_add]
            rw [Nat.mul_mod, ih]
        obtain ⟨q, hq⟩ := h8
        have : 0 < 5 ^ (2 * k + 1) := Nat.pow_pos (by decide)
        omega
    obtain ⟨e, rfl⟩ : ∃ e, d = 2 * e := ⟨d / 2, by omega⟩
    have h5 := five_odd_pow e
    have hp : 0 < 5 ^ e := Nat.pow_pos (by decide)
    obtain ⟨t, ht⟩ : ∃ t, 5 ^ e = 4 * t + 1 := ⟨5 ^ e / 4, by omega⟩
    have hsq : 5 ^ (2 * e) - 1 = (5 ^ e - 1) * (2 * (2 * t + 1)) := by
      rw [Nat.two_mul, Nat.pow_add, ht]
      simp only [Nat.add_sub_cancel]
      have : (4 * t + 1) * (4 * t + 1) = 4 * t * (2 * (2 * t + 1)) + 1 := by
        simp only [Nat.mul_add, Nat.add_mul, Nat.mul_one, Nat.one_mul]
        have e1 : 4 * t * (2 * (2 * t)) = 16 * (t * t) := by
          rw [show 2 * (2 * t) = 4 * t by omega]
          rw [Nat.mul_mul_mul_comm]
        have e2 : 4 * t * (4 * t) = 16 * (t * t) := by rw [Nat.mul_mul_mul_comm]
        omega
      omega
    rw [hsq, Nat.pow_succ, Nat.mul_comm (2 ^ (m + 2)) 2] at h
    have h2 : 2 * 2 ^ (m + 2) ∣ 2 * ((5 ^ e - 1) * (2 * t + 1)) := by
      have e3 : (5 ^ e - 1) * (2 * (2 * t + 1)) = 2 * ((5 ^ e - 1) * (2 * t + 1)) := by
        rw [← Nat.mul_assoc, Nat.mul_comm (5 ^ e - 1) 2, Nat.mul_assoc]
      rw [← e3]; rw [show m + 2 = m + 1 + 1 by rfl]; exact h
    have h3 : 2 ^ (m + 2) ∣ (5 ^ e - 1) * (2 * t + 1) := Nat.dvd_of_mul_dvd_mul_left (by decide) h2
    have hco : Nat.Coprime (2 ^ (m + 2)) (2 * t + 1) := by
      apply Nat.Coprime.pow_left
      show Nat.gcd 2 (2 * t + 1) = 1
      rw [Nat.gcd_rec]
      rw [show (2 * t + 1) % 2 = 1 by omega]
      rfl
    have h4 : 2 ^ (m + 2) ∣ 5 ^ e - 1 := Nat.Coprime.dvd_of_dvd_mul_right hco h3
    have h5' := order5 m e h4
    rw [Nat.pow_succ, Nat.mul_comm]
    exact Nat.mul_dvd_mul_left 2 h5'

/-- the walk x -> 5 x + 1 modulo N from x -/
def orb (N : Nat) (x : Nat) : Nat → Nat
  | 0 => x
  | n + 1 => (5 * orb N x n + 1) % N
theorem orb_lt {N x : Nat} (h : x < N) : ∀ n, orb N x n < N
  | 0 => h
  | n + 1 => Nat.mod_lt _ (by omega)
/-- four times the place and one is a power of five times what it was -/
theorem orb_pow {N x : Nat} (h : x < N) (n : Nat) : (4 * orb N x n + 1) % (4 * N) = (5 ^ n * (4 * x + 1)) % (4 * N) := by
  induction n with
  | zero => simp [orb]
  | succ n ih =>
    have e : (4 * orb N x (n + 1) + 1) % (4 * N) = (5 * (4 * orb N x n + 1)) % (4 * N) := by
      show (4 * ((5 * orb N x n + 1) % N) + 1) % (4 * N) = _
      have h1 : 4 * ((5 * orb N x n + 1) % N) = (4 * (5 * orb N x n + 1)) % (4 * N) := (Nat.mul_mod_mul_left 4 _ N).symm
      rw [h1, Nat.mod_add_mod]
      congr 1
      omega
    rw [e, Nat.mul_mod, ih, ← Nat.mul_mod, Nat.pow_succ, ← Nat.mul_assoc, Nat.mul_comm (5 ^ n) 5]
theorem odd_dvd {m y z : Nat} (hy : y % 2 = 1) (h : 2 ^ m ∣ z * y) : 2 ^ m ∣ z := by
  refine Nat.Coprime.dvd_of_dvd_mul_right ?_ h
  apply Nat.Coprime.pow_left
  show Nat.gcd 2 y = 1
  rw [Nat.gcd_rec, hy]
  rfl
theorem orb_ne {m x i j : Nat} (hx : x < 2 ^ m) (hij : i < j) (hj : j < i + 2 ^ m) : orb (2 ^ m) x i ≠ orb (2 ^ m) x j := by
  intro e
  have hi := orb_pow hx i
  have hj' := orb_pow hx j
  rw [← e] at hj'
  rw [hi] at hj'
  obtain ⟨d, rfl⟩ : ∃ d, j = i + d := ⟨j - i, by omega⟩
  have hd0 : 0 < d := by omega
  have hle : 5 ^ i * (4 * x + 1) ≤ 5 ^ (i + d) * (4 * x + 1) := Nat.mul_le_mul_right _ (Nat.pow_le_pow_right (by decide) (by omega))
  have hdv : 4 * 2 ^ m ∣ 5 ^ (i + d) * (4 * x + 1) - 5 ^ i * (4 * x + 1) := Nat.dvd_of_mod_eq_zero (Nat.sub_mod_eq_zero_of_mod_eq hj'.symm)
  have e4 : 4 * 2 ^ m = 2 ^ (m + 2) := by rw [Nat.pow_add]; omega
  rw [e4] at hdv
  have e5 : 5 ^ (i + d) * (4 * x + 1) - 5 ^ i * (4 * x + 1) = (5 ^ d - 1) * (5 ^ i * (4 * x + 1)) := by
    rw [Nat.pow_add, Nat.sub_mul, Nat.one_mul]
    congr 1
    rw [Nat.mul_comm (5 ^ i) (5 ^ d), Nat.mul_assoc]
  rw [e5] at hdv
  have hodd : (5 ^ i * (4 * x + 1)) % 2 = 1 := by
    have h5 := five_odd_pow i
    rw [Nat.mul_mod]
    rw [show 5 ^ i % 2 = 1 by omega, show (4 * x + 1) % 2 = 1 by omega]
  have h1 := order5 m d (odd_dvd hodd hdv)
  have := Nat.le_of_dvd hd0 h1
  omega

theorem len_le : ∀ (N : Nat) (l : List Nat), l.Nodup → (∀ x ∈ l, x < N) → l.length ≤ N
  | 0, l, _, h => by
    cases l with
    | nil => exact Nat.le_refl _
    | cons a t => exact absurd (h a List.mem_cons_self) (Nat.not_lt_zero _)
  | N + 1, l, nd, h => by
    by_cases hm : N ∈ l
    · have h1 := len_le N (l.erase N) (nd.erase _) (fun x hx => by
        have hx' := (nd.mem_erase_iff).mp hx
        have := h x hx'.2
        have := hx'.1
        omega)
      rw [List.length_erase_of_mem hm] at h1
      omega
    · have h1 := len_le N l nd (fun x hx => by
        have h2 := h x hx
        have h3 : x ≠ N := fun e => hm (e ▸ hx)
        omega)
      omega
theorem all_mem : ∀ (N : Nat) (l : List Nat), l.Nodup → (∀ x ∈ l, x < N) → l.length = N → ∀ x, x < N → x ∈ l := by
  intro N l nd h hl x hx
  refine Classical.byContradiction fun hm => ?_
  have h1 := len_le N (x :: l) (List.nodup_cons.mpr ⟨hm, nd⟩) (fun y hy => by
    rcases List.mem_cons.mp hy with rfl | hy
    · exact hx
    · exact h y hy)
  rw [List.length_cons] at h1
  omega
/-- from the sixth step on a path goes round the whole cycle -/
theorem slotAt_lt {size : Nat} (h : 0 < size) (code i : Nat) : slotAt size code i < size := by
  cases i <;> exact Nat.mod_lt _ h
theorem slotAt_orb {size code : Nat} (hc : code < 4294967296) (i : Nat) : slotAt size code (6 + i) = orb size (slotAt size code 6) i := by
  induction i with
  | zero => rfl
  | succ i ih =>
    show (5 * slotAt size code (6 + i) + code / 32 ^ (6 + i + 1) + 1) % size = (5 * orb size (slotAt size code 6) i + 1) % size
    rw [ih, push_zero hc (by omega), Nat.add_zero]
def tailOf (code size : Nat) : List Nat := (first code size (size + 6)).drop 6
theorem tailOf_eq (code size : Nat) : tailOf code size = (List.range size).map fun i => slotAt size code (6 + i) := by
  unfold tailOf
  rw [first_eq, ← List.map_drop, List.range_eq_range', List.drop_range', List.range_eq_range', List.range'_eq_map_range]
  rw [List.map_map]
  rw [show size + 6 - 6 = size by omega, List.range_eq_range']
  apply List.map_congr_left
  intro a _
  simp
theorem tail_nodup {m code : Nat} (hc : code < 4294967296) : (tailOf code (2 ^ m)).Nodup := by
  rw [tailOf_eq]
  have hp : 0 < 2 ^ m := Nat.pow_pos (by decide)
  rw [List.Nodup, List.pairwise_map]
  refine List.Pairwise.imp_of_mem ?_ (List.pairwise_lt_range (n := 2 ^ m))
  intro i j hi hj hij
  rw [List.mem_range] at hi hj
  rw [slotAt_orb hc, slotAt_orb hc]
  exact orb_ne (slotAt_lt hp _ _) hij (by omega)
theorem tail_lt {size : Nat} (h : 0 < size) (code : Nat) : ∀ x ∈ tailOf code size, x < size := by
  intro x hx
  rw [tailOf_eq] at hx
  obtain ⟨i, _, rfl⟩ := List.mem_map.mp hx
  exact slotAt_lt h _ _
theorem tail_len (code size : Nat) : (tailOf code size).length = size := by rw [tailOf_eq, List.length_map, List.length_range]
theorem tail_perm {m code : Nat} (hc : code < 4294967296) : (tailOf code (2 ^ m)).Perm (List.range (2 ^ m)) := by
  have hp : 0 < 2 ^ m := Nat.pow_pos (by decide)
  refine (List.perm_ext_iff_of_nodup (tail_nodup hc) List.nodup_range).mpr fun x => ⟨fun hx => ?_, fun hx => ?_⟩
  · exact List.mem_range.mpr (tail_lt hp code x hx)
  · exact all_mem _ _ (tail_nodup hc) (tail_lt hp code) (tail_len _ _) x (List.mem_range.mp hx)
theorem first_mem {m code : Nat} (hc : code < 4294967296) (x : Nat) : x ∈ first code (2 ^ m) (2 ^ m + 6) ↔ x < 2 ^ m := by
  have hp : 0 < 2 ^ m := Nat.pow_pos (by decide)
  constructor
  · intro hx
    exact pathN_lt hp _ _ _ (Nat.mod_lt _ hp) x hx
  · intro hx
    have : x ∈ tailOf code (2 ^ m) := (tail_perm hc).symm.subset (List.mem_range.mpr hx)
    exact List.mem_of_mem_drop this

/-! what two codes share -/
theorem slots_same {size a b : Nat} : ∀ (i : Nat), (∀ j, j ≤ i → a / 32 ^ j % size = b / 32 ^ j % size) → slotAt size a i = slotAt size b i
  | 0, h => by
    have := h 0 (Nat.le_refl _)
    simpa [slotAt] using this
  | i + 1, h => by
    have ih := slots_same i (fun j hj => h j (by omega))
    have h1 := h (i + 1) (Nat.le_refl _)
    show (5 * slotAt size a i + a / 32 ^ (i + 1) + 1) % size = (5 * slotAt size b i + b / 32 ^ (i + 1) + 1) % size
    rw [ih, Nat.add_assoc, Nat.add_assoc, Nat.add_mod, Nat.add_mod _ (b / 32 ^ (i + 1) + 1), Nat.add_mod (a / 32 ^ (i + 1)), Nat.add_mod (b / 32 ^ (i + 1)), h1]
theorem step_same {size a b i : Nat} (hs : 0 < size) (h : slotAt size a i = slotAt size b i) : slotAt size a (i + 1) = slotAt size b (i + 1) ↔ a / 32 ^ (i + 1) % size = b / 32 ^ (i + 1) % size := by
  show (5 * slotAt size a i + a / 32 ^ (i + 1) + 1) % size = (5 * slotAt size b i + b / 32 ^ (i + 1) + 1) % size ↔ _
  rw [h]
  have e : ∀ c : Nat, 5 * slotAt size b i + c + 1 = (5 * slotAt size b i + 1) + c := fun c => by omega
  rw [e, e]
  constructor
  · intro q
    have : ∀ x y d : Nat, (d + x) % size = (d + y) % size → x % size = y % size := by
      intro x y d q
      have h1 : ((d + x : Nat) : Int) % size = ((d + y : Nat) : Int) % size := by exact_mod_cast q
      have h2 : ((x : Nat) : Int) % size = ((y : Nat) : Int) % size := by
        have h3 : (size : Int) ∣ ((d + x : Nat) : Int) - ((d + y : Nat) : Int) := Int.dvd_of_emod_eq_zero (Int.emod_eq_emod_iff_emod_sub_eq_zero.mp h1)
        apply Int.emod_eq_emod_iff_emod_sub_eq_zero.mpr
        apply Int.emod_eq_zero_of_dvd
        have e3 : ((d + x : Nat) : Int) - ((d + y : Nat) : Int) = (x : Int) - y := by omega
        rw [← e3]; exact h3
      exact_mod_cast h2
    exact this _ _ _ q
  · intro q
    rw [Nat.add_mod, q, ← Nat.add_mod]
/-- codes that are equal modulo size * 32 ^ k share k + 1 slots -/
theorem share {size a b k : Nat} (h : a % (size * 32 ^ k) = b % (size * 32 ^ k)) : ∀ i, i ≤ k → slotAt size a i = slotAt size b i := by
  intro i hi
  refine slots_same i fun j hj => ?_
  have e : size * 32 ^ k = 32 ^ j * (size * 32 ^ (k - j)) := by
    have : 32 ^ k = 32 ^ j * 32 ^ (k - j) := by rw [← Nat.pow_add]; congr 1; omega
    rw [this, ← Nat.mul_assoc, Nat.mul_comm size, Nat.mul_assoc]
  have h1 : a % (32 ^ j * (size * 32 ^ (k - j))) / 32 ^ j = b % (32 ^ j * (size * 32 ^ (k - j))) / 32 ^ j := by rw [← e, h]
  rw [Nat.mod_mul_right_div_self, Nat.mod_mul_right_div_self] at h1
  have h2 : a / 32 ^ j % (size * 32 ^ (k - j)) % size = b / 32 ^ j % (size * 32 ^ (k - j)) % size := by rw [h1]
  rw [Nat.mod_mul_right_mod, Nat.mod_mul_right_mod] at h2
  exact h2
theorem first_take {a size n k : Nat} (h : k ≤ n) : (first a size n).take k = (List.range k).map (slotAt size a) := by
  rw [first_eq, ← List.map_take, List.take_range]
  rw [Nat.min_eq_left h]
/-- two starts of paths are equal: slot by slot -/
theorem take_same {a b size n k : Nat} (h : k ≤ n) : (first a size n).take k = (first b size n).take k ↔ ∀ i, i < k → slotAt size a i = slotAt size b i := by
  rw [first_take h, first_take h]
  constructor
  · intro q i hi
    have := List.map_inj_left.mp q i (List.mem_range.mpr hi)
    exact this
  · intro q
    exact List.map_congr_left fun i hi => q i (List.mem_range.mp hi)
/-- the law's question at a turn -/
theorem turn_same {a b size n k : Nat} (hs : 0 < size) (h : k + 1 ≤ n) (q : (first a size n).take k = (first b size n).take k) :
    ((first a size n).take (k + 1) = (first b size n).take (k + 1)) ↔ a / 32 ^ k % size = b / 32 ^ k % size := by
  rw [take_same (by omega)] at q ⊢
  cases k with
  | zero =>
    constructor
    · intro z
      have := z 0 (by omega)
      simpa [slotAt] using this
    · intro z i hi
      obtain rfl : i = 0 := by omega
      simpa [slotAt] using z
  | succ k =>
    have hk := q k (by omega)
    constructor
    · intro z
      exact (step_same hs hk).mp (z (k + 1) (by omega))
    · intro z i hi
      by_cases e : i < k + 1
      · exact q i e
      · obtain rfl : i = k + 1 := by omega
        exact (step_same hs hk).mpr z
end K12
set_option Elab.async false
set_option linter.all false
set_option maxRecDepth 100000
set_option maxHeartbeats 1000000
/-! Xo: own exception classes whose __init__ stores one field, over any built-in base: made as a value, raised, kept, asked for their class, their field read -/
namespace Xo
open PySem PySem.Spec PyProof.Rows L2 Builtin Builtin.ObjectAttr
/-- what the written part says of the class at C -/
structure XC (K : PySem.W.Frag) (C : Addr) : Prop where
  base : ∃ (B newId initId : String) (bmB : List Value), ExcBaseFacts B newId initId bmB ∧ StoreFacts B bmB "object.__setattr__" "object" ∧ PySem.W.excInitIn K C bmB newId = true ∧ PySem.W.excOver K C bmB = true
  hd : PySem.W.hasDictIn K C = true
  sa : PySem.W.findIn K (.ref C) "__setattr__" = some (some (.builtin "object.__setattr__"))
  ga : PySem.W.findIn K (.ref C) "__getattribute__" = some (some (.builtin "BaseException.__getattribute__"))
  gg : PySem.W.findIn K (.ref C) "__getattr__" = some none
  exC : PySem.W.subIn K (.ref C) (.type "BaseException") = some true
  tyC : PySem.W.typeIn K (.ref C) = some (.type "type")
  kC : PySem.W.keepIn K (.ref C) = true
section
variable {X : Cx} {pins : List (Addr × Obj)} {σ : L2.St} {H : Hp} {s : Shared} {a C : Addr} {f : Str} {y : V} {u : Value} {E : Value → Shared → Prop} {A : Around}
/-- the first store into a fresh exception -/
theorem store1 {K : PySem.W.Frag} {prog : Program} {w : World} {name : Str} {tk : Tok} {v : Value} {x : Addr} {fv : Array Value} {R : Result → Shared → Prop} (T : XC K C) (X : K.In s.heap)
    (hx : s.heap.get? x = some { cls := .ref C, data := .fields fv }) (hno : PySem.W.findIn K (.ref C) name = some none)
    (hq : ∀ h' tk' dx, (∀ b o, b ≠ x → s.heap.get? b = some o → h'.get? b = some o) → s.heap.objs.size ≤ dx → dx ≠ x → h'.get? x = some { cls := .ref C, dict := some dx, data := .fields fv } →
      h'.Ns1 dx (fun y => if y = name then some v else none) → R (.ok (.ret .none)) { s with heap := h', toks := tk' }) :
    codeAny (model prog w) A (.call (.builtin "object.__setattr__") ⟨[.ref x, .str name tk, v], []⟩) R s := by
  obtain ⟨B, newId, initId, bmB, fb, sf, ii, ov⟩ := T.base
  obtain ⟨cd, hc, hdd⟩ := PySem.W.any_some T.hd
  have I : PySem.W.InstAt s.heap x { cls := .ref C, data := .fields fv } C none := ⟨hx, rfl, rfl, trivial⟩
  refine PySem.W.osa_openX (r := none) sf X I ov (show PySem.W.takerIn K C name = some none from NoAttr.taker hno) fun b => ?_
  have hcls : PySem.W.Looks (model prog w) s.heap (classData C) cd := PySem.W.looks_clsIn X hc
  have hxs : x ≠ s.heap.objs.size := Nat.ne_of_lt (Heap.lt_size hx)
  have hdd' : cd.hasDict = true := hdd
  obtain ⟨nm, bs, mro, ns, qn, hd, sn, sb, ab, col, del⟩ := cd
  dsimp only at hdd'
  subst hdd'
  obtain ⟨hp, g, d, t, os⟩ := s
  dsimp only
  unfold storeInOwnDict ownDictForStores
  repeat (first | with_reducible refine HandSPX.store_in_new ?_ ?_ | with_reducible refine wpAny_loadPart_at hx ?_ | with_reducible refine hcls.at ?_ | wp_step)
  · exact ⟨_, #[], _, (Heap.get?_update_ne _ _ _ _ (Ne.symm hxs)).trans (Heap.get?_push_at rfl rfl), rfl, fun e z => absurd z (by simp), fun _ => rfl⟩
  · intro h1 tk1 n1 sb1
    have hx1 : (hp.push { cls := .type "dict", data := .dict #[] }).get? x = some { cls := .ref C, data := .fields fv } := Heap.get?_push_of_some _ hx
    exact hq h1 tk1 hp.objs.size (fun b o hb z => (sb1.2 b (Nat.ne_of_lt (Heap.lt_size z))).trans ((Heap.get?_update_ne _ _ _ _ hb).trans (Heap.get?_push_of_some _ z))) (Nat.le_refl _) (Ne.symm hxs) ((sb1.2 x hxs).trans (Heap.get?_update_self _ hx1 rfl)) n1
theorem ost1 {Q : Unit → Shared → Prop} (T : XC X.K C) (I : Inv X pins σ H s) (e : H a = some (exo a C none)) (hno : PySem.W.findIn X.K (.ref C) f = some none) (ry : RelV y u)
    (h : ∀ dx s', H dx = none → dx ≠ a → Inv X pins σ (upd (upd H a (exo a C (some dx))) dx (exd dx [(f, y)])) s' → Q () s') : wpAny (model X.prog X.w) A (setAttr (.ref a) f u) Q E s := by
  obtain ⟨t1, ho⟩ := exo_at I.hok e
  obtain ⟨h0, g, d, t, os⟩ := s
  refine PySem.W.set_plain I.kIn (od := none) ⟨ho, rfl, rfl, trivial⟩ T.sa ?_
  refine store1 T I.kIn ho hno fun h1 tk1 dx k dn dne hx hn => ?_
  have hnd : H dx = none := I.hok.fresh dn
  have J := I.write (t' := tk1) (x := a) (e := a) (o := exo a C (some dx)) (by rw [e]; exact True.intro) (.inl rfl) k ⟨_, hx⟩ (exo_ok hx)
  have fp : FpOk X pins (upd H a (exo a C (some dx))) dx := I.fpOk dn (by rw [upd_ne dne]; exact hnd)
  obtain ⟨o, es, ep, hob, hr⟩ := id hn
  exact h dx _ hnd dne (Pth.inv_track J fp ⟨o, hob⟩ (exd_ok hn (relO_put (fs := []) ry fun _ => True.intro)))
end
/-- self.f = v in such an __init__ -/
def tOst1 (f : Str) (to te : TE) (K : PySem.W.Frag) : TS := fun D σ H => te σ H fun y H1 => to σ H1 fun x H2 => ∃ a C : Addr, x = .ref a ∧ XC K C ∧ PySem.W.findIn K (.ref C) f = some none ∧ H2 a = some (exo a C none) ∧
  ∀ dx, H2 dx = none → dx ≠ a → D.nx σ (upd (upd H2 a (exo a C (some dx))) dx (exd dx [(f, y)]))
theorem ps_ost1 {X : Cx} {o e : Expr} {to te : TE} {f : Str} {p' pos : Pos} (ho : PE X o to) (he : PE X e te) (hs : swapsWith e (some (.Attribute o f p')) pos.line X.env = pure false := by rfl) : PS X (.Assign [.Attribute o f p'] e pos) (tOst1 f to te X.K) := by
  refine ⟨fun pins s σ H D I h => ?_⟩
  refine plainObj_wpAny_Assign_Attribute (thn (he.run pins s σ H _ I h) fun v s1 ⟨y, H1, I1, r1, q1⟩ => thn (ho.run pins s1 σ H1 _ I1 q1) fun u s2 ⟨x, H2, I2, r2, a, C, ex, T, hno, ea, q⟩ => ?_) hs
  subst ex
  cases (show u = Value.ref a from r2)
  exact ost1 T I2 ea hno r1 fun dx s3 n ne J => ⟨σ, _, J, q dx n ne⟩
/-- the promise of such an __init__ -/
def spXI (K : PySem.W.Frag) (f : Str) : Sp := fun vs H Q _ => ∃ (a C : Addr) (v : V), vs = [.ref a, v] ∧ XC K C ∧ PySem.W.findIn K (.ref C) f = some none ∧ H a = some (exo a C none) ∧
  ∀ d, H d = none → d ≠ a → Q .non (upd (upd H a (exo a C (some d))) d (exd d [(f, v)]))
theorem ok_xinit {P : Program} {w : World} {K : PySem.W.Frag} {mg : Str → Option Value} {base : Heap} {qual fld : Str} {st : Stmt} {fa : Addr} {fd : FuncData} {p1 p2 p3 p4 : Pos} (F : Fun K "__init__" qual st fa fd) (S : FnScope ["self", fld] ["self", fld] (defScope st))
    (hb : defBody st = [.Assign [.Attribute (.Name "self" p1) fld p2] (.Name fld p3) p4]) (hd1 : (fld == ("__debug__" : Str)) = false) (hd2 : (fld == ("__classdict__" : Str)) = false) : FnOk P w K mg base CX0 1 fa fd ["self", fld] (spXI K fld) := by
  refine F.ok S (fun vs H Q E h => ?_) (fun cdv A outer s H vs Q E hr h => ?_)
  · obtain ⟨a, C, v, rfl, _⟩ := h
    rfl
  · obtain ⟨a, C, v, rfl, T, hno, ea, k⟩ := h
    rw [hb]
    refine ⟨_, pss_one (ps_ost1 (pe_var (i := 0) rfl ((S.par "self" (by simp)).elim (fun z => .inl z) (fun z => .inr (.inl z)))) (pe_var (i := 1) rfl ((S.par fld (by simp)).elim (fun z => .inl z) (fun z => .inr (.inl z))) hd1 hd2)), ?_⟩
    exact ⟨v, rfl, .ref a, rfl, a, C, rfl, T, hno, ea, fun d hd hne => k d hd hne⟩
/-- the class's own def __init__, promised -/
structure XI (X : Cx) (C : Addr) (fld : Str) : Prop where
  T : XC X.K C
  no : PySem.W.findIn X.K (.ref C) fld = some none
  ini : ∃ (fI : Addr) (fd : FuncData), PySem.W.findIn X.K (.ref C) "__init__" = some (some (.ref fI)) ∧ PySem.W.typeIn X.K (.ref fI) = some (.type "function") ∧ Binds X.K fd ["self", fld] [] ∧ FnOk X.prog X.w X.K X.mg X.base CX0 1 fI fd ["self", fld] (spXI X.K fld)
section
variable {X : Cx} {pins : List (Addr × Obj)} {σ : L2.St} {H : Hp} {s : Shared} {C : Addr} {fld x : Str} {v : V} {u : Value} {e : Expr} {te : TE} {p pos : Pos}
theorem upd2 {H : Hp} {a : Addr} {o o' : HO} : upd (upd H a o) a o' = upd H a o' := by
  funext b
  unfold upd
  split <;> rfl
/-- the two objects behind the call's start -/
abbrev xHeap (h : Heap) (us : List Value) (C : Addr) : Heap := (h.push (PySem.W.kdv_tup us)).push (HandSPX.excO C h.objs.size)
theorem inv_start_x (I : Inv X pins σ H s) (us : List Value) : H (s.heap.objs.size + 1) = none ∧ (∀ b o, s.heap.get? b = some o → (xHeap s.heap us C).get? b = some o) ∧
    Inv X pins σ (upd H (s.heap.objs.size + 1) (exo (s.heap.objs.size + 1) C none)) { s with heap := xHeap s.heap us C } := by
  have hsz : s.heap.objs.size ≤ s.heap.objs.size + 1 := Nat.le_succ _
  have kk : ∀ b o, s.heap.get? b = some o → (xHeap s.heap us C).get? b = some o := fun b o q => Heap.get?_push_of_some _ (Heap.get?_push_of_some _ q)
  have hg : (xHeap s.heap us C).get? (s.heap.objs.size + 1) = some (HandSPX.excO C s.heap.objs.size) := by heap_get
  exact ⟨I.hok.fresh hsz, kk, I.laid (t' := s.toks) (o := exo (s.heap.objs.size + 1) C none) kk hsz (exo_ok hg)⟩
/-- C(v), the call -/
theorem run_x {R : Result → Shared → Prop} (T : XI X C fld) (hr : Room 2 X.A) (I : Inv X pins σ H s) (rv : RelV v u) {Q1 : VK}
    (hq1 : ∀ d, H d = none → d ≠ s.heap.objs.size + 1 → Q1 .non (upd (upd H (s.heap.objs.size + 1) (exo (s.heap.objs.size + 1) C (some d))) d (exd d [(fld, v)])))
    (hR : ∀ s', CE X.stack X.prog X.w (upd H (s.heap.objs.size + 1) (exo (s.heap.objs.size + 1) C none)) { s with heap := xHeap s.heap [u] C } Q1 .none s' → R (.ok (.ret (.ref (s.heap.objs.size + 1)))) s')
    (hQn : ∀ v' H', Q1 v' H' → v' = .non) : codeAny (model X.prog X.w) X.A (.call (.ref C) ⟨[u], []⟩) R s := by
  obtain ⟨hn, kk, I2⟩ := inv_start_x (C := C) I [u]
  obtain ⟨fI, fd, iC, tI, hb, F1⟩ := T.ini
  obtain ⟨B, newId, initId, bmB, fb, sf, ii, ov⟩ := T.T.base
  obtain ⟨nm, N, qn, bs, bm, hdct, sn, sub, ab, col, dd, k0, k1, k2, k3, k5, hC, hT⟩ := PySem.W.excInit_of I.kIn ii
  have hsp : spXI X.K fld [V.ref (s.heap.objs.size + 1), v] (upd H (s.heap.objs.size + 1) (exo (s.heap.objs.size + 1) C none)) Q1 E0 := by
    refine ⟨_, C, v, rfl, T.T, T.no, upd_same, fun d hd hne => ?_⟩
    rw [upd2]
    exact hq1 d (by rwa [upd_ne hne] at hd) hne
  obtain ⟨h0, g, dr, tk, os⟩ := s
  refine HandSPX.call_own fb hT hC (PySem.W.looks_findIn I.kIn iC) (fun self => PySem.W.bind_fn I.kIn self tI) (show 1 ≤ sizeLine by decide)
    (codeAny_mono (F1.run _ X.stack _ _ ⟨[Value.ref (h0.objs.size + 1), u], []⟩ [Value.ref (h0.objs.size + 1), u] [V.ref (h0.objs.size + 1), v] Q1 E0 (hr.make C [u] []) (I2.env0.make C [u] []) (hb _ [Value.ref (h0.objs.size + 1), u] I2.kIn rfl) (.cons (show L2.RelV (V.ref (h0.objs.size + 1)) (Value.ref (h0.objs.size + 1)) from rfl) (.cons rv .nil)) hsp) fun r s' hq' => ?_)
  cases r with
  | error er => exact (show False from hq').elim
  | ok fl =>
    cases fl with
    | ret u' =>
      have hq2 := hq'
      obtain ⟨v', H', os', bare', un', hok', rv', q'⟩ := hq'
      have ev := hQn _ _ q'
      subst ev
      cases rv'
      exact ⟨rfl, hR s' hq2⟩
    | next => exact False.elim hq'
    | brk => exact False.elim hq'
    | cont => exact False.elim hq'
/-- C(e), as a value: a new exception at a, its dict at d -/
def tXmk (C : Addr) (fld : Str) (ta : TA) : TE := fun σ H Q => ta σ H fun vs H1 => ∃ v, vs = [v] ∧ ∀ a d, H1 a = none → H1 d = none → d ≠ a → Q (.ref a) (upd (upd H1 a (exo a C (some d))) d (exd d [(fld, v)]))
theorem pe_xmk {es : List Expr} {ta : TA} (T : XI X C fld) (hr : Room 2 X.A) (hg : Gl X x) (hm : X.mg x = some (.ref C)) (ha : PA X (e :: es) ta) (hdb : (x == ("__debug__" : Str)) = false := by decide)
    (hst : starEach (e :: es) X.env = (false, eval e X.env) :: starEach es X.env := by rfl) (hpl : (backTo pos (starEach es X.env)).any (·.1) = false := by rfl) : PE X (.Call (.Name x p) (e :: es) [] pos) (tXmk C fld ta) := by
  refine ⟨fun pins s σ H Q I h => ?_⟩
  refine wpAny_Call_Name_kw (ld_glob I hg hm ?_ hdb)
  refine PySem.W.callWith_K (h₀ := X.base) I.ok.mod.kin T.T.kC (thn (ha.run pos pins s σ H _ I h) fun us s1 ⟨vs, H1, I1, r1, v, ev, q1⟩ => ⟨I1.kIn, ?_⟩) hst hpl
  subst ev
  obtain ⟨u, rfl, ru⟩ := r1.one
  obtain ⟨hn, kk, I2⟩ := inv_start_x (C := C) I1 [u]
  refine wpAny_call (run_x (Q1 := fun v' H' => v' = .non ∧ Q (.ref (s1.heap.objs.size + 1)) H') T hr I1 ru (fun d hd hne => ⟨rfl, q1 _ d hn hd hne⟩) (fun s' c => ?_) fun v' H' q => q.1)
  obtain ⟨v', H', I3, _, _, q⟩ := I2.after c
  exact ⟨.ref (s1.heap.objs.size + 1), H', I3, rfl, q⟩
/-- C(e), to be raised -/
def tXraise (C : Addr) (fld : Str) (ta : TA) : L2.St → Hp → XK → Prop := fun σ H Q => ta σ H fun vs H1 => ∃ v, vs = [v] ∧ ∀ d, H1 d = none → Q (.ref C) (some d) (upd H1 d (.xd [(fld, v)]))
theorem pmk_x {es : List Expr} {ta : TA} (T : XI X C fld) (hr : Room 2 X.A) (hg : Gl X x) (hm : X.mg x = some (.ref C)) (ha : PA X (e :: es) ta) (hdb : (x == ("__debug__" : Str)) = false := by decide)
    (hst : starEach (e :: es) X.env = (false, eval e X.env) :: starEach es X.env := by rfl) (hpl : (backTo pos (starEach es X.env)).any (·.1) = false := by rfl) : PMk X (.Call (.Name x p) (e :: es) [] pos) (tXraise C fld ta) := by
  intro pins s σ H Q I h
  refine wpAny_Call_Name_kw (ld_glob I hg hm ?_ hdb)
  refine PySem.W.callWith_K (h₀ := X.base) I.ok.mod.kin T.T.kC (thn (ha.run pos pins s σ H _ I h) fun us s1 ⟨vs, H1, I1, r1, v, ev, q1⟩ => ⟨I1.kIn, ?_⟩) hst hpl
  subst ev
  obtain ⟨u, rfl, ru⟩ := r1.one
  obtain ⟨hn, kk, I2⟩ := inv_start_x (C := C) I1 [u]
  refine wpAny_call (run_x (Q1 := fun v' H' => v' = .non ∧ ∃ d, H1 d = none ∧ d ≠ s1.heap.objs.size + 1 ∧ H' = upd (upd H1 (s1.heap.objs.size + 1) (exo (s1.heap.objs.size + 1) C (some d))) d (exd d [(fld, v)])) T hr I1 ru
    (fun d hd hne => ⟨rfl, d, hd, hne, rfl⟩) (fun s' c => ?_) fun v' H' q => q.1)
  obtain ⟨v', H', os', bare', un', hok', rv', ev, d, hd, hne, eH⟩ := c
  subst eH
  obtain ⟨h0, g, dr, tk, os⟩ := s1
  obtain ⟨h2, g2, d2, t2, os2⟩ := s'
  have eD : upd (del (upd (upd H1 (h0.objs.size + 1) (exo (h0.objs.size + 1) C (some d))) d (exd d [(fld, v)])) (h0.objs.size + 1)) d (.xd [(fld, v)]) = upd H1 d (.xd [(fld, v)]) := by
    funext b
    by_cases hb : b = d
    · rw [hb, upd_same, upd_same]
    · rw [upd_ne hb, upd_ne hb]
      by_cases hb2 : b = h0.objs.size + 1
      · rw [hb2, del_same]
        exact hn.symm
      · rw [del_ne hb2, upd_ne hb, upd_ne hb2]
  exact mk_end (raises_own T.T.exC T.T.tyC) I1 (Nat.le_succ _) kk un' hok' os' bare' (by rw [upd_ne (Ne.symm hne), upd_same]) upd_same hd (by rw [eD]; exact q1 d hd)
end
end Xo
set_option Elab.async false
set_option linter.all false
set_option maxRecDepth 100000
set_option maxHeartbeats 1000000
/-! Xt: try: .. except (A, B, C) as n: e = n, the exception kept -/
namespace Xo
open PySem PySem.Spec PyProof.Rows L2
/-- an exception that is kept: its class, its dict -/
def xob (a : Addr) (cls : Value) (d : Option Addr) : HO := .ext fun h => ∃ o vs, h.get? a = some o ∧ Zc cls d o ∧ o.data = .fields vs
theorem xob_ok {P : Program} {w : World} {H : Hp} {h : Heap} {a : Addr} {cls : Value} {d : Option Addr} {o : Obj} {vs : Array Value} (e : h.get? a = some o) (z : Zc cls d o) (f : o.data = .fields vs) : ObjOk P w H h a (xob a cls d) :=
  ⟨⟨o, vs, e, z, f⟩, ⟨o, e⟩, fun h1 h2 ⟨o', vs', e', z', f'⟩ k => ⟨o', vs', k _ e', z', f'⟩⟩
section
variable {X : Cx} {pins : List (Addr × Obj)} {σ : L2.St} {H : Hp} {s : Shared}
/-- tracked from now on, what the entry's heap had not -/
theorem inv_trackN {a : Addr} {o : HO} (I : Inv X pins σ H s) (h0 : X.s_0.heap.get? a = none) (hn : H a = none) (nL : a ≠ X.env.locals) (nC : ∀ y c, X.env.cells.lookup y = some c → c ≠ a) (nP : ∀ p ∈ X.pn ++ pins, p.1 ≠ a)
    (new : ObjOk X.prog X.w (upd H a o) s.heap a o) : Inv X pins σ (upd H a o) s := by
  have nt : ∀ {b u}, H b = some u → b ≠ a := fun {b u} e => ne_of_none e hn
  have n0 : ∀ {b u}, X.s_0.heap.get? b = some u → b ≠ a := fun {b u} e z => by
    rw [z, h0] at e
    cases e
  refine ⟨I.ok, I.os, I.bare, ⟨I.base.keep, I.base.slot, fun b u e n x => ?_, I.base.there, fun b xs e => ?_, fun b u v e => ?_, fun b ps e => ?_⟩, I.loc, I.cell, ?_, fun y c e => ?_, fun p hp => ?_, fun b u e => ?_, I.len⟩
  · rw [upd_ne (n0 e)]
    exact I.base.free b u e n x
  · have q := I.base.tups b xs e
    rw [upd_ne (nt q)]
    exact q
  · have q := I.base.frzs b u v e
    rw [upd_ne (nt q)]
    exact q
  · obtain ⟨more, q⟩ := I.base.tbls b ps e
    exact ⟨more, by rw [upd_ne (nt q)]; exact q⟩
  · rw [upd_ne (Ne.symm nL)]
    exact I.free
  · rw [upd_ne (nC y c e)]
    exact I.freeC y c e
  · obtain ⟨q1, q2, q3⟩ := I.pin p hp
    exact ⟨q1, by rw [upd_ne (nP p hp)]; exact q2, q3⟩
  · by_cases hb : b = a
    · rw [hb, upd_same] at e
      cases e
      rw [hb]
      exact new
    · rw [upd_ne hb] at e
      exact (I.hok b u e).stay (fun _ _ _ q => q) (fun c q => by rw [upd_ne (nt q)]; exact q) fun c xs q => by rw [upd_ne (nt q)]; exact q
theorem fl_keeps {B h h2 : Heap} {l : List Env} {a : Addr} {Z : Obj → Prop} (f : HandSPX.FlyingZ B l a Z h) (k : ∀ b o, h.get? b = some o → h2.get? b = some o) : HandSPX.FlyingZ B l a Z h2 := by
  obtain ⟨k1, k2, k3, oe, vs, T, oT, ts, e1, e2, e3, e4, e5, e6, e7, e8, e9⟩ := f
  exact ⟨fun b o q => k b o (k1 b o q), k2, Heap.FunFrames.of_keeps (fun b o e _ => ⟨o, k b o e, rfl⟩) k3, oe, vs, T, oT, ts, k _ _ e1, e2, e3, e4, e5, e6, k _ _ e7, e8, e9⟩
end
/-- what the clause wishes of an exception of the body -/
def wKeep (K : PySem.W.Frag) (cs : List Value) (i j : Nat) (D : Ends) : WX := fun cls d σ H => PySem.W.exmAny K cls cs = some true ∧ ∀ a, H a = none → D.nx (((σ.set i (some (.ref a))).set j (some (.ref a))).set i none) (upd H a (xob a cls d))
section
variable {X : Cx} {n y x1 x2 x3 : Str} {C1 C2 C3 : Addr} {i j k : Nat} {body : List Stmt} {q1 q2 q3 qt py pn pa pos pos' : Pos} {tb : WX → TS}
theorem ps_try_keep (hs : X.stack = X.env :: X.outer) (hf : X.env.frame = some X.env.locals) (hex : X.ex = []) (hN : X.N.Nodup) (hi : X.N[i]? = some n) (hln : X.env.kindOf n = some .local) (hj : X.N[j]? = some y) (hlj : X.env.kindOf y = some .local)
    (g1 : Gl X x1 ∧ X.mg x1 = some (.ref C1) ∧ (x1 == ("__debug__" : Str)) = false) (g2 : Gl X x2 ∧ X.mg x2 = some (.ref C2) ∧ (x2 == ("__debug__" : Str)) = false) (g3 : Gl X x3 ∧ X.mg x3 = some (.ref C3) ∧ (x3 == ("__debug__" : Str)) = false)
    (hdn : (n == ("__debug__" : Str)) = false) (hdc : (n == ("__classdict__" : Str)) = false)
    (hb : ∀ (W : WX) (pn : List (Addr × Obj)) (xe : Value → Shared → Prop), Takes (X.tr pn xe) W → PassesOwn (model X.prog X.w) X.A X.env xe → PSs (X.tr pn xe) body (tb W)) :
    PS X (.Try body [.ExceptHandler (some (.Tuple [.Name x1 q1, .Name x2 q2, .Name x3 q3] k qt)) (some n) [.Assign [.Name y py] (.Name n pn) pa] pos'] [] [] pos)
      (fun D σ H => tb (wKeep X.K [.ref C1, .ref C2, .ref C3] i j D) D σ H) := by
  refine ⟨fun pins s σ H D I h => ?_⟩
  have okX := I.ok
  have frX : X.A.frames = some (X.env :: X.outer) := by rw [okX.frames, hs]
  have locN : Loc X.env.scope n := .inl hln
  refine wpAny_Try_except ?_
  refine wpAny_mono ((hb (wKeep X.K [.ref C1, .ref C2, .ref C3] i j D) (X.pn ++ pins) (fun e t1 => wpAny (model X.prog X.w) X.A (noteFrame e X.env) (fun _ t2 => wpAny (model X.prog X.w) X.A (setFlight e none)
    (fun _ t3 => wpAny (model X.prog X.w) X.A (handleBy e X.env [.ExceptHandler (some (.Tuple [.Name x1 q1, .Name x2 q2, .Name x3 q3] k qt)) (some n) [.Assign [.Name y py] (.Name n pn) pa] pos']) (SP X pins D) X.xe t3) X.xe t2) X.xe t1)
    (fun u t xx => ?_) PassesOwn.looking).run [] s σ H D (I.toTry _) h) (fun fl t hsp => ?_) (fun e t he => he)
  · obtain ⟨a, B, t0, pins', σ', H', cls, d, rfl, J', nb, up, sky, na, hos, hag, hany, hnx⟩ := xx
    have J : Inv X pins σ' H' t0 := J'.ofTry okX
    have sky2 : Sky B (X.env :: X.outer) a (Zc cls d) X.env.locals t.heap := by rw [← hs]; exact sky
    show wpAny (model X.prog X.w) X.A (noteFrame (.ref a) X.env) _ _ _
    refine Sky.land Zc.steady frX hf sky2 fun h3 fl3 up3 => ?_
    have J3 : Inv X pins σ' H' { t with heap := h3 } := J.landed nb fl3.1 (up.trans up3) hos hag
    obtain ⟨o3, vs3, he3, hz3, hd3⟩ := fl3.there
    have nfr : a ∉ frs (X.env :: X.outer) := fun hm => by
      obtain ⟨_, o', e', hnf⟩ := fl3.2.2.1.mem hm
      rw [he3] at e'
      cases e'
      exact hnf _ hd3
    have nL : a ≠ X.env.locals := fun z => nfr (List.mem_filterMap.mpr ⟨X.env, List.mem_cons_self, by rw [hf, z]⟩)
    have nF : a ∉ X.fs := fun hm => by
      obtain ⟨e, he, q⟩ := List.mem_filterMap.mp hm
      exact nfr (List.mem_filterMap.mpr ⟨e, List.mem_cons_of_mem _ he, q⟩)
    have S3 := J3.suite he3 hd3 na nL nF
    -- the tuple of the classes
    refine wpAny_handleBy_cons (codeAny_handlers_test ?_) (by intro q; cases q)
    refine wpAny_Tuple (wpAny_items_cons (ld_glob (X := X.suite a ((a, o3) :: (X.pn ++ pins))) S3 g1.1 g1.2.1 (wpAny_items_cons (ld_glob (X := X.suite a ((a, o3) :: (X.pn ++ pins))) S3 g2.1 g2.2.1
      (wpAny_items_cons (ld_glob (X := X.suite a ((a, o3) :: (X.pn ++ pins))) S3 g3.1 g3.2.1 (wpAny_items_nil ⟨(show 3 ≤ sizeLine by decide), ?_⟩) g3.2.2)) g2.2.2)) g1.2.2))
    have kp : ∀ b o, h3.get? b = some o → (h3.push { cls := .type "tuple", data := .seq [Value.ref C1, .ref C2, .ref C3].toArray }).get? b = some o := fun _ _ z => Heap.get?_push_of_some _ z
    have htp : (h3.push { cls := .type "tuple", data := .seq [Value.ref C1, .ref C2, .ref C3].toArray }).get? h3.objs.size = some { cls := .type "tuple", data := .seq [Value.ref C1, .ref C2, .ref C3].toArray } := Heap.get?_push_size h3 rfl
    show wpAny _ _ (excMatches (.ref a) (.ref h3.objs.size)) _ _ { t with heap := h3.push { cls := .type "tuple", data := .seq [Value.ref C1, .ref C2, .ref C3].toArray } }
    generalize h3.push { cls := .type "tuple", data := .seq [Value.ref C1, .ref C2, .ref C3].toArray } = h4 at kp htp
    have fl4 := fl_keeps fl3 kp
    have he4 := kp _ _ he3
    have LT : PySem.W.Looks (model X.prog X.w) h4 (typeOf (.ref a)) cls := fun A Q E s k q => wpAny_typeOf_ref (k _ _ he4) (by rw [hz3.1]; exact q)
    refine (PySem.W.exm_tup3 (M := model X.prog X.w) (J3.kIn.keeps kp) LT htp hany).here ?_
    refine codeAny_handlers_suite_as ?_
    refine HandSPX.lands_againZ fl4 fun h5 fl5 up5 => ?_
    have J5 : Inv X pins σ' H' { t with heap := h5 } := J.landed nb fl5.1 (((up.trans up3).trans (Heap.UpToSlots.of_keeps kp)).trans up5) hos hag
    obtain ⟨o5, vs5, he5, hz5, hd5⟩ := fl5.there
    have S5 := J5.suite he5 hd5 na nL nF
    refine store_ok (X := X.suite a ((a, o5) :: (X.pn ++ pins))) (v := .ref a) S5 hN hi locN rfl (fun t6 S6 => ?_) (.inr hln)
    have suite : PSs (X.suite a ((a, o5) :: (X.pn ++ pins))) [.Assign [.Name y py] (.Name n pn) pa] (tAsg (tVar i) (gName j)) := pss_one (ps_set (i := j) hN hj (.inl hlj) (pe_var (i := i) hi (.inl hln) hdn hdc) (by rfl) (.inr hlj))
    have hil : i < σ'.length := by
      rw [J.len]
      exact (List.getElem?_eq_some_iff.mp hi).1
    refine wpAny_mono (suite.run [] t6 _ H' { nx := fun σ6 H6 => σ6 = (σ'.set i (some (.ref a))).set j (some (.ref a)) ∧ H6 = H', rt := fun _ _ => False } S6 ⟨.ref a, by rw [List.getElem?_set_self hil], rfl, rfl⟩) (fun fl t7 hsp => ?_) (fun _ _ z => False.elim z)
    cases fl with
    | next =>
      obtain ⟨σ7, H7, S7, rfl, rfl⟩ := hsp
      have J7 := S7.unsuite okX
      obtain ⟨he7, _⟩ := S7.pin (a, o5) (List.mem_append_left _ List.mem_cons_self)
      have n0 : ∀ b o, t0.heap.get? b = some o → b ≠ a := fun b o e z => by
        rw [z] at e
        have q := nb a o e (by rw [hs]; exact nfr)
        rw [fl3.2.1] at q
        cases q
      have hs0 : X.s_0.heap.get? a = none := by
        cases q : X.s_0.heap.get? a with
        | none => rfl
        | some o =>
          obtain ⟨o', q'⟩ := J.base.there a o q (by rw [hex]; simp)
          exact absurd rfl (n0 a o' q')
      have J8 := inv_trackN (o := xob a cls d) J7 hs0 na nL (fun y c e z => by
        obtain ⟨v, oc, q1, q2⟩ := J7.cell y c e
        rw [z, he7] at q1
        cases q1
        rw [hd5] at q2
        cases q2) (fun p hp => n0 _ _ (J.pin p hp).1) (xob_ok he7 hz5 hd5)
      exact gone_ok J8 hN hi hln fun t9 J9 => ⟨_, _, J9, hnx a na⟩
    | brk =>
      obtain ⟨_, _, _, q⟩ := hsp
      exact False.elim q
    | cont =>
      obtain ⟨_, _, _, q⟩ := hsp
      exact False.elim q
    | ret u =>
      obtain ⟨_, _, _, _, _, q⟩ := hsp
      exact False.elim q
  · cases fl with
    | next =>
      obtain ⟨σ', H', J', q⟩ := hsp
      exact wpAny_execs_nil ⟨σ', H', J'.ofTry okX, q⟩
    | brk =>
      obtain ⟨σ', H', J', q⟩ := hsp
      exact ⟨σ', H', J'.ofTry okX, q⟩
    | cont =>
      obtain ⟨σ', H', J', q⟩ := hsp
      exact ⟨σ', H', J'.ofTry okX, q⟩
    | ret u =>
      obtain ⟨v, σ', H', J', r, q⟩ := hsp
      exact ⟨v, σ', H', J'.ofTry okX, r, q⟩
end
end Xo
set_option Elab.async false
set_option linter.all false
set_option maxRecDepth 100000
set_option maxHeartbeats 1000000
/-! Xi: a kept exception asked for its class; its field read -/
namespace PySem.W
open PySem PySem.Spec PySem.Calls PyProof.Rows
section
variable {prog : Program} {w : World} {A : Around} {E : Value → Shared → Prop} {s : Shared} {K : Frag} {x D : Addr} {ox od : Obj}
/-- its __class__ -/
theorem xi_class {Q : Option Value → Shared → Prop} (T : L2.ExcC K D) (X : K.In s.heap) (I : InstAt s.heap x ox D (some od)) (h : Q (some (.ref D)) { s with toks := s.toks + 1 }) : wpAny (model prog w) A (getAttr? (.ref x) "__class__") Q E s := by
  have fo : findObj K D (some od) "__class__" = some (.bind (.builtin "getset_descriptor.__get__") (.builtin "object.__class__")) := findObj_data (by obtain ⟨cd, hc, _⟩ := any_some T.hd; rw [hc]; rfl) T.ha T.hn T.ht
  obtain ⟨h0, g, d, t, os⟩ := s
  have K0 := I.type (M := model prog w)
  have K1 := looks_findIn (M := model prog w) X T.hg
  have K2 := looks_findIn (M := model prog w) X T.hk
  have K3 := looks_find (M := model prog w) X I fo
  have isB : Looks (model prog w) h0 (isInstance (.ref x) (.type "BaseException")) true := K0.andThen (looks_subIn X T.hs)
  have c0 : (false && onTheHeap (Value.builtin "BaseException.__getattribute__")) = false := rfl
  have c1 : (onTheHeap (Value.ref D) && Value.builtin "BaseException.__getattribute__" == Value.builtin "object.__getattribute__") = false := by
    rw [show (Value.builtin "BaseException.__getattribute__" == Value.builtin "object.__getattribute__") = false by decide +kernel]
    rfl
  unfold getAttr? getAttrBy? getAttrBy
  refine wpAny_bind (wpAny_mkText (wpAny_bind (wpAny_attempt (wpAny_holding (wpAny_bind (K0.at (wpAny_bind (K1.at ?_))))))))
  show wpAny _ _ (if (onTheHeap (Value.ref D) && Value.builtin "BaseException.__getattribute__" == Value.builtin "object.__getattribute__") = true then _ else _) _ _ ⟨h0, g, d, t + 1, os⟩
  rw [c1, if_neg Bool.false_ne_true]
  unfold getAttrByItsOwn hookBefore
  refine wpAny_bind ?_
  rw [if_pos (show onTheHeap (Value.ref D) = true from rfl)]
  refine K2.at (wpAny_bind (wpAny_attempt (wpAny_holding ?_)))
  unfold callGetattribute
  rw [c0, if_neg Bool.false_ne_true]
  unfold boundAndCalled
  rw [F.excAttr_ValueError.ga.bind (.ref x)]
  refine wpAny_bind (wpAny_pure ?_)
  refine wpAny_call (codeAny_call_builtin F.excAttr_ValueError.ga.plain F.entry_bexc_ga ?_)
  refine @check_slot (model prog w) _ _ ⟨h0, g, d, t + 1, os⟩ "BaseException.__getattribute__" "BaseException" "__getattribute__" (.ref x) [.str "__class__" t] [] _ (by decide +kernel) (by decide +kernel) isB (F.args_bexc_ga (.ref x) (.str "__class__" t)) ?_
  unfold Builtin.«object.__getattribute__»
  refine wpAny_bind (wpAny_of_eq (a := ((Value.ref x : Value), [Value.str "__class__" t])) (by first | rfl | (simp only [slotArgs]; rfl)) ?_)
  refine wpAny_bind (wpAny_pure (wpAny_bind (K0.at (wpAny_bind (K3.at ?_)))))
  refine wpAny_bind (wpAny_holding (wpAny_call (class_get (s := ⟨h0, g, d, t + 1, os⟩) X I T.hm ?_)))
  refine wpAny_pure ?_
  show wpAny _ _ (handedOut (.ref D)) _ _ ⟨h0, g, d, t + 1, os⟩
  rw [handedOut_of (v := .ref D) rfl]
  first
    | exact wpAny_pure (wpAny_pure h)
    | exact wpAny_pure h
    | exact wpAny_pure (wpAny_bind (wpAny_pure (wpAny_pure h)))
theorem xi_kit (T : L2.ExcC K D) : KitX K (.ref x) (.ref D) (fun h => InstAt h x ox D (some od)) where
  ty := fun _ _ _ I => I.type
  it := fun _ _ X _ => by
    obtain ⟨cd, hc, _⟩ := any_some T.hd
    unfold clsIn at hc
    split at hc
    · rename_i ho
      intro A' Q' E' s' k q
      unfold isType loadHead
      exact wpAny_bind (wpAny_loadPart (k _ _ (X _ _ ho)) (wpAny_pure q))
    · cases hc
  ne := fun h tp dd its n sl X htp => Bool.eq_false_iff.mpr fun q => by
    obtain ⟨cd, hc, _⟩ := any_some T.hd
    have e : D = tp := Value.ref.inj (beq_iff_eq.mp q)
    subst e
    unfold clsIn at hc
    split at hc
    · rename_i ho
      cases (X _ _ ho).symm.trans htp
    · cases hc
  ca := fun X I k => xi_class T X I k
end
end PySem.W
namespace Xo
open PySem PySem.Spec PyProof.Rows L2
/-- an exception of the class at C stands at a, its fields fs at d -/
def XAt (H : Hp) (a C d : Addr) (fs : List (Str × V)) : Prop := (H a = some (exo a C (some d)) ∨ H a = some (xob a (.ref C) (some d))) ∧ (H d = some (exd d fs) ∨ H d = some (.xd fs))
section
variable {X : Cx} {pins : List (Addr × Obj)} {σ : L2.St} {H : Hp} {s : Shared} {a C d : Addr} {fs : List (Str × V)}
theorem xat (I : Inv X pins σ H s) (h : XAt H a C d fs) : ∃ o od mA, PySem.W.InstAt s.heap a o C (some od) ∧ s.heap.get? d = some od ∧ s.heap.Ns1 d mA ∧ ∀ f, RelO (fs.lookup f) (mA f) := by
  have e1 : ∃ o vs, s.heap.get? a = some o ∧ Zc (.ref C) (some d) o ∧ o.data = .fields vs := by
    rcases h.1 with e | e
    · obtain ⟨t1, q⟩ := exo_at I.hok e
      exact ⟨_, _, q, ⟨rfl, rfl⟩, rfl⟩
    · have x : ObjOk X.prog X.w H s.heap a (.ext fun h => ∃ o vs, h.get? a = some o ∧ Zc (.ref C) (some d) o ∧ o.data = .fields vs) := I.hok a _ e
      exact x.1
  have e2 : ∃ mA, s.heap.Ns1 d mA ∧ ∀ f, RelO (fs.lookup f) (mA f) := by
    rcases h.2 with e | e
    · exact exd_at I.hok e
    · exact (show ObjOk X.prog X.w H s.heap d (.xd fs) from I.hok d _ e)
  obtain ⟨o, vs, q1, q2, q3⟩ := e1
  obtain ⟨mA, n1, r⟩ := e2
  obtain ⟨od, ho, hl⟩ := lookIn_ns n1
  exact ⟨o, od, mA, ⟨q1, q2.1, by unfold PySem.W.notCls; rw [q3] <;> rfl, by rw [q2.2]; exact ho⟩, ho, n1, r⟩
/-- isinstance(e, c): one class -/
def rIsX (K : PySem.W.Frag) : List V → Hp → VK → Prop := fun xs H Q => ∃ (a C d : Addr) (fs : List (Str × V)) (c : V) (cv : Value) (b : Bool), xs = [.ref a, c] ∧ XAt H a C d fs ∧ ExcC K C ∧ ClsV c cv ∧ PySem.W.kitOne K (.ref C) cv = some b ∧ Q (.bl b) H
theorem call_isX : CallR X (.builtin "isinstance") (rIsX X.K) := by
  intro pins s σ H xs us Q I r h
  obtain ⟨a, C, d, fs, c, cv, b, rfl, xa, T, hc, e, q⟩ := h
  obtain ⟨u1, u2, rfl, r1, r2⟩ := vals2 r
  obtain rfl : u1 = Value.ref a := r1
  obtain ⟨o, od, mA, J, _⟩ := xat I xa
  cases hc.eq r2
  exact PySem.W.kia_one (PySem.W.xi_kit T) I.kIn J e (fun z => nomatch z) fun tk => ⟨.bl b, H, I.tok tk, rfl, q⟩
/-- isinstance(e, (c1, ..)) -/
def rIsXT (K : PySem.W.Frag) : List V → Hp → VK → Prop := fun xs H Q => ∃ (a C d : Addr) (fs : List (Str × V)) (tp : Addr) (cs : List V) (us : List Value) (b : Bool), xs = [.ref a, .ref tp] ∧ XAt H a C d fs ∧ ExcC K C ∧ H tp = some (.tup cs) ∧ Paired ClsV cs us ∧ PySem.W.kitAny K (.ref C) us = some b ∧ Q (.bl b) H
theorem call_isXT : CallR X (.builtin "isinstance") (rIsXT X.K) := by
  intro pins s σ H xs us Q I r h
  obtain ⟨a, C, d, fs, tp, cs, ws, b, rfl, xa, T, hT, k, e, q⟩ := h
  obtain ⟨u1, u2, rfl, r1, r2⟩ := vals2 r
  obtain rfl : u1 = Value.ref a := r1
  obtain rfl : u2 = Value.ref tp := r2
  obtain ⟨o, od, mA, J, _⟩ := xat I xa
  obtain ⟨_, its, rv, ob, h1, h2, n, h3⟩ := (show ObjOk X.prog X.w H s.heap tp (.tup cs) from I.hok tp _ hT)
  cases ClsV.all k rv
  obtain ⟨oc, dct, dt, sl⟩ := ob
  dsimp only at h2 h3
  subst h2 h3
  exact PySem.W.kia_tup (PySem.W.xi_kit T) I.kIn J h1 e (fun z => nomatch z) fun tk => ⟨.bl b, H, I.tok tk, rfl, q⟩
/-- e.f -/
def tXfld (K : PySem.W.Frag) (f : Str) (te : TE) : TE := fun σ H Q => te σ H fun x H1 => ∃ (a C d : Addr) (fs : List (Str × V)) (v : V), x = .ref a ∧ XAt H1 a C d fs ∧ XC K C ∧ PySem.W.findIn K (.ref C) f = some none ∧ fs.lookup f = some v ∧ Q v H1
theorem pe_xfld {e : Expr} {te : TE} {n : Str} {pos : Pos} (he : PE X e te) (hb : attributeBase e n X.env (eval e X.env) = eval e X.env := by rfl) : PE X (.Attribute e n pos) (tXfld X.K n te) := by
  refine ⟨fun pins s σ H Q I h => ?_⟩
  refine attr_of hb (thn (he.run pins s σ H _ I h) fun u s1 ⟨x, H1, I1, rx, a, C, d, fs, v, ex, xa, T, hno, hl, q⟩ => ?_)
  subst ex
  obtain rfl : u = Value.ref a := rx
  obtain ⟨o, od, mA, J, ho, n1, r⟩ := xat I1 xa
  obtain ⟨od', ho', hl'⟩ := lookIn_ns n1
  rw [ho] at ho'
  cases ho'
  obtain ⟨u, hu, ru⟩ := RelO.some_of (v := v) (o := mA n) (by rw [← hl]; exact r n)
  exact HandSPX.exc_get I1.kIn J T.ga T.gg T.exC (PySem.W.findObj_own T.hd hno rfl (by rw [hl', hu])) (handed_of ru) ⟨v, H1, I1.tok _, ru, q⟩
end
end Xo
set_option Elab.async false
set_option linter.all false
set_option maxRecDepth 100000
set_option maxHeartbeats 1000000
/-! Lm: x(lambda: e) and x(lambda n=0: e), the lambda called by x -/
namespace Lm
open PySem PySem.Spec PyProof.Rows L2 LamX
/-- the lambda's function -/
abbrev lmFn (q : Str) (params : Arguments) (body : Expr) (scope : Scope) (cl : List (Str × Addr)) (dV doc pm : Value) (c' : Addr) (ctv : Value) : FuncData := PySem.W.kdv_fn "<lambda>" q params (.expr body) scope cl dV doc pm (.ref c') ctv
/-- what is asked of its names: captured ones, globals, and parameters that the maker's text has no name like -/
structure LmS (N : List Str) (sc scope : Scope) (own : List Str) : Prop where
  kind : scope.kind = .function
  co : scope.isCoroutine = false
  gen : scope.isGenerator = false
  noc : ∀ y ∈ scope.names, y.2 ≠ .cell
  loc : ∀ y ∈ scope.names, y.2 = .local → y.1 ∉ N
  free : ∀ y ∈ scope.names, y.2 = .free → sc.names.lookup y.1 = some .cell ∨ sc.names.lookup y.1 = some .free
  par : ∀ n ∈ own, scope.names.lookup n = some .local
def lmB (N : List Str) (sc scope : Scope) (own : List Str) : Bool :=
  decide (scope.kind = .function) && (!scope.isCoroutine && (!scope.isGenerator && ((scope.names.all fun y => !decide (y.2 = .cell)) && ((scope.names.all fun y => !decide (y.2 = .local) || !decide (y.1 ∈ N)) &&
    ((scope.names.all fun y => !decide (y.2 = .free) || (decide (sc.names.lookup y.1 = some .cell) || decide (sc.names.lookup y.1 = some .free))) && (own.all fun n => decide (scope.names.lookup n = some .local)))))))
theorem lm_by {N : List Str} {sc scope : Scope} {own : List Str} (h : lmB N sc scope own = true) : LmS N sc scope own := by
  unfold lmB at h
  simp only [Bool.and_eq_true, Bool.or_eq_true, Bool.not_eq_true', decide_eq_true_eq, decide_eq_false_iff_not, List.all_eq_true] at h
  obtain ⟨h1, h2, h3, h4, h5, h6, h7⟩ := h
  exact ⟨h1, h2, h3, h4, fun y hy e => (h5 y hy).elim (fun z => absurd e z) id, fun y hy e => (h6 y hy).elim (fun z => absurd e z) id, h7⟩
section
variable {X : Cx} {pins : List (Addr × Obj)} {σ : L2.St} {H : Hp} {s : Shared}
theorem LmS.has {scope : Scope} {own : List Str} (L : LmS X.N X.env.scope scope own) (ok : X.Ok) : ∀ y ∈ scope.names, y.2 = .free → ∃ c, X.env.cells.lookup y.1 = some c := fun y hy e =>
  (L.free y hy e).elim (fun k => ok.has _ (.inl k)) fun k => ok.has _ (.inr k)
/-- behind the defaults -/
theorem lm_tail {T : List (Addr × Str)} {c P : Addr} {params : Arguments} {body : Expr} {scope : Scope} {dV : Value} {pos : Pos} {E : Value → Shared → Prop} {Q : Value → Shared → Prop} (I : Inv X pins σ H s) (TB : TabB X.base X.mg c P) (hcode : X.env.code = .ref c)
    (hm : (P, X.env.qual ++ "<lambda>") ∈ T) (hu : ∀ p ∈ T, p.1 = P → p.2 = X.env.qual ++ "<lambda>") (hT : Tabs T H) (hfree : ∀ y ∈ scope.names, y.2 = .free → ∃ c, X.env.cells.lookup y.1 = some c)
    (h : ∀ (f c' : Addr) (doc pm ctv : Value) (H1 : Hp) (s' : Shared), Inv X pins σ H1 s' → ExtN H H1 → Tabs T H1 → (∀ b o, s.heap.get? b = some o → H b = none → s'.heap.get? b = some o ∧ H1 b = none) →
      s'.heap.get? f = some { cls := .type "function", data := .func (lmFn (X.env.qual ++ "<lambda>") params body scope (cloFrom X.env.cells scope.names []) dV doc pm c' ctv) } → H1 f = none → f ∉ frs X.stack → H1 c' = some (CodeO c' (X.env.qual ++ "<lambda>")) → Q (.ref f) s') :
    wpAny (model X.prog X.w) X.A (makeTail "<lambda>" (X.env.qual ++ "<lambda>") params (.expr body) scope X.env dV .none none pos pos.line) Q E s := by
  obtain ⟨ps, hP, ht, ha⟩ := hT _ hm
  have bP : s.heap.BuiltinsAt X.mg P := TB.bm.keeps I.bk
  have oP : s.heap.get? P = some { cls := .none, data := .fields ps } := I.hok P _ hP
  have out : ∀ f, s.heap.objs.size ≤ f → f ∉ frs X.stack := fun f hf z => by
    rcases List.mem_cons.mp (I.stkSub _ z) with e | e
    · have := I.lt
      rw [← e] at this
      exact Nat.lt_irrefl _ (Nat.lt_of_lt_of_le this hf)
    · exact I.nofs hf e
  cases hc : codeAmong pos ps.toList with
  | none =>
    refine PySem.W.kdv_makeTail (mg := X.mg) (c := c) (P := P) (ps := ps) (closure_ok hfree) I.ok.glob (I.mod.glob.keeps I.bk) hcode (TB.code.keeps I.bk) oP ht hc TB.gP bP fun c' ctv doc h1 tk hx hge hlt hrec htb => ?_
    obtain ⟨c2, oc, vs, t, e2, hoc, hd, hv⟩ := hrec
    cases e2
    have hz : s.heap.objs.size ≤ h1.objs.size := Nat.le_trans hge (Nat.le_of_lt hlt)
    have nC : H c' = none := I.hok.fresh hge
    have I1 := inv_table (t' := tk) (more := #[rawInt pos.line, rawInt pos.col, .ref c'])
      (h' := h1.push { cls := .type "function", data := .func (lmFn (X.env.qual ++ "<lambda>") params body scope (cloFrom X.env.cells scope.names []) dV doc ((X.mg "__name__").getD .none) c' ctv) }) I hP
      (fun b o hb e => Heap.get?_push_of_some _ (hx b o hb e)) (Heap.get?_push_of_some _ htb) hge ⟨oc, vs, t, Heap.get?_push_of_some _ hoc, hd, hv⟩
    have nPb : ∀ b, H b = none → b ≠ P := fun b e z => by
      rw [z, hP] at e
      cases e
    have eN : ExtN H (upd (upd H P (.tbl (ps ++ #[rawInt pos.line, rawInt pos.col, .ref c']))) c' (CodeO c' (X.env.qual ++ "<lambda>"))) := fun b o e n => by
      rw [upd_ne (ne_of_none e nC), upd_ne (fun z => n ps (Option.some.inj (e.symm.trans (by rw [z]; exact hP))))]
      exact e
    have eL : (ps ++ #[rawInt pos.line, rawInt pos.col, .ref c']).toList = ps.toList ++ [rawInt pos.line, rawInt pos.col, .ref c'] := by simp
    refine h h1.objs.size c' doc ((X.mg "__name__").getD .none) ctv _ _ I1 eN (fun p hp => ?_) (fun b o e n => ⟨Heap.get?_push_of_some _ (hx b o (nPb b n) e), ?_⟩) (Heap.get?_push_size _ rfl) ?_ (out _ hz) upd_same
    · by_cases hb : p.1 = P
      · rw [hu p hp hb, hb]
        refine ⟨_, by rw [upd_ne (ne_of_none hP nC), upd_same], by rw [eL]; exact PySem.TriplesOk_snoc _ _ _ _ ht, fun p' cv hcv => ?_⟩
        rw [eL] at hcv
        rcases among_app _ ht hcv with z | z
        · obtain ⟨c0, e1, e2⟩ := ha p' cv z
          exact ⟨c0, e1, eN _ _ e2 codeO_ne⟩
        · exact ⟨c', z, upd_same⟩
      · obtain ⟨ps', a1, a2, a3⟩ := hT p hp
        refine ⟨ps', by rw [upd_ne (ne_of_none a1 nC), upd_ne hb]; exact a1, a2, fun p' cv hcv => ?_⟩
        obtain ⟨c0, e1, e2⟩ := a3 p' cv hcv
        exact ⟨c0, e1, eN _ _ e2 codeO_ne⟩
    · rw [upd_ne (fun z => Nat.lt_irrefl _ (Nat.lt_of_lt_of_le (Heap.lt_size e) (by rw [z]; exact hge))), upd_ne (nPb b n)]
      exact n
    · rw [upd_ne (Nat.ne_of_gt hlt), upd_ne (Nat.ne_of_gt (Nat.lt_of_lt_of_le (Heap.lt_size oP) hz))]
      exact I.hok.fresh hz
  | some cv =>
    obtain ⟨c', e, hco⟩ := ha pos cv hc
    subst e
    refine PySem.W.kdv_makeTailHit (mg := X.mg) (c := c) (P := P) (ps := ps) (closure_ok hfree) I.ok.glob (I.mod.glob.keeps I.bk) hcode (TB.code.keeps I.bk) oP ht hc bP fun ctv doc h1 tk hx hz => ?_
    have I1 : Inv X pins σ H { s with heap := h1.push { cls := .type "function", data := .func (lmFn (X.env.qual ++ "<lambda>") params body scope (cloFrom X.env.cells scope.names []) dV doc ((X.mg "__name__").getD .none) c' ctv) }, toks := tk } :=
      I.kept fun b o e => Heap.get?_push_of_some _ (hx b o e)
    exact h h1.objs.size c' doc ((X.mg "__name__").getD .none) ctv H _ I1 (ExtN.refl H) hT (fun b o e n => ⟨Heap.get?_push_of_some _ (hx b o e), n⟩) (Heap.get?_push_size _ rfl) (I.hok.fresh hz) (out _ hz) hco
/-- a lambda stands at f, called without arguments it binds bs -/
def LamAt (h : Heap) (H : Hp) (fr : List Addr) (f : Addr) (FD : FuncData) (bs : List (Str × Value)) : Prop :=
  h.get? f = some { cls := .type "function", data := .func FD } ∧ H f = none ∧ f ∉ fr ∧ ∀ s2 : Shared, (∀ b o, h.get? b = some o → H b = none → b ∉ fr → s2.heap.get? b = some o) → BindsTo s2 FD ⟨[], []⟩ bs
/-- what the making leaves -/
def Made (X : Cx) (pins : List (Addr × Obj)) (σ : L2.St) (H : Hp) (T : List (Addr × Str)) (params : Arguments) (body : Expr) (scope : Scope) (own : List Str) (Q : Value → Shared → Prop) : Prop :=
  ∀ (f c' : Addr) (dV doc pm ctv : Value) (bs : List (Str × Value)) (H1 : Hp) (s' : Shared), Inv X pins σ H1 s' → ExtN H H1 → Tabs T H1 → bs.map (·.1) = own →
    LamAt s'.heap H1 (frs X.stack) f (lmFn (X.env.qual ++ "<lambda>") params body scope (cloFrom X.env.cells scope.names []) dV doc pm c' ctv) bs → H1 c' = some (CodeO c' (X.env.qual ++ "<lambda>")) → Q (.ref f) s'
theorem lm_make0 {T : List (Addr × Str)} {c P : Addr} {params : Arguments} {body : Expr} {scope : Scope} {pos : Pos} {E : Value → Shared → Prop} {Q : Value → Shared → Prop} (I : Inv X pins σ H s) (TB : TabB X.base X.mg c P) (hcode : X.env.code = .ref c)
    (hm : (P, X.env.qual ++ "<lambda>") ∈ T) (hu : ∀ p ∈ T, p.1 = P → p.2 = X.env.qual ++ "<lambda>") (hT : Tabs T H) (L : LmS X.N X.env.scope scope []) (hdef : defaultsOf params X.env = ([], []))
    (hbind : ∀ (q : Str) (cl : List (Str × Addr)) (doc pm ctv : Value) (c' : Addr), bindArgs (lmFn q params body scope cl .none doc pm c' ctv) ⟨[], []⟩ = pure []) (h : Made X pins σ H T params body scope [] Q) :
    wpAny (model X.prog X.w) X.A (eval (.Lambda params body scope pos) X.env) Q E s := by
  refine PySem.W.kla_eval hdef ?_
  rw [makeFunction_eq]
  simp only [List.zip_nil_right, List.filterMap_nil, List.isEmpty_nil, if_true, pure_bind]
  exact lm_tail I TB hcode hm hu hT (L.has I.ok) fun f c' doc pm ctv H1 s' I1 eN T1 kp hf hfn hfr hco => h f c' .none doc pm ctv [] H1 s' I1 eN T1 rfl ⟨hf, hfn, hfr, fun s2 _ => .of_eq (hbind _ _ _ _ _ _)⟩ hco
theorem lm_make1 {T : List (Addr × Str)} {c P : Addr} {params : Arguments} {body : Expr} {scope : Scope} {pos pd : Pos} {E : Value → Shared → Prop} {Q : Value → Shared → Prop} {n : Str} {z : Int} {kd : Nat} (I : Inv X pins σ H s) (TB : TabB X.base X.mg c P) (hcode : X.env.code = .ref c)
    (hm : (P, X.env.qual ++ "<lambda>") ∈ T) (hu : ∀ p ∈ T, p.1 = P → p.2 = X.env.qual ++ "<lambda>") (hT : Tabs T H) (L : LmS X.N X.env.scope scope [n]) (hd : params.defaults = [.Constant (.int z) kd pd]) (hk0 : params.kw_defaults = [])
    (hbind : ∀ (q : Str) (cl : List (Str × Addr)) (dV doc pm ctv u : Value) (c' : Addr), ∃ k : Option (Array Value) → Sem (List (Str × Value)), bindArgs (lmFn q params body scope cl dV doc pm c' ctv) ⟨[], []⟩ = seqItems? dV >>= k ∧ k (some [u].toArray) = pure [(n, u)])
    (h : Made X pins σ H T params body scope [n] Q) : wpAny (model X.prog X.w) X.A (eval (.Lambda params body scope pos) X.env) Q E s := by
  refine PySem.W.kdv_lam (by rw [hd]; rfl) hk0 ?_
  rw [hd]
  refine PySem.W.kdv_all1 (thn ((show PE X (.Constant (.int z) kd pd) (tC (.int z)) from pe_int).run pins s σ H (fun v H1 => v = .int z ∧ H1 = H) I ⟨rfl, rfl⟩) fun u s1 ⟨v, H1, I1, r1, q1⟩ => PySem.W.kdv_all0 ?_)
  obtain ⟨ev, eH⟩ := q1
  subst ev eH
  rw [makeFunction_eq]
  simp only [List.zip_nil_right, List.filterMap_nil, List.isEmpty_nil, if_true, pure_bind, List.isEmpty_cons, Bool.false_eq_true, if_false]
  refine wpAny_bind (wpAny_newTextTuple ?_)
  have I2 : Inv X pins σ H1 { s1 with heap := s1.heap.push (PySem.W.kdv_tup [u]) } := I1.kept (t' := s1.toks) fun b o e => Heap.get?_push_of_some _ e
  have ot : (s1.heap.push (PySem.W.kdv_tup [u])).get? s1.heap.objs.size = some (PySem.W.kdv_tup [u]) := Heap.get?_push_size _ rfl
  have nt : H1 s1.heap.objs.size = none := I1.hok.fresh (Nat.le_refl _)
  have tf : s1.heap.objs.size ∉ frs X.stack := fun hz => by
    rcases List.mem_cons.mp (I1.stkSub _ hz) with e | e
    · exact absurd I1.lt (by rw [← e]; exact Nat.lt_irrefl _)
    · exact I1.nofs (Nat.le_refl _) e
  refine lm_tail I2 TB hcode hm hu hT (L.has I.ok) fun f c' doc pm ctv H2 s' I3 eN T1 kp hf hfn hfr hco => h f c' (.ref s1.heap.objs.size) doc pm ctv [(n, u)] H2 s' I3 eN T1 rfl ⟨hf, hfn, hfr, fun s2 k2 => ?_⟩ hco
  obtain ⟨q1, q2⟩ := kp _ _ ot nt
  obtain ⟨k, e1, e2⟩ := hbind (X.env.qual ++ "<lambda>") (cloFrom X.env.cells scope.names []) (.ref s1.heap.objs.size) doc pm ctv u c'
  exact BindsTo.of_defaults rfl (k2 _ _ q1 q2 tf) rfl e1 e2
end
section
variable {X : Cx} {pins : List (Addr × Obj)} {σ : L2.St} {H HZ : Hp} {s s1 : Shared}
/-- the lambda's body begins: the maker's names are seen through their cells -/
theorem lm_start {A : Around} {outer : List Env} {E : XK} {scope : Scope} {own : List Str} {f c' : Addr} {g1 : Heap} {tk : Nat} {bs : List (Str × Value)} (I : Inv X pins σ H s) (L : LmS X.N X.env.scope scope own) (e0 : Env0 X.prog X.w X.K X.mg X.base A outer s1 HZ) (hd : A.handled = none)
    (un : Un (frs X.stack) [] H HZ s.heap s1.heap) (hns : g1.Ns s1.heap.objs.size fun y => bs.reverse.lookup y) (kp : ∀ b o, s1.heap.get? b = some o → g1.get? b = some o) : Inv (lamCx X A outer s1 HZ E scope f c') [] σ HZ { s1 with heap := g1, toks := tk } := by
  have fr := L.has I.ok
  have back : ∀ {y c}, (cloFrom X.env.cells scope.names []).lookup y = some c → X.env.cells.lookup y = some c := fun {y c} e => by
    rcases cloFrom_mem (PySem.mem_of_lookup e) with z | ⟨z1, z2⟩
    · cases z
    · obtain ⟨c1, q⟩ := fr _ z1 rfl
      have q : X.env.cells.lookup y = some c1 := q
      rw [q] at z2
      have z2 : c = c1 := z2
      rw [z2]
      exact q
  have seen : ∀ {y}, scope.names.lookup y = some .free → ∃ c, (cloFrom X.env.cells scope.names []).lookup y = some c := fun {y} e => by
    have e : (y, NameKind.free) ∈ scope.names := PySem.mem_of_lookup e
    exact mem_lookup (cloFrom_has (cells := X.env.cells) (acc := []) e)
  have cells : ∀ {c : Addr} {v : Option Value}, H c = none → s.heap.IsCell c v → g1.IsCell c v := fun {c v} n ⟨o, e1, e2⟩ => by
    obtain ⟨sl, q⟩ := un.any e1 n (by simp)
    exact ⟨_, kp _ _ q, e2⟩
  have ex0 : ∀ b : Addr, b ∉ (lamCx X A outer s1 HZ E scope f c').ex := fun b z => nomatch (show b ∈ ([] : List Addr) from z)
  refine ⟨⟨e0.mod, L.kind, rfl, rfl, Nat.le_refl _, fun y z c e1 e2 => I.ok.inj y z c (back e1) (back e2), fun y hy => ?_, fun y c z _ => ?_, fun _ => hd, Around.frames_deeper e0.frames, .inr ⟨rfl, rfl⟩, fun b z => absurd z (ex0 b), e0.bs, e0.bsz,
      fun b _ _ => ex0 b, fun b z => absurd z (ex0 b), e0.funs, e0.frf⟩,
    rfl, e0.bare, Un.kept kp, ⟨_, hns, fun i y v e1 e2 e3 => ?_⟩, fun y c e => ?_, e0.hok.fresh (Nat.le_refl _), fun y c e => ?_, fun q hq => (nomatch (show q ∈ ([] : List (Addr × Obj)) ++ [] from hq)), e0.hok.kept kp, I.len⟩
  · have hy : scope.names.lookup y = some .cell ∨ scope.names.lookup y = some .free := hy
    rcases hy with hy | hy
    · exact absurd rfl (L.noc _ (PySem.mem_of_lookup hy))
    · exact seen hy
  · exact Bool.noConfusion (show false = true from z)
  · have e3 : Vis scope y := e3
    rcases e3 with k | k | k
    · exact absurd (List.mem_of_getElem? e1) (L.loc _ (PySem.mem_of_lookup k) rfl)
    · exact absurd rfl (L.noc _ (PySem.mem_of_lookup k))
    · obtain ⟨m, hn, hl⟩ := I.loc
      have vis : Vis X.env.scope y := (L.free _ (PySem.mem_of_lookup k) rfl).elim (fun k => .inr (.inl k)) fun k => .inr (.inr k)
      obtain ⟨u, r, q⟩ := hl i y v e1 e2 vis
      obtain ⟨c2, h2⟩ := seen k
      refine ⟨u, r, .inr ⟨.inr k, c2, h2, ?_⟩⟩
      rcases q with ⟨k1, _⟩ | ⟨_, c3, e4, z⟩
      · have k1 : X.env.scope.names.lookup y = some .local := k1
        rcases L.free _ (PySem.mem_of_lookup k) rfl with k2 | k2
        · have k2 : X.env.scope.names.lookup y = some .cell := k2
          rw [k2] at k1
          cases k1
        · have k2 : X.env.scope.names.lookup y = some .free := k2
          rw [k2] at k1
          cases k1
      · rw [back h2] at e4
        cases e4
        exact cells (I.freeC y _ (back h2)) z
  · obtain ⟨v, z⟩ := I.cell y c (back e)
    exact ⟨v, cells (I.freeC y c (back e)) z⟩
  · obtain ⟨v, o, e1, e2⟩ := I.cell y c (back e)
    exact un.free c o e1 (I.freeC y c (back e)) (by simp)
/-- the callee's context: entered at s from X -/
abbrev gCx (X : Cx) (Ng : List Str) (x : Str) (sg : Scope) (g : Addr) (cdg : Value) (s : Shared) (H : Hp) : Cx := cxOf C8.CX0 X.prog X.w X.K X.mg X.base Ng x sg g cdg X.A X.stack s H C8.E0
/-- a(), in the def that got the lambda -/
theorem pe_actD {Ng : List Str} {x a : Str} {sg : Scope} {g f c' : Addr} {cdg dV doc pm ctv : Value} {params : Arguments} {body : Expr} {scope : Scope} {own : List Str} {bs : List (Str × Value)} {k i : Nat} {pn : List (Addr × Obj)} {xe : Value → Shared → Prop} {W : WX} {E : XK} {tb : TE} {p1 p2 : Pos}
    (I : Inv X pins σ H s) (L : LmS X.N X.env.scope scope own) (ho : bs.map (·.1) = own) (la : LamAt s.heap H (frs X.stack) f (lmFn (X.env.qual ++ "<lambda>") params body scope (cloFrom X.env.cells scope.names []) dV doc pm c' ctv) bs)
    (tk : Takes ((gCx X Ng x sg g cdg s H).tr pn xe) W) (hr : Room (k + 1) (X.A.deeper (envOfC x sg s.heap.objs.size g cdg)))
    (hbody : ∀ (A : Around) (outer : List Env) (s : Shared) (H : Hp), Room k (A.deeper (lamEnv X scope s.heap.objs.size f c')) → PE (lamCx X A outer s H E scope f c') body tb)
    (hN : Ng[i]? = some a) (hv : Vis sg a) (hd : (a == ("__debug__" : Str)) = false := by decide) (hcd : (a == ("__classdict__" : Str)) = false := by decide) :
    PE ((gCx X Ng x sg g cdg s H).tr pn xe) (.Call (.Name a p1) [] [] p2) (fun σZ HZ Q => σZ[i]? = some (some (.ref f)) ∧ HZ c' = some (CodeO c' (X.env.qual ++ "<lambda>")) ∧ (∀ cls d H', E cls d H' → W cls d σZ H') ∧ tb σ HZ Q) := by
  refine ⟨fun pinsZ sZ σZ HZ Q IZ h => ?_⟩
  obtain ⟨hs, hc, hW, ht⟩ := h
  obtain ⟨hf, hfn, hfr, hbi⟩ := la
  refine wpAny_Call_Name_kw (thn ((pe_var (pos := p1) (i := i) hN hv hd hcd).run pinsZ sZ σZ HZ (fun v H1 => v = .ref f ∧ H1 = HZ) IZ ⟨.ref f, hs, rfl, rfl⟩) fun u s1 ⟨v, H1, I1, r1, q1⟩ => ?_)
  obtain ⟨ev, eH⟩ := q1
  subst ev eH
  obtain rfl : u = Value.ref f := r1
  have kept : ∀ b o, s.heap.get? b = some o → H b = none → b ∉ frs X.stack → s1.heap.get? b = some o := fun b o e n nf => I1.base.keep b o e n nf (fun z => nomatch (show b ∈ ([] : List Addr) from z))
  have of1 := kept f _ hf hfn hfr
  refine PySem.W.callWith_F0 ⟨_, _, _, _, of1⟩ ?_
  have un : Un (frs X.stack) [] H H1 s.heap s1.heap := I1.base
  obtain ⟨⟨oc, vs, t, hoc, hdc, hvc⟩, _, _⟩ := I1.hok c' _ hc
  have rc : codeAny (model X.prog X.w) (X.A.deeper (envOfC x sg s.heap.objs.size g cdg)) (.call (.ref f) ⟨[], []⟩) (CR (L2.CX X.prog X.w) (envOfC x sg s.heap.objs.size g cdg :: X.stack) X.prog X.w H1 s1 Q E) s1 := by
    refine PySem.W.kla_callFunE hr.depth of1 rfl L.co L.gen rfl ⟨c', oc, vs, t, rfl, hoc, hdc, hvc⟩ ?_
    refine hbi s1 kept _ _ _ _ (wpAny_newFunctionEnv L.noc (fun y hy => L.par _ (by rw [← ho]; exact List.mem_map_of_mem hy)) (fun g1 hns hsb => ⟨I1.nolimit.fresh _ hsb, ?_⟩) L.kind)
    show codeAny _ _ (.expr body (lamEnv X scope s1.heap.objs.size f c')) _ _
    have kp : ∀ b o, s1.heap.get? b = some o → g1.get? b = some o := fun b o e => hsb.extBut b o (Nat.ne_of_lt (Heap.lt_size e)) (Heap.get?_push_of_some _ e)
    have J := lm_start (A := X.A.deeper (envOfC x sg s.heap.objs.size g cdg)) (outer := envOfC x sg s.heap.objs.size g cdg :: X.stack) (E := E) (f := f) (c' := c') (tk := s1.toks + bs.length) I L I1.env0 hr.hd un hns kp
    refine PySem.W.kla_codeExpr (wpAny_mono ((hbody _ _ s1 H1 (hr.deeper _)).run [] _ _ H1 Q J ht) (fun v s' hq => ?_) fun e s' hq => hq)
    obtain ⟨w', H', J', rv, q⟩ := hq
    exact ⟨w', H', J'.os, J'.bare, J'.base, J'.hok, rv, q⟩
  refine wpAny_call (codeAny_mono rc fun r s' hq => ?_)
  cases r with
  | error e => exact tk e s' (XE.of_call I1 hW hq)
  | ok fl =>
    cases fl with
    | ret u => exact I1.after hq
    | next => exact False.elim hq
    | brk => exact False.elim hq
    | cont => exact False.elim hq
end
/-- the def that calls what it got: a calls it, W the wish of its place; TT: what it makes of the lambda's reading -/
def Gives (X : Cx) (Ng : List Str) (x : Str) (sg : Scope) (g : Addr) (cdg : Value) (bg : List Stmt) (a : Str) (q : Str) (TT : (XK → Hp → VK → Prop) → Hp → VK → Prop) : Prop :=
  ∀ (f c' : Addr) (s : Shared) (H : Hp) (Q : VK) (tl : XK → Hp → VK → Prop),
    (∀ (W : WX) (pn : List (Addr × Obj)) (xe : Value → Shared → Prop) (E : XK) (p1 p2 : Pos), Takes ((gCx X Ng x sg g cdg s H).tr pn xe) W →
      PE ((gCx X Ng x sg g cdg s H).tr pn xe) (.Call (.Name a p1) [] [] p2) (fun σZ HZ Q => σZ[0]? = some (some (.ref f)) ∧ HZ c' = some (CodeO c' q) ∧ (∀ cls d H', E cls d H' → W cls d σZ H') ∧ tl E HZ Q)) →
    H c' = some (CodeO c' q) → TT tl H Q → ∃ t, PSs (gCx X Ng x sg g cdg s H).nox bg t ∧ t { nx := fun _ H' => Q .non H', rt := Q } (L2.start Ng [.ref f]) H
/-- the lambda expression, made -/
def LamPE (X : Cx) (T : List (Addr × Str)) (params : Arguments) (body : Expr) (scope : Scope) (own : List Str) (lpos : Pos) : Prop :=
  ∀ (pins : List (Addr × Obj)) (σ : L2.St) (H : Hp) (s : Shared) (E Q : Value → Shared → Prop), Inv X pins σ H s → Tabs T H → Made X pins σ H T params body scope own (Q) → wpAny (model X.prog X.w) X.A (eval (.Lambda params body scope lpos) X.env) Q E s
section
variable {X : Cx}
/-- x(lambda ..: body) -/
theorem pe_lamD {T : List (Addr × Str)} {TT : (XK → Hp → VK → Prop) → Hp → VK → Prop} {x a : Str} {g : Addr} {k : Nat} {pg : Arguments} {bg : List Stmt} {sg : Scope} {dV kV doc pm cdv ct oc : Value} {an od : Option Addr} {osl : Array (Option Value)} {Ng : List Str}
    {params : Arguments} {body : Expr} {scope : Scope} {own : List Str} {t : XK → TE} {p lpos pos : Pos} (hg : Gl X x) (hm : X.mg x = some (.ref g)) (hk : PySem.W.keepIn X.K (.ref g) = true)
    (lk : X.K.lookup g = some ⟨oc, od, .func (PySem.W.fnOf x x pg bg sg dV kV doc pm an cdv ct), osl⟩) (hcg : PySem.W.codeIn X.K cdv x = true) (hb : L2.Binds X.K (PySem.W.fnOf x x pg bg sg dV kV doc pm an cdv ct) [a] []) (Sg : FnScope Ng [a] sg) (hNg : Ng[0]? = some a) (hva : Vis sg a)
    (hG : Gives X Ng x sg g cdv bg a (X.env.qual ++ "<lambda>") TT) (hr : Room (k + 2) X.A) (L : LmS X.N X.env.scope scope own) (hmk : LamPE X T params body scope own lpos)
    (hbody : ∀ (A : Around) (outer : List Env) (s : Shared) (H : Hp) (E : XK) (f c' : Addr), Room k (A.deeper (lamEnv X scope s.heap.objs.size f c')) → PE (lamCx X A outer s H E scope f c') body (t E))
    (hdb : (x == ("__debug__" : Str)) = false := by decide) (hd : (a == ("__debug__" : Str)) = false := by decide) (hcd : (a == ("__classdict__" : Str)) = false := by decide) :
    PE X (.Call (.Name x p) [.Lambda params body scope lpos] [] pos) (tLam T TT t) := by
  refine ⟨fun pins s σ H Q I h => ?_⟩
  obtain ⟨hT, h⟩ := h
  refine wpAny_Call_Name_kw (ld_glob I hg hm ?_ hdb)
  refine PySem.W.callWith_K (h₀ := X.base) I.ok.mod.kin hk ?_ (by rfl) (by rfl)
  show wpAny _ _ (spliced ((false, eval (.Lambda params body scope lpos) X.env) :: backTo pos (starEach [] X.env))) _ _ s
  refine Calls.spliced_cons (hmk pins σ H s _ _ I hT fun f c' dV' doc' pm' ctv bs H1 s' I1 eN T1 ho la hco => ?_)
  refine Calls.spliced_nil ⟨I1.kIn, ?_⟩
  have rc : codeAny (model X.prog X.w) X.A (.call (.ref g) ⟨[.ref f], []⟩) (CR C8.CX0 X.stack X.prog X.w H1 s' Q C8.E0) s' := by
    refine run_ofS (N := Ng) (ps := [a]) (us := [.ref f]) (vs := [.ref f]) lk hcg Sg hr I1.env0 (hb s' [.ref f] I1.kIn rfl) (.cons rfl .nil) rfl fun hr2 => ?_
    obtain ⟨t', ht', hq'⟩ := hG f c' s' H1 Q (fun E H' Q' => t E σ H' Q') (fun W pn xe E p1 p2 tk => pe_actD (i := 0) I1 L ho la tk hr2 (fun A outer s H hr3 => hbody A outer s H E f c' hr3) hNg hva hd hcd) hco (h H1 eN T1)
    exact ⟨t', ht'.nox, hq'⟩
  refine wpAny_call (codeAny_mono rc fun r s2 hq => ?_)
  cases r with
  | error e => exact (show False from hq).elim
  | ok fl =>
    cases fl with
    | ret u => exact I1.after hq
    | next => exact False.elim hq
    | brk => exact False.elim hq
    | cont => exact False.elim hq
end
end Lm
set_option Elab.async false
set_option linter.all false
set_option maxRecDepth 100000
set_option maxHeartbeats 1000000
/-! Sd: xs.count(y) of flat things; the def that asks a deed for its answer or its error -/
namespace Sd
open PySem PySem.Spec PyProof.Rows L2 LamX Xo
section
variable {X : Cx}
theorem count_eq {y : V} : ∀ {ys : List V} {its : List Value}, Vals ys its → ys.all flatV = true → its.countP (eqU y) = ys.countP fun z => eqV z y
  | [], _, .nil, _ => rfl
  | z :: ys, _ :: _, .cons r rr, f => by
    rw [List.all_cons, Bool.and_eq_true] at f
    rw [List.countP_cons, List.countP_cons, count_eq rr f.2, eqU_of r f.1]
def rCountF (K : PySem.W.Frag) : V → List V → Hp → VK → Prop := fun x xs H Q => ∃ (a : Addr) (ys : List V) (y : V), x = V.ref a ∧ xs = [y] ∧ SqL K H a ys ∧ flatV y = true ∧ ys.all flatV = true ∧ Q (.int ((ys.countP fun z => eqV z y) : Nat)) H
theorem mt_countF : MtR X "list.count" (rCountF X.K) := by
  intro pins s σ H x xs v us Q I rx rxs h
  obtain ⟨a, ys, y, rfl, rfl, hs, fy, fys, q⟩ := h
  cases rx
  obtain ⟨uy, rfl, ry⟩ := rxs.one
  obtain ⟨its, rv, ⟨⟨cls, dd, data, sl⟩, n, ho, hc, hdn, hd⟩, hlen⟩ := I.list hs
  dsimp only at hc hd
  subst hc hd
  refine call_meets F.slot_list_count ⟨_, ho, rfl⟩ F.entry_list_count (F.args_list_count_2 _ _) (SeqAt.list_countAt a its.toArray n dd sl uy (eqU y)) ⟨ho, fun u hu => mem_eqAt ry fy rv fys u (by simpa using hu), ?_⟩
  refine ⟨.int ((ys.countP fun z => eqV z y) : Nat), H, I.tok _, ⟨s.toks, ?_⟩, q⟩
  show Value.int ((its.toArray.toList.countP (eqU y) : Nat) : Int) s.toks = _
  rw [show its.toArray.toList.countP (eqU y) = ys.countP fun z => eqV z y from count_eq rv fys]
end
end Sd
set_option Elab.async false
set_option linter.all false
set_option maxRecDepth 100000
set_option maxHeartbeats 1000000
/-! Gd: defs that are run where no repr is under way; repr of data; the law's start told so -/
namespace Gd
open PySem PySem.Spec PyProof.Rows L2 LamX
/-! ### the start of a law -/
section
variable {P : Program} {w : World} {K : PySem.W.Frag} {mg mb : Str → Option Value} {CX : CXT} {fa a : Addr} {cs : List (Addr × Addr)} {s1 : Shared} {vs : List Value} {ns : List Int}
/-- the tracked addresses at the start, and what they hold -/
structure Begin (P : Program) (w : World) (K : PySem.W.Frag) (cs : List (Addr × Addr)) (a : Addr) (ns : List Int) (h : Heap) (tr : List Addr) (H : Hp) : Prop where
  out : ∀ b, b ∉ tr → H b = none
  inn : ∀ b, b ∈ tr → K.lookup b = none ∧ ∃ o, h.get? b = some o ∧ ((∃ vs n, o.data = .seq vs n) ∨ o.data = .fields #[])
  tab : ∀ p ∈ cs, p.2 ∈ tr ∧ H p.2 = some (.tbl #[])
  row : SqL K H a (ns.map V.int)
  two : ∀ b, b ∈ tr → (∃ p ∈ cs, p.2 = b) ∨ ((¬ ∃ p ∈ cs, p.2 = b) ∧ ∃ o u, H b = some (.frz o u))
  hok : HOk P w H h
theorem begins (ka : K.In s1.heap) (tabs : ∀ p ∈ cs, s1.heap.get? p.2 = some { cls := .none, data := .fields #[] }) (ntK : ∀ p ∈ cs, K.lookup p.2 = none) (ha : s1.heap.get? a = some { cls := .type "list", data := .seq vs.toArray }) (hi : IntsAre vs ns) (hl : ns.length ≤ sizeLine) :
    ∃ tr H, Begin P w K cs a ns s1.heap tr H := by
  have rv := vals_ints hi
  have aT : ¬ ∃ p ∈ cs, p.2 = a := fun ⟨p, hp, e⟩ => by
    have q := tabs p hp
    rw [e, ha] at q
    have z := congrArg Obj.data (Option.some.inj q)
    cases z
  have mT : ∀ {b}, b ∈ cs.map (·.2) → ∃ p ∈ cs, p.2 = b := fun {b} hb => List.mem_map.mp hb
  have tM : ∀ p ∈ cs, p.2 ∈ cs.map (·.2) := fun p hp => List.mem_map.mpr ⟨p, hp, rfl⟩
  have tO : ∀ b, b ∈ cs.map (·.2) → K.lookup b = none ∧ ∃ o, s1.heap.get? b = some o ∧ ((∃ vs n, o.data = .seq vs n) ∨ o.data = .fields #[]) := fun b hb => by
    obtain ⟨p, hp, rfl⟩ := mT hb
    exact ⟨ntK p hp, _, tabs p hp, .inr rfl⟩
  cases hk : K.lookup a with
  | some o =>
    have e := ka a o hk
    rw [ha] at e
    cases e
    refine ⟨cs.map (·.2), fun b => if b ∈ cs.map (·.2) then some (.tbl #[]) else none, fun b hb => if_neg hb, tO, fun p hp => ⟨tM p hp, if_pos (tM p hp)⟩,
      .inr ⟨_, vs.toArray, _, hk, rfl, rfl, rfl, by rw [List.size_toArray, hi.length]; exact hl, by simpa using rv⟩, fun b hb => .inl (mT hb), fun b u z => ?_⟩
    by_cases hb : b ∈ cs.map (·.2)
    · have z := (if_pos hb).symm.trans z
      cases z
      obtain ⟨p, hp, rfl⟩ := mT hb
      exact tabs p hp
    · have z := (if_neg hb).symm.trans z
      cases z
  | none =>
    have na : a ∉ cs.map (·.2) := fun z => aT (mT z)
    refine ⟨a :: cs.map (·.2), fun b => if b = a then some (.frz { cls := .type "list", data := .seq vs.toArray } (.lst (ns.map V.int))) else if b ∈ cs.map (·.2) then some (.tbl #[]) else none, fun b hb => ?_, fun b hb => ?_, fun p hp => ?_,
      .inl (.inr ⟨{ cls := .type "list", data := .seq vs.toArray }, if_pos rfl⟩), fun b hb => ?_, fun b u z => ?_⟩
    · rw [List.mem_cons] at hb
      exact (if_neg fun z => hb (.inl z)).trans (if_neg fun z => hb (.inr z))
    · rcases List.mem_cons.mp hb with rfl | hb
      · exact ⟨hk, _, ha, .inl ⟨_, _, rfl⟩⟩
      · exact tO b hb
    · have np : p.2 ≠ a := fun z => aT ⟨p, hp, z⟩
      exact ⟨List.mem_cons_of_mem _ (tM p hp), (if_neg np).trans (if_pos (tM p hp))⟩
    · rcases List.mem_cons.mp hb with rfl | hb
      · exact .inr ⟨aT, _, _, if_pos rfl⟩
      · exact .inl (mT hb)
    · by_cases hb : b = a
      · have z := (if_pos hb).symm.trans z
        cases z
        rw [hb]
        exact ⟨ha, by rw [List.length_map]; exact hl, vs, _, rv, ha⟩
      · have z := (if_neg hb).symm.trans z
        by_cases hb2 : b ∈ cs.map (·.2)
        · have z := (if_pos hb2).symm.trans z
          cases z
          obtain ⟨p, hp, rfl⟩ := mT hb2
          exact tabs p hp
        · have z := (if_neg hb2).symm.trans z
          cases z
/-- the law's call, from its run where no repr is under way -/
theorem start_run (ka : K.In s1.heap) (gl : s1.heap.Ns mainGlobals mg) (bt : s1.heap.Ns builtinsNs mb) (bb : ∀ x : Str, x ≠ "__name__" → mb x = bootBuiltins x) (lim : s1.heap.NoLimit) (ng : s1.gens = #[])
    (tabs : ∀ p ∈ cs, s1.heap.get? p.2 = some { cls := .none, data := .fields #[] }) (ntK : ∀ p ∈ cs, K.lookup p.2 = none) (cod : ∀ p ∈ cs, PySem.W.CodeHd s1.heap p.1 p.2)
    (bmain : ∃ (bm : Addr) (ob : Obj), mg "__builtins__" = some (.ref bm) ∧ bm ≠ builtinsNs ∧ s1.heap.get? bm = some ob ∧ ob.cls = .type "module" ∧ ob.dict = some builtinsNs ∧ ob.data = .plain)
    (ha : s1.heap.get? a = some { cls := .type "list", data := .seq vs.toArray }) (hi : IntsAre vs ns) (hl : ns.length ≤ sizeLine)
    (run : ∀ (base : Heap) (H : Hp), K.In base → base.Ns mainGlobals mg → (∀ p ∈ cs, TabB base mg p.1 p.2) → (∀ p ∈ cs, H p.2 = some (.tbl #[])) → SqL K H a (ns.map V.int) → Env0 P w K mg base callerA [] s1 H →
      codeAny (model P w) callerA (.call (.ref fa) ⟨[.ref a], []⟩) (CR CX [] P w H s1 (fun v _ => v = .bl true) fun _ _ _ => False) s1)
    (no : ∀ H e s', CX [] H s1 (fun _ _ _ => False) e s' → False) :
    codeAny (model P w) callerA (.call (.ref fa) ⟨[.ref a], []⟩) (fun r s' => r = .ok (.ret (.bool true)) ∧ OldK s1.heap s'.heap ∧ s'.os = s1.os ∧ AllBare s'.gens) s1 := by
  obtain ⟨tr, H, B⟩ := begins (P := P) (w := w) ka tabs ntK ha hi hl
  -- the ground: what is not tracked
  have kept : ∀ {b : Addr} {o : Obj}, s1.heap.get? b = some o → (∀ vs n, o.data ≠ .seq vs n) → o.data ≠ .fields #[] → (PySem.W.hideAll s1.heap tr).get? b = some o := fun {b o} e h1 h2 => PySem.W.hideAll_get tr e fun hb => by
    obtain ⟨_, o', e', q⟩ := B.inn b hb
    rw [e] at e'
    cases e'
    rcases q with ⟨vs, n, q⟩ | q
    · exact h1 _ _ q
    · exact h2 q
  have kdict : ∀ {b : Addr} {m : Str → Option Value}, s1.heap.Ns b m → (PySem.W.hideAll s1.heap tr).Ns b m := fun {b m} ⟨o, es, ep, e, d, r⟩ => ⟨o, es, ep, kept e (fun vs n z => by rw [d] at z; cases z) (fun z => by rw [d] at z; cases z), d, r⟩
  have kb : K.In (PySem.W.hideAll s1.heap tr) := fun b o e => PySem.W.hideAll_get tr (ka b o e) fun hb => by
    rw [(B.inn b hb).1] at e
    cases e
  have md : L2.Mod K mg (PySem.W.hideAll s1.heap tr) := ⟨kb, kdict gl, ⟨mb, kdict bt, bb⟩, let ⟨mc, h1, h2⟩ := lim; ⟨mc, kdict h1, h2⟩⟩
  have tb : ∀ p ∈ cs, TabB (PySem.W.hideAll s1.heap tr) mg p.1 p.2 := fun p hp => by
    refine ⟨?_, ?_, fun z => ?_⟩
    · obtain ⟨o, us, file, tf, flags, tg, inF, text, tt, e1, r1, r2, rest⟩ := cod p hp
      obtain ⟨r3, _⟩ := id rest
      exact ⟨o, us, file, tf, flags, tg, inF, text, tt, kept e1 (fun vs n z => by rw [r2] at z; cases z) (fun z => by rw [r2] at z; cases z; simp at r3), r1, r2, rest⟩
    · obtain ⟨bm, ob, b1, b2, b3, b4, b5, b6⟩ := bmain
      refine ⟨bm, ob, b1, b2, fun q => ?_, fun q => ?_, kept b3 (fun vs n z => by rw [b6] at z; cases z) (fun z => by rw [b6] at z; cases z), b4, b5, b6⟩
      · obtain ⟨o, es, ep, e, d, _⟩ := gl
        rw [q, e] at b3
        cases b3
        rw [d] at b6
        cases b6
      · rw [q, tabs p hp] at b3
        cases b3
        cases b6
    · obtain ⟨o, es, ep, e, d, _⟩ := gl
      rw [z, tabs p hp] at e
      cases e
      cases d
  have e0 : Env0 P w K mg (PySem.W.hideAll s1.heap tr) callerA [] s1 H := by
    refine ⟨rfl, md, fun b o e => ⟨PySem.W.of_hideAll tr e, B.out b fun hb => ?_⟩, Nat.le_of_eq (PySem.W.hideAll_size _ _), trivial, fun b hb => (nomatch (show b ∈ ([] : List Addr) from hb)), B.hok, .of_eq ng⟩
    rw [PySem.W.hideAll_none tr hb] at e
    cases e
  refine codeAny_mono (run _ H kb (kdict gl) tb (fun p hp => (B.tab p hp).2) B.row e0) fun r s' h => ?_
  cases r with
  | error e => exact (no H e s' h).elim
  | ok fl =>
    cases fl with
    | next => exact False.elim h
    | brk => exact False.elim h
    | cont => exact False.elim h
    | ret u =>
      obtain ⟨v, H', hos, bare, un, hok', rv, ev⟩ := h
      have ev : v = .bl true := ev
      subst ev
      obtain rfl : u = Value.bool true := rv
      have same : ∀ b o, (¬ ∃ p ∈ cs, p.2 = b) → s1.heap.get? b = some o → s'.heap.get? b = some o := fun b o nb e => by
        by_cases hb : b ∈ tr
        · rcases B.two b hb with z | ⟨_, o1, u1, z⟩
          · exact absurd z nb
          · have q1 := (B.hok b _ z).1
            have q2 := (hok' b _ (un.frzs b o1 u1 z)).1
            rw [e] at q1
            cases q1
            exact q2
        · exact un.keep b o e (B.out b hb) (fun z => nomatch (show b ∈ ([] : List Addr) from z)) (by simp)
      have grew : ∀ p ∈ cs, ∃ more : Array Value, s'.heap.get? p.2 = some { cls := .none, data := .fields more } := fun p hp => by
        obtain ⟨more, z⟩ := un.tbls p.2 #[] (B.tab p hp).2
        exact ⟨_, hok' p.2 _ z⟩
      refine ⟨rfl, ⟨fun b o e => ?_, fun b o e => ?_⟩, hos, bare⟩
      · by_cases hb : ∃ p ∈ cs, p.2 = b
        · obtain ⟨p, hp, rfl⟩ := hb
          obtain ⟨more, hm⟩ := grew p hp
          rw [tabs p hp] at e
          cases e
          exact .inr (.inl ⟨((cod p hp).tab (tabs p hp)).isCodeTable, rfl, #[], more, rfl, by rw [Array.empty_append]; exact hm⟩)
        · exact .inl (same b o hb e)
      · by_cases hb : ∃ p ∈ cs, p.2 = b
        · obtain ⟨p, hp, rfl⟩ := hb
          obtain ⟨more, hm⟩ := grew p hp
          exact ⟨_, hm⟩
        · exact ⟨o, same b o hb e⟩
end
/-! ### defs that are run where no repr is under way -/
theorem deeper_guards (A : Around) (env : Env) : (A.deeper env).guards = A.guards := rfl
structure FnG (P : Program) (w : World) (K : PySem.W.Frag) (mg : Str → Option Value) (base : Heap) (k : Nat) (f : Addr) (fd : FuncData) (ps : List Str) (sp : Sp) : Prop where
  len : ∀ vs H Q E, sp vs H Q E → vs.length = ps.length
  run : ∀ (A : Around) (outer : List Env) (s : Shared) (H : Hp) (args : Args) (us : List Value) (vs : List V) (Q : VK) (E : XK), Room k A → A.guards = some [] → Env0 P w K mg base A outer s H → BindsTo s fd args (ps.zip us) → Vals vs us → sp vs H Q E →
    codeAny (model P w) A (.call (.ref f) args) (CR C8.CX0 outer P w H s Q E) s
section
variable {P : Program} {w : World} {K : PySem.W.Frag} {mg : Str → Option Value} {base : Heap}
theorem okG {x qual : Str} {st : Stmt} {f : Addr} {fd : FuncData} {N ps : List Str} {k : Nat} {sp : Sp} (F : Fun K x qual st f fd) (S : FnScope N ps (defScope st)) (len : ∀ vs H Q E, sp vs H Q E → vs.length = ps.length)
    (hbody : ∀ (cdv : Value) (A : Around) (outer : List Env) (s : Shared) (H : Hp) (vs : List V) (Q : VK) (E : XK), Room k (A.deeper (envOfC qual (defScope st) s.heap.objs.size f cdv)) → (A.deeper (envOfC qual (defScope st) s.heap.objs.size f cdv)).guards = some [] → sp vs H Q E →
      ∃ t, PSs (cxOf C8.CX0 P w K mg base N qual (defScope st) f cdv A outer s H E).nox (defBody st) t ∧ t { nx := fun _ H' => Q .non H', rt := Q } (L2.start N vs) H) : FnG P w K mg base (k + 1) f fd ps sp := by
  obtain ⟨oc, od, kV, doc, pm, an, cdv, ct, osl, rfl, lk, hcd⟩ := F.ex
  refine ⟨len, fun A outer s H args us vs Q E hr hgd e0 hb r h => run_ofS lk hcd S hr e0 hb r (len _ _ _ _ h) fun hr2 => ?_⟩
  obtain ⟨t, ht, q⟩ := hbody cdv A outer s H vs Q E hr2 hgd h
  exact ⟨t, ht.nox, q⟩
end
section
variable {X : Cx}
theorem pe_callG {k : Nat} {f : Addr} {fd : FuncData} {ps : List Str} {sp : Sp} {x : Str} {p pos : Pos} {e : Expr} {es : List Expr} {t : TA} (F : FnG X.prog X.w X.K X.mg X.base k f fd ps sp) (hr : Room k X.A) (hgd : X.A.guards = some []) (hg : Gl X x) (hm : X.mg x = some (.ref f)) (hk : PySem.W.keepIn X.K (.ref f) = true)
    (hb : Binds X.K fd ps []) (ha : PA X (e :: es) t) (hdb : (x == ("__debug__" : Str)) = false := by decide) (he : starEach (e :: es) X.env = (false, eval e X.env) :: starEach es X.env := by rfl)
    (hpl : (backTo pos (starEach es X.env)).any (·.1) = false := by rfl) : PE X (.Call (.Name x p) (e :: es) [] pos) (tCall sp [] C8.E0 t) := by
  refine ⟨fun pins s σ H Q I h => ?_⟩
  refine wpAny_Call_Name_kw (ld_glob I hg hm ?_ hdb)
  refine PySem.W.callWith_K (h₀ := X.base) I.ok.mod.kin hk (thn (ha.run pos pins s σ H _ I h) fun us s1 ⟨vs, H1, I1, r, q⟩ => ⟨I1.kIn, ?_⟩) he hpl
  have q : sp (vs ++ []) H1 Q C8.E0 := q
  rw [List.append_nil] at q
  have hl : us.length = ps.length := by rw [← r.length, F.len _ _ _ _ q]
  have hbt : BindsTo s1 fd ⟨us, []⟩ (ps.zip us) := by
    have z := hb s1 us I1.kIn (by rw [List.append_nil]; exact hl)
    rwa [List.append_nil] at z
  refine wpAny_call (codeAny_mono (F.run X.A X.stack s1 H1 ⟨us, []⟩ us vs Q C8.E0 hr hgd I1.env0 hbt r q) fun r' s' hq => ?_)
  cases r' with
  | error e => exact (show False from hq).elim
  | ok fl =>
    cases fl with
    | ret u => exact I1.after hq
    | next => exact False.elim hq
    | brk => exact False.elim hq
    | cont => exact False.elim hq
/-- repr of a list or tuple of data -/
def rRepr (K : PySem.W.Frag) : List V → Hp → VK → Prop := fun xs H Q => ∃ (a : Addr) (d : PyData), xs = [.ref a] ∧ Dp K H (.ref a) d ∧ d.showable = true ∧ d.hasDict = false ∧ d.depth ≤ 60 ∧ d.shown.length ≤ sizeLine ∧ Q (.str d.shown) H
theorem call_repr (hgd : X.A.guards = some []) (hu : X.A.units + 64 < cLine) : CallR X (.builtin "repr") (rRepr X.K) := by
  intro pins s σ H xs us Q I r h
  obtain ⟨a, d, rfl, hd, hs, hk, hdp, hz, q⟩ := h
  obtain rfl := Vals.ref1 r
  obtain ⟨as, rd⟩ := Dp.reads I d _ _ hd (show L2.RelV (V.ref a) (Value.ref a) from rfl)
  exact repr_of_reads' rd hs (fun z => by rw [hk] at z; cases z) hgd (by omega) (fun b o e => e) (fun h' u tk k => ⟨.str d.shown, H, I.kept (t' := tk) k, ⟨u, rfl⟩, q⟩) hz
end
/-! ### the walk's end -/
/-- what is known of the law at the head's heap -/
def LawAtG (l : PySem.W.OpenLaw) (w : World) (K : PySem.W.Frag) (k n : Nat) (x : Str) (mg : Str → Option Value) (fa : Addr) (h : Heap) : Prop :=
  ∃ (fd : FuncData) (cs : List (Addr × Addr)) (sp : Sp), (∀ p ∈ cs, h.get? p.2 = some { cls := .none, data := .fields #[] }) ∧ (∀ p ∈ cs, K.lookup p.2 = none) ∧ (∀ p ∈ cs, PySem.W.CodeHd h p.1 p.2) ∧ (∀ (s : Shared) (u : Value), BindsTo s fd ⟨[u], []⟩ [(x, u)]) ∧
    (∀ (H : Hp) (a : Addr) (ns : List Int), ns.length ≤ n → (∀ p ∈ cs, H p.2 = some (.tbl #[])) → SqL K H a (ns.map V.int) → sp [.ref a] H (fun v _ => v = .bl true) fun _ _ _ => False) ∧
    ∀ base : Heap, K.In base → base.Ns mainGlobals mg → (∀ p ∈ cs, TabB base mg p.1 p.2) → FnG l.prog w K mg base k fa fd [x] sp
theorem walk_ofG {l : PySem.W.OpenLaw} {n k : Nat} {q : Program} {loose : List Str} {XP : (Str → Option Value) → Heap → Prop} {YP : World → Heap → Prop} {d : DefRec} {K : Params → PySem.W.Frag} {x : Str}
    (hn : l.most = some n) (hn2 : n ≤ sizeLine) (hdf : d.params.defaults = []) (hr : Room k callerA) (hY : ∀ (w : World) (h : Heap), YP w h → (K w.params).In h)
    (F : ∀ (w : World) (mg : Str → Option Value) (fa : Addr) (h : Heap), YP w h → (K w.params).In h → h.Ns mainGlobals mg → mg d.name = some (.ref fa) → LawAtG l w (K w.params) k n x mg fa h) :
    PySem.W.WalkO q loose XP YP l.row.toRowW d [] (fun f vs => PySem.call f vs) := by
  refine Att.attach_callB hn hdf fun w s0 s1 mg mb fa o pm cd doc a vs ns G Y ho hd hcd hmg hobj hints hlen hbits hg => ?_
  have kx := hY w _ Y
  obtain ⟨fd, cs, sp, hT, nT, C, hb, hsp, hF⟩ := F w mg fa _ Y kx G.T.g hmg
  exact start_run (CX := C8.CX0) kx G.T.g G.T.b G.T.builtins G.T.nolimit hg hT nT C G.T.bmain hobj hints (Nat.le_trans hlen hn2)
    (fun base H kb nb tb htb hS e0 => (hF base kb nb tb).run callerA [] s1 H ⟨[.ref a], []⟩ [.ref a] [.ref a] _ _ hr rfl e0 (hb s1 (.ref a)) (.cons rfl .nil) (hsp H a ns hlen htb hS)) fun H e s' z => z
end Gd
set_option Elab.async false
set_option linter.all false
set_option maxRecDepth 100000
/-! Kw: f(k = v, ..), keywords alone -/
namespace Kw
open PySem PySem.Spec PyProof.Rows L2
theorem pe_callK0 {X : Cx} {CX : CXT} {k : Nat} {f : Addr} {fd : FuncData} {ps ks : List Str} {sp : Sp} {E : XK} {x : Str} {p pos : Pos} {kws : List Keyword} {tk : TA} {g : List Value → List Value → List Value} {gV : List V → List V → List V}
    (F : FnOk X.prog X.w X.K X.mg X.base CX k f fd ps sp) (hr : Room k X.A) (hg : Gl X x) (hm : X.mg x = some (.ref f)) (hk : PySem.W.keepIn X.K (.ref f) = true) (hb : KBinds X.K fd ps ks g gV) (hx : Passes CX X E) (hkw : PK X kws tk)
    (hall : (backToKw pos (keywordEach kws X.env)).all (·.1.isSome) = true := by rfl) (hks : (backToKw pos (keywordEach kws X.env)).filterMap (·.1) = ks := by rfl) (hdb : (x == ("__debug__" : Str)) = false := by decide)
    (hpl : ((backTo pos (starEach [] X.env)).any (·.1) || (backToKw pos (keywordEach kws X.env)).any (·.1.isNone)) = false := by rfl) : PE X (.Call (.Name x p) [] kws pos) (fun σ H Q => tk σ H fun zs H1 => sp (gV [] zs) H1 Q E) := by
  refine ⟨fun pins s σ H Q I h => ?_⟩
  refine wpAny_Call_Name_kw (ld_glob I hg hm ?_ hdb)
  refine PySem.W.callWith_KW0 (h₀ := X.base) I.ok.mod.kin hk hall (thn (hkw.run pos pins s σ H _ I h) fun ws s1 ⟨zs, H1, I1, rz, q⟩ => ⟨I1.kIn, ?_⟩) hpl
  rw [hks]
  exact run_fnk (us := []) (vs := []) F hr hb hx I1 .nil rz q
/-- one parameter, by place or by name -/
theorem kb1 {K : PySem.W.Frag} {fd : FuncData} {p : Str} (h0 : ∀ u : Value, bindArgs fd ⟨[u], []⟩ = pure [(p, u)]) (h1 : ∀ u : Value, bindArgs fd ⟨[], [(p, u)]⟩ = pure [(p, u)]) : KBinds K fd [p] [p] (fun us ws => us ++ ws) (fun vs zs => vs ++ zs) where
  to := fun s us ws _ hl => by
    match us, ws, hl with
    | [u], [], _ => exact .of_eq (h0 u)
    | [], [u], _ => exact .of_eq (h1 u)
    | [], [], hl => cases hl
    | _ :: _ :: _, _, hl => simp at hl
    | [_], _ :: _, hl => simp at hl
    | [], _ :: _ :: _, hl => simp at hl
  rel := fun r r' => r.append r'
end Kw
set_option Elab.async false
set_option linter.all false
set_option maxRecDepth 100000
namespace K03
open PySem L2
def top (i : Nat) : Stmt := PySem.Challenge.pw_entryhall_k03_invalid_key_objects.main.body.getD i (.Pass ⟨0, 0, 0, 0⟩)
/-- a def of the text -/
structure Df (K : PySem.W.Frag) (mg : Str → Option Value) (name qual : Str) (st : Stmt) (ps : List Str) (f : Addr) (fd : FuncData) : Prop where
  F : Fun K name qual st f fd
  b : Binds K fd ps []
  g : mg name = some (.ref f)
/-- the built-ins stand as they are -/
structure Bl (mg : Str → Option Value) : Prop where
  isinstance : mg "isinstance" = none
  int : mg "int" = none
  bool : mg "bool" = none
  list : mg "list" = none
  range : mg "range" = none
  len : mg "len" = none
  min : mg "min" = none
  max : mg "max" = none
  sorted : mg "sorted" = none
  enumerate : mg "enumerate" = none
  repr : mg "repr" = none
  tuple : mg "tuple" = none
  divmod : mg "divmod" = none
section
variable {P : Program} {w : World} {K : PySem.W.Frag} {mg : Str → Option Value} {base : Heap}
theorem pInt {X : Cx} {pos : Pos} (hg : Gl X "int") (hm : X.mg "int" = none) : PE X (.Name "int" pos) (tC (.ty "int")) := pe_bltn (v := .ty "int") (u := .type "int") hg hm (by decide +kernel) rfl
theorem pBool {X : Cx} {pos : Pos} (hg : Gl X "bool") (hm : X.mg "bool" = none) : PE X (.Name "bool" pos) (tC (.ty "bool")) := pe_bltn (v := .ty "bool") (u := .type "bool") hg hm (by decide +kernel) rfl
end
theorem ixN_n {n j : Nat} (hj : j < n) : ixN n (j : Int) = some j := by
  unfold ixN
  rw [if_pos (by omega), if_pos (by omega)]
  simp
theorem iteNo {b : Bool} {p q : Prop} (h : b = false) (k : q) : if b = true then p else q := by
  subst h
  exact k
theorem iteYes {b : Bool} {p q : Prop} (h : b = true) (k : p) : if b = true then p else q := by
  subst h
  exact k
theorem upd_upd {H : Hp} {a : Addr} {x y : HO} : upd (upd H a x) a y = upd H a y := by
  funext b
  unfold upd
  split <;> rfl
/-! ### lists of ints as data -/
theorem dp_ints {K : PySem.W.Frag} {H : Hp} : ∀ gs : List Int, DpAll K H (gs.map V.int) (gs.map PyData.int)
  | [] => .nil
  | g :: gs => .cons (.int g) (dp_ints gs)
theorem can_ints : ∀ gs : List Int, PyData.canLayAll0 (gs.map PyData.int) = true
  | [] => by simp [PyData.canLayAll0]
  | g :: gs => by
    rw [List.map_cons, PyData.canLayAll0, can_ints gs]
    simp [PyData.canLay0]
theorem depth_ints : ∀ gs : List Int, PyData.depthAll (gs.map PyData.int) = 0
  | [] => by simp [PyData.depthAll]
  | g :: gs => by
    rw [List.map_cons, PyData.depthAll, depth_ints gs]
    simp [PyData.depth]
theorem shaped_ints (gs : List Int) : SeqAt.shaped (.list (gs.map PyData.int)) = true := by
  unfold SeqAt.shaped
  rw [PyData.canLay0, can_ints, PyData.depth, depth_ints]
  rfl
theorem eqv_nil : ∀ gs : List Int, PyData.eqv (.list (gs.map PyData.int)) (.list []) = gs.isEmpty
  | [] => by simp [PyData.eqv, PyData.eqvAll]
  | g :: gs => by simp [PyData.eqv, PyData.eqvAll]
/-- a remainder as a natural number -/
theorem fmod_nat (i : Int) {m : Int} (h : 0 < m) : ∃ n : Nat, i.fmod m = (n : Int) ∧ (n : Int) < m := by
  rw [Int.fmod_eq_emod_of_nonneg _ (by omega)]
  have h1 := Int.emod_nonneg i (show m ≠ 0 by omega)
  have h2 := Int.emod_lt_of_pos i h
  exact ⟨(i % m).toNat, by omega, by omega⟩
theorem same_new {H : Hp} {a : Addr} {o : HO} (h : H a = none) : Same H (upd H a o) := fun b u e => by
  rw [upd_ne (ne_of_none e h)]
  exact e
theorem int_at {ns : List Int} {i : Nat} {x : V} (h : (ns.map V.int)[i]? = some x) : ∃ z, x = V.int z ∧ ns[i]? = some z := by
  rw [List.getElem?_map] at h
  obtain ⟨z, hz, rfl⟩ := Option.map_eq_some_iff.mp h
  exact ⟨z, rfl, hz⟩
/-- for i, x in enumerate(a list) -/
theorem for_enumL {K : PySem.W.Frag} {a : Addr} {xs : List V} {g : TG} {tb : TS} {D : Ends} {σ : L2.St} {H : Hp} (Pv : Nat → L2.St → Hp → Prop) (h0 : Pv 0 σ H) (hl : ∀ i σ H, i ≤ xs.length → Pv i σ H → SqL K H a xs)
    (hs : ∀ i x T σ H, xs[i]? = some x → Pv i σ H → H T = none → g (.ref T) σ (upd H T (.tup [.int (i : Nat), x])) fun σ2 H2 => tb { D with nx := Pv (i + 1), ct := Pv (i + 1), bk := D.nx } σ2 H2) (hd : ∀ σ H, Pv xs.length σ H → D.nx σ H) :
    ∃ W : Nat → Nat → L2.St → Hp → Prop, (∃ m, W 0 m σ H) ∧ ∀ i m σ H, W i m σ H →
      ((Ite K a).stop i H ∧ D.nx σ H) ∨ ((Ite K a).go i H ∧ ∃ N : L2.St → Hp → Prop, (∀ σ' H', N σ' H' → ∃ m', m' < m ∧ W (i + 1) m' σ' H') ∧ ∀ x H', (Ite K a).yld i H x H' → g x σ H' fun σ2 H2 => tb { D with nx := N, ct := N, bk := D.nx } σ2 H2) := by
  refine ⟨fun i m σ H => m = xs.length - i ∧ i ≤ xs.length ∧ Pv i σ H, ⟨xs.length, by simp, Nat.zero_le _, h0⟩, ?_⟩
  rintro i m σ H ⟨rfl, hi, p⟩
  have q := hl i σ H hi p
  by_cases hlt : i < xs.length
  · refine .inr ⟨⟨xs, xs[i], q, by simp [hlt]⟩, Pv (i + 1), fun σ' H' p' => ⟨xs.length - (i + 1), by omega, rfl, hlt, p'⟩, fun x H' y => ?_⟩
    obtain ⟨T, x, rfl, hT, rfl, hx⟩ := y
    exact hs i x T σ H (hx xs q) p hT
  · have e : i = xs.length := by omega
    subst e
    exact .inl ⟨⟨xs, q, Nat.le_refl _⟩, hd σ H p⟩
/-! ### the law's digits -/
abbrev sMixed : Stmt := top 37
abbrev sDraw : Stmt := top 38
abbrev sDigit : Stmt := top 39
abbrev kL : Key := .inr "left"
abbrev kC : Key := .inr "cell"
abbrev kT : Key := .inr "turns"
def sdK (l c t : Int) : List (Key × V) := [(kL, .int l), (kC, .int c), (kT, .int t)]
theorem nLC : ¬ (kL = kC) := by decide +kernel
theorem nLT : ¬ (kL = kT) := by decide +kernel
theorem nCT : ¬ (kC = kT) := by decide +kernel
theorem nCL : ¬ (kC = kL) := by decide +kernel
theorem nTL : ¬ (kT = kL) := by decide +kernel
theorem sd_left {l c t : Int} : valV (sdK l c t) kL = some (.int l) := by
  unfold sdK valV
  rw [List.find?_cons, decide_eq_true rfl]
  rfl
theorem sd_cell {l c t : Int} : valV (sdK l c t) kC = some (.int c) := by
  unfold sdK valV
  rw [List.find?_cons, decide_eq_false nLC, List.find?_cons, decide_eq_true rfl]
  rfl
theorem sd_turns {l c t : Int} : valV (sdK l c t) kT = some (.int t) := by
  unfold sdK valV
  rw [List.find?_cons, decide_eq_false nLT, List.find?_cons, decide_eq_false nCT, List.find?_cons, decide_eq_true rfl]
  rfl
theorem spl {l c t z : Int} : putK (sdK l c t) kL (.int z) = sdK z c t := by
  unfold sdK putK
  rw [if_pos (by simp)]
  simp only [List.map_cons, List.map_nil, if_true, if_neg nCL, if_neg nTL]
theorem spt {l c t z : Int} : putK (sdK l c t) kT (.int z) = sdK l c z := by
  unfold sdK putK
  rw [if_pos (by simp)]
  simp only [List.map_cons, List.map_nil, if_true, if_neg nLT, if_neg nCT]
theorem dget_left {H : Hp} {s : Addr} {l c t : Int} (h : H s = some (.dK (sdK l c t))) : DGet H s (.str "left") (some (.int l)) := by
  have := DGet.k (k := kL) h
  rw [sd_left] at this
  exact this
theorem dget_cell {H : Hp} {s : Addr} {l c t : Int} (h : H s = some (.dK (sdK l c t))) : DGet H s (.str "cell") (some (.int c)) := by
  have := DGet.k (k := kC) h
  rw [sd_cell] at this
  exact this
theorem dget_turns {H : Hp} {s : Addr} {l c t : Int} (h : H s = some (.dK (sdK l c t))) : DGet H s (.str "turns") (some (.int t)) := by
  have := DGet.k (k := kT) h
  rw [sd_turns] at this
  exact this
theorem dput_left {H : Hp} {s : Addr} {l c t z : Int} (h : H s = some (.dK (sdK l c t))) : DPut H s (.str "left") (.int z) (upd H s (.dK (sdK z c t))) := by
  have := DPut.k (k := kL) (v := .int z) h (by show 3 < sizeLine; decide)
  rw [spl] at this
  exact this
theorem dput_turns {H : Hp} {s : Addr} {l c t z : Int} (h : H s = some (.dK (sdK l c t))) : DPut H s (.str "turns") (.int z) (upd H s (.dK (sdK l c z))) := by
  have := DPut.k (k := kT) (v := .int z) h (by show 3 < sizeLine; decide)
  rw [spt] at this
  exact this
theorem merge_sd {l c t : Int} : mergeK [] (sdK l c t) = sdK l c t := by
  unfold mergeK sdK
  simp only [List.foldl_cons, List.foldl_nil]
  have e1 : putK ([] : List (Key × V)) kL (.int l) = [(kL, .int l)] := rfl
  have e2 : putK [(kL, V.int l)] kC (.int c) = [(kL, .int l), (kC, .int c)] := by
    unfold putK
    rw [if_neg (by simp; decide +kernel)]
    rfl
  have e3 : putK [(kL, V.int l), (kC, .int c)] kT (.int t) = [(kL, .int l), (kC, .int c), (kT, .int t)] := by
    unfold putK
    rw [if_neg (by simp; decide +kernel)]
    rfl
  rw [e1, e2, e3]
/-- a source of digits stands at s; its turns are at most n -/
def Src (H : Hp) (s : Addr) (n : Nat) : Prop := ∃ l c t : Int, H s = some (.dK (sdK l c t)) ∧ 0 ≤ l ∧ 0 ≤ t ∧ t ≤ (n : Int)
/-- all but the source stays -/
def KeptS (H H' : Hp) (s : Addr) : Prop := ∀ b o, H b = some o → b ≠ s → H' b = some o
theorem KeptS.trans {H H1 H2 : Hp} {s : Addr} (a : KeptS H H1 s) (b : KeptS H1 H2 s) : KeptS H H2 s := fun c o e h => b c o (a c o e h) h
theorem KeptS.of {H H1 : Hp} {s : Addr} (a : Same H H1) : KeptS H H1 s := fun c o e _ => a c o e
theorem KeptS.same {H H1 : Hp} {s : Addr} (a : KeptS H H1 s) {H0 : Hp} (sm : Same H0 H) (h : H0 s = none) : Same H0 H1 := fun b o e => a b o (sm b o e) (ne_of_none e h)
theorem Src.same {H H1 : Hp} {s : Addr} {n : Nat} (h : Src H s n) (a : Same H H1) : Src H1 s n := by
  obtain ⟨l, c, t, h1, h2⟩ := h
  exact ⟨l, c, t, a _ _ h1, h2⟩
section
variable {P : Program} {w : World} {K : PySem.W.Frag} {mg : Str → Option Value} {base : Heap}
def spMixed : Sp := fun vs H Q _ => ∃ (c k : Int), vs = [.int c, .int k] ∧ 0 ≤ k ∧ k < 2 ^ 40 ∧ ∀ (n : Nat) (H' : Hp), Same H H' → (n : Int) < 2147483647 → Q (.int (n : Int)) H'
theorem scMixed : FnScope ["cell", "k", "mixed"] ["cell", "k"] (defScope sMixed) := ⟨rfl, rfl, rfl, by decide +kernel, rfl, by decide +kernel, by decide +kernel⟩
theorem pick4 (n : Nat) (h : (n : Int) < 4) : ∃ m : Nat, 0 < m ∧ m < 2147483648 ∧ ([V.int 1000000007, .int 998244353, .int 2147483629, .int 1000000009] : List V)[n]? = some (V.int (m : Int)) := by
  have h : n < 4 := by omega
  match n, h with
  | 0, _ => exact ⟨1000000007, by decide, by decide, rfl⟩
  | 1, _ => exact ⟨998244353, by decide, by decide, rfl⟩
  | 2, _ => exact ⟨2147483629, by decide, by decide, rfl⟩
  | 3, _ => exact ⟨1000000009, by decide, by decide, rfl⟩
theorem ok_mixed {f : Addr} {fd : FuncData} (D : Df K mg "_law_mixed" "_law_mixed" sMixed ["cell", "k"] f fd) : FnOk P w K mg base CX0 1 f fd ["cell", "k"] spMixed := by
  refine D.F.ok scMixed (fun vs H Q E h => ?_) (fun cdv A outer s H vs Q E hr h => ?_)
  · obtain ⟨c, k, rfl, _⟩ := h
    rfl
  · obtain ⟨c, k, rfl, k0, k1, q⟩ := h
    refine ⟨_, pss_cons (ps_set (i := 2) scMixed.nd rfl (Or.inl rfl) (pe_op op_add (pe_op op_add (pe_op op_modN (pv 0) (pe_ix ix_list (pe_lst (pa_cons pe_int (pa_cons pe_int (pa_cons pe_int (pa_cons pe_int pa_nil))))) (pe_op op_modN (pv 1) pe_int) (fun _ _ => rfl))) (pe_op op_mul pe_int (pv 1))) pe_int))
      (pss_one (ps_ret (pe_op op_modN (pe_op op_mul (pe_op op_modN (pe_op op_mul (pv 2) (pv 2)) pe_int) pe_int) pe_int))), ?_⟩
    obtain ⟨j, ej, hj⟩ := fmod_nat k (m := 4) (by decide)
    obtain ⟨m, m0, m1, em⟩ := pick4 j hj
    refine ⟨_, rfl, by show 4 ≤ sizeLine; decide, fun L hL => ?_⟩
    refine ⟨_, rfl, _, _, rfl, rfl, (by show (4 : Int) ≠ 0; decide), ?_⟩
    dsimp only
    rw [ej]
    obtain ⟨x, ex, hx⟩ := fmod_nat c (m := (m : Int)) (by omega)
    refine ⟨L, _, (j : Int), _, rfl, rfl, SqL.of upd_same, atI_nat em, _, _, rfl, rfl, (by show (m : Int) ≠ 0; omega), ?_⟩
    dsimp only
    rw [ex]
    refine ⟨_, rfl, _, _, rfl, rfl, .inl ⟨by decide, by decide⟩, _, _, rfl, rfl, _, _, rfl, rfl, ?_⟩
    have b0 : 0 ≤ (x : Int) + 7919 * k + 13 := by omega
    have b1 : (x : Int) + 7919 * k + 13 < 2 ^ 64 := by
      have : (2 : Int) ^ 40 = 1099511627776 := by decide
      have : (2 : Int) ^ 64 = 18446744073709551616 := by decide
      omega
    refine ⟨_, rfl, _, rfl, _, _, rfl, rfl, .inl ⟨by show -(2 ^ 64) < (x : Int) + 7919 * k + 13; omega, b1⟩, _, _, rfl, rfl, (by show (2147483647 : Int) ≠ 0; decide), ?_⟩
    dsimp only
    obtain ⟨y, ey, hy⟩ := fmod_nat (((x : Int) + 7919 * k + 13) * ((x : Int) + 7919 * k + 13)) (m := 2147483647) (by decide)
    rw [ey]
    refine ⟨_, _, rfl, rfl, .inl ⟨by omega, by omega⟩, _, _, rfl, rfl, (by show (2147483647 : Int) ≠ 0; decide), ?_⟩
    dsimp only
    obtain ⟨z, ez, hz⟩ := fmod_nat ((y : Int) * 48271) (m := 2147483647) (by decide)
    rw [ez]
    exact q z _ (same_new hL) hz
def spDraw : Sp := fun vs H Q _ => ∃ (c k : Int), vs = [.int c, .int k] ∧ 0 ≤ k ∧ ∀ s H', Same H H' → H s = none → (∀ n : Nat, 1000 * k ≤ (n : Int) → Src H' s n) → Q (.ref s) H'
theorem scDraw : FnScope ["cell", "k"] ["cell", "k"] (defScope sDraw) := ⟨rfl, rfl, rfl, by decide +kernel, rfl, by decide +kernel, by decide +kernel⟩
theorem ok_draw {f : Addr} {fd : FuncData} (D : Df K mg "_law_draw" "_law_draw" sDraw ["cell", "k"] f fd) : FnOk P w K mg base CX0 1 f fd ["cell", "k"] spDraw := by
  refine D.F.ok scDraw (fun vs H Q E h => ?_) (fun cdv A outer s H vs Q E hr h => ?_)
  · obtain ⟨c, k, rfl, _⟩ := h
    rfl
  · obtain ⟨c, k, rfl, k0, q⟩ := h
    refine ⟨_, pss_one (ps_ret (pe_disp (pps_cons pe_str (pe_ifExp (pt_cmpR op_ge (pv 0) (pe_op op_pow pe_int pe_int) (nomark _)) (pv 0) pe_int) (pps_cons pe_str (pv 0) (pps_cons pe_str (pe_op op_mul pe_int (pv 1)) pps_nil))) (by rfl) (by rfl) (fun z => by cases z) (by decide))), ?_⟩
    intro d hd
    have fin : ∀ l : Int, 0 ≤ l → ∃ kvs, some (HO.dK []) = some (.dK []) ∧ kvs = sdK l c (1000 * k) := fun l _ => ⟨_, rfl, rfl⟩
    refine ⟨_, rfl, _, _, rfl, rfl, ⟨by decide, by decide, by decide⟩, _, _, rfl, rfl, _, rfl, ite2 (fun e => ?_) (fun e => ?_)⟩
    · have e : (10 : Int) ^ (18 : Int).toNat ≤ c := of_decide_eq_true e
      refine ⟨_, rfl, _, rfl, _, rfl, _, _, rfl, rfl, .inl ⟨by decide, by decide⟩, ?_⟩
      refine ⟨upd_same, sdK c c (1000 * k), rfl, (by show 3 ≤ 15; decide), ?_⟩
      rw [merge_sd]
      have hc : 0 ≤ c := Int.le_trans (by decide) e
      refine q d _ (fun b o e => by rw [upd_ne (ne_of_none e hd), upd_ne (ne_of_none e hd)]; exact e) hd fun n hn => ⟨c, c, 1000 * k, upd_same, hc, by omega, hn⟩
    · refine ⟨_, rfl, _, rfl, _, _, rfl, rfl, .inl ⟨by decide, by decide⟩, ?_⟩
      refine ⟨upd_same, sdK 0 c (1000 * k), rfl, (by show 3 ≤ 15; decide), ?_⟩
      rw [merge_sd]
      refine q d _ (fun b o e => by rw [upd_ne (ne_of_none e hd), upd_ne (ne_of_none e hd)]; exact e) hd fun n hn => ⟨0, c, 1000 * k, upd_same, by decide, by omega, hn⟩
def spDigit : Sp := fun vs H Q _ => ∃ (s : Addr) (b n : Nat), vs = [.ref s, .int (b : Int)] ∧ Src H s n ∧ n + 4 < 2 ^ 40 ∧ 0 < b ∧ b < 2 ^ 62 ∧ ∀ (m : Nat) (H' : Hp), m < b → Src H' s (n + 4) → KeptS H H' s → Q (.int (m : Int)) H'
theorem scDigit : FnScope ["state", "size", "j", "found"] ["state", "size"] (defScope sDigit) := ⟨rfl, rfl, rfl, by decide +kernel, rfl, by decide +kernel, by decide +kernel⟩
theorem ok_digit {f f1 : Addr} {fd fd1 : FuncData} (D : Df K mg "_law_digit" "_law_digit" sDigit ["state", "size"] f fd) (B : Bl mg) (D1 : Df K mg "_law_mixed" "_law_mixed" sMixed ["cell", "k"] f1 fd1) (G1 : FnOk P w K mg base CX0 1 f1 fd1 ["cell", "k"] spMixed) : FnOk P w K mg base CX0 2 f fd ["state", "size"] spDigit := by
  refine D.F.ok scDigit (fun vs H Q E h => ?_) (fun cdv A outer s H vs Q E hr h => ?_)
  · obtain ⟨d, b, n, rfl, _⟩ := h
    rfl
  · obtain ⟨d, b, n, rfl, ⟨l, c, t, hd, l0, t0, t1⟩, hn, b0, b1, q⟩ := h
    have hu := hu_of hr
    refine ⟨_, pss_cons (ps_if (pt_cmpR op_eq (pe_dget hu (pv 0) pe_str (fun _ _ => rfl)) pe_int (nomark _))
        (pss_one (ps_for PassesOwn.never rfl (pi_range1 rfl B.range (pa_cons pe_int pa_nil)) (pg_name (i := 2) scDigit.nd rfl (Or.inl rfl))
          (pss_cons (ps_dput hu (pv 0) pe_str (pe_op op_add (pe_dget hu (pv 0) pe_str (fun _ _ => rfl)) pe_int) rfl)
            (pss_one (ps_dput hu (pv 0) pe_str (pe_op op_add (pe_op op_mul (pe_dget hu (pv 0) pe_str (fun _ _ => rfl)) pe_int) (pe_call G1 hr rfl D1.g D1.F.kp D1.b .nil pass0 (pa_cons (pe_dget hu (pv 0) pe_str (fun _ _ => rfl)) (pa_cons (pe_dget hu (pv 0) pe_str (fun _ _ => rfl)) pa_nil)))) rfl))))) pss_nil)
      (pss_cons (ps_set (i := 3) scDigit.nd rfl (Or.inl rfl) (pe_op op_modN (pe_dget hu (pv 0) pe_str (fun _ _ => rfl)) (pv 1)))
      (pss_cons (ps_dput hu (pv 0) pe_str (pe_op op_fdivW (pe_dget hu (pv 0) pe_str (fun _ _ => rfl)) (pv 1)) rfl)
      (pss_one (ps_ret (pv 3))))), ?_⟩
    -- behind the test
    refine ⟨_, rfl, d, _, rfl, dget_left hd, rfl, _, rfl, ite2 (fun e => ?_) (fun e => ?_)⟩
    · have e : l = 0 := by simpa using of_decide_eq_true e
      subst e
      refine ⟨4, rfl, by decide, by decide, for_range (n := 4) (fun i σ H' => (∃ v2, σ = [some (.ref d), some (.int (b : Int)), v2, none]) ∧ (∃ l : Int, H' d = some (.dK (sdK l c (t + (i : Int)))) ∧ 0 ≤ l) ∧ KeptS H H' d) ⟨⟨_, rfl⟩, ⟨0, by rw [hd]; simp, by decide⟩, fun b o e _ => e⟩ ?_ ?_⟩
      · rintro i σ H' hi ⟨⟨v2, rfl⟩, ⟨l, hl, l0⟩, kp⟩
        refine ⟨_, rfl, d, _, rfl, dget_turns hl, _, _, rfl, rfl, _, rfl, d, _, rfl, dput_turns hl, ?_⟩
        refine ⟨_, rfl, d, _, rfl, dget_left upd_same, _, _, rfl, rfl, .inr ⟨by decide, by decide⟩, ?_⟩
        refine ⟨_, rfl, d, _, rfl, dget_cell upd_same, _, rfl, d, _, rfl, dget_turns upd_same, c, _, rfl, by omega, by omega, fun m H2 sm hm => ⟨_, _, rfl, rfl, _, rfl, d, _, rfl, dput_left (sm _ _ upd_same), ?_⟩⟩
        refine ⟨⟨_, rfl⟩, ⟨l * 2147483647 + (m : Int), ?_, by omega⟩, fun b o e hb => ?_⟩
        · rw [upd_same]
          have e : t + (i : Int) + 1 = t + ((i + 1 : Nat) : Int) := by omega
          rw [e]
        · rw [upd_ne hb]
          exact sm _ _ (by rw [upd_ne hb]; exact kp b o e hb)
      · rintro σ H' ⟨⟨v2, rfl⟩, ⟨l, hl, l0⟩, kp⟩
        have ht0 : 0 ≤ t + ((4 : Nat) : Int) := by omega
        have ht1 : t + ((4 : Nat) : Int) ≤ ((n + 4 : Nat) : Int) := by omega
        have hp : (0 : Int) < (b : Int) := by omega
        obtain ⟨m, em, hm⟩ := fmod_nat l (m := (b : Int)) hp
        refine ⟨_, rfl, d, _, rfl, dget_left hl, _, rfl, _, _, rfl, rfl, (by show (b : Int) ≠ 0; omega), ?_⟩
        dsimp only
        rw [em]
        refine ⟨_, rfl, d, _, rfl, dget_left hl, _, rfl, _, _, rfl, rfl, wide_div (b := 62) (by omega) (by omega) (by decide) (by decide), _, rfl, d, _, rfl, dput_left hl, ?_⟩
        refine ⟨_, rfl, q m _ (by omega) ⟨_, c, _, upd_same, ?_, ht0, ht1⟩ fun b o e hb => by rw [upd_ne hb]; exact kp b o e hb⟩
        exact Int.ediv_nonneg l0 (by omega)
    · have hl := hd
      have kp : KeptS H H d := fun b o e _ => e
      have ht0 : 0 ≤ t := t0
      have ht1 : t ≤ ((n + 4 : Nat) : Int) := by omega
      have hp : (0 : Int) < (b : Int) := by omega
      obtain ⟨m, em, hm⟩ := fmod_nat l (m := (b : Int)) hp
      refine ⟨_, rfl, d, _, rfl, dget_left hl, _, rfl, _, _, rfl, rfl, (by show (b : Int) ≠ 0; omega), ?_⟩
      dsimp only
      rw [em]
      refine ⟨_, rfl, d, _, rfl, dget_left hl, _, rfl, _, _, rfl, rfl, wide_div (b := 62) (by omega) (by omega) (by decide) (by decide), _, rfl, d, _, rfl, dput_left hl, ?_⟩
      refine ⟨_, rfl, q m _ (by omega) ⟨_, c, _, upd_same, ?_, ht0, ht1⟩ fun b o e hb => by rw [upd_ne hb]; exact kp b o e hb⟩
      exact Int.ediv_nonneg l0 (by omega)
end
end K03
set_option Elab.async false
set_option linter.all false
set_option maxRecDepth 100000
set_option maxHeartbeats 1000000
/-! Cm: comprehensions that map or filter, read at once; a list compared with the empty one -/
namespace Cm
open PySem PySem.Spec PyProof.Rows L2
theorem same_upd {H1 H : Hp} {D : Addr} {o : HO} (s : Same H1 H) (hD : H1 D = none) : Same H1 (upd H D o) := fun b u e => by
  rw [upd_ne (ne_of_none e hD)]
  exact s b u e
section
variable {J : It} {n : Nat} {G : Hp → Prop} {Y : Nat → Hp → V → Hp → Prop} {σ : L2.St} {vs : List Nat} {H1 : Hp} {D : Addr} {Qd : Hp → Prop} {g : TG} {tt : TT} {te : TE}
/-- [f x for x in ..]: rs the results -/
theorem lc_map (w : Walk J n G Y) (rs : List V) (hn : rs.length = n) (hz : n ≤ sizeLine) (hD : H1 D = none) (hG : ∀ H, Same H1 H → G H)
    (hs : ∀ i r x H H' (Qk : VK) (N : Hp → Prop), rs[i]? = some r → Same H1 H → Y i H x H' → (∀ H4, Same H H4 → Qk r H4) → g x (wipe σ vs) H' fun σ2 H2 => wipe σ2 vs = wipe σ vs ∧ tt σ2 H2 fun b H3 => if b = true then te σ2 H3 Qk else N H3)
    (hd : ∀ H, Same H1 H → H D = some (.lst rs) → Qd H) :
    ∃ W : Nat → Nat → Hp → Prop, (∃ m, W 0 m (upd H1 D (.lst []))) ∧ ∀ i m H, W i m H →
      (J.stop i H ∧ Qd H) ∨ (J.go i H ∧ ∃ Nx : Hp → Prop, (∀ H', Nx H' → ∃ m', m' < m ∧ W (i + 1) m' H') ∧ ∀ x H', J.yld i H x H' → g x (wipe σ vs) H' fun σ2 H2 => wipe σ2 vs = wipe σ vs ∧ tt σ2 H2 fun b H3 =>
        if b = true then te σ2 H3 fun y H4 => ∃ acc, H4 D = some (.lst acc) ∧ acc.length < sizeLine ∧ Nx (upd H4 D (.lst (acc ++ [y]))) else Nx H3) := by
  refine lc_it w (fun i H => Same H1 H ∧ H D = some (.lst (rs.take i))) ⟨same_upd (fun b o e => e) hD, by rw [List.take_zero]; exact upd_same⟩ (fun i H _ h => hG H h.1) (fun i x H H' hi h y => ?_) (fun H h => ?_)
  · have hr : rs[i]? = some (rs[i]'(by omega)) := List.getElem?_eq_getElem (by omega)
    refine hs i _ x H H' _ _ hr h.1 y fun H4 s4 => ⟨rs.take i, s4 _ _ h.2, by rw [List.length_take]; omega, same_upd (fun b o e => s4 _ _ (h.1 b o e)) hD, ?_⟩
    rw [upd_same, List.take_succ, hr]
    rfl
  · refine hd H h.1 ?_
    rw [h.2, ← hn, List.take_length]
/-- [x for x in .. if p x] -/
theorem lc_filt (w : Walk J n G Y) (xs : List V) (p : V → Bool) (hn : xs.length = n) (hz : n ≤ sizeLine) (hD : H1 D = none) (hG : ∀ H, Same H1 H → G H)
    (hs : ∀ i y x H H' (Qk : VK) (N : Hp → Prop), xs[i]? = some y → Same H1 H → Y i H x H' → (p y = true → ∀ H4, Same H H4 → Qk y H4) → (p y = false → ∀ H4, Same H H4 → N H4) → g x (wipe σ vs) H' fun σ2 H2 => wipe σ2 vs = wipe σ vs ∧ tt σ2 H2 fun b H3 => if b = true then te σ2 H3 Qk else N H3)
    (hd : ∀ H, Same H1 H → H D = some (.lst (xs.filter p)) → Qd H) :
    ∃ W : Nat → Nat → Hp → Prop, (∃ m, W 0 m (upd H1 D (.lst []))) ∧ ∀ i m H, W i m H →
      (J.stop i H ∧ Qd H) ∨ (J.go i H ∧ ∃ Nx : Hp → Prop, (∀ H', Nx H' → ∃ m', m' < m ∧ W (i + 1) m' H') ∧ ∀ x H', J.yld i H x H' → g x (wipe σ vs) H' fun σ2 H2 => wipe σ2 vs = wipe σ vs ∧ tt σ2 H2 fun b H3 =>
        if b = true then te σ2 H3 fun y H4 => ∃ acc, H4 D = some (.lst acc) ∧ acc.length < sizeLine ∧ Nx (upd H4 D (.lst (acc ++ [y]))) else Nx H3) := by
  refine lc_it w (fun i H => Same H1 H ∧ H D = some (.lst ((xs.take i).filter p))) ⟨same_upd (fun b o e => e) hD, by rw [List.take_zero]; exact upd_same⟩ (fun i H _ h => hG H h.1) (fun i x H H' hi h y => ?_) (fun H h => ?_)
  · have hr : xs[i]? = some (xs[i]'(by omega)) := List.getElem?_eq_getElem (by omega)
    have hlen : ((xs.take i).filter p).length < sizeLine := Nat.lt_of_le_of_lt (List.length_filter_le _ _) (by rw [List.length_take]; omega)
    have e1 : (xs.take (i + 1)).filter p = (xs.take i).filter p ++ (if p (xs[i]'(by omega)) = true then [xs[i]'(by omega)] else []) := by
      rw [List.take_succ, hr, List.filter_append]
      congr 1
      show [xs[i]'(by omega)].filter p = _
      cases hp : p (xs[i]'(by omega)) <;> simp [List.filter, hp]
    refine hs i _ x H H' _ _ hr h.1 y (fun hp H4 s4 => ⟨_, s4 _ _ h.2, hlen, same_upd (fun b o e => s4 _ _ (h.1 b o e)) hD, ?_⟩) (fun hp H4 s4 => ⟨fun b o e => s4 _ _ (h.1 b o e), ?_⟩)
    · rw [upd_same, e1, if_pos hp]
    · rw [e1, if_neg (by rw [hp]; exact Bool.false_ne_true), List.append_nil]
      exact s4 _ _ h.2
  · refine hd H h.1 ?_
    rw [h.2, ← hn, List.take_length]
/-- [.. for x in .. if ..]: whether it is empty -/
theorem lc_none (w : Walk J n G Y) (bs : List Bool) (hn : bs.length = n) (hz : n ≤ sizeLine) (hD : H1 D = none) (hG : ∀ H, Same H1 H → G H)
    (hs : ∀ i b x H H' (Qk : VK) (N : Hp → Prop), bs[i]? = some b → Same H1 H → Y i H x H' → (b = true → ∀ y H4, Same H H4 → Qk y H4) → (b = false → ∀ H4, Same H H4 → N H4) → g x (wipe σ vs) H' fun σ2 H2 => wipe σ2 vs = wipe σ vs ∧ tt σ2 H2 fun b H3 => if b = true then te σ2 H3 Qk else N H3)
    (hd : ∀ H ys, Same H1 H → H D = some (.lst ys) → ys.isEmpty = bs.all (fun b => !b) → Qd H) :
    ∃ W : Nat → Nat → Hp → Prop, (∃ m, W 0 m (upd H1 D (.lst []))) ∧ ∀ i m H, W i m H →
      (J.stop i H ∧ Qd H) ∨ (J.go i H ∧ ∃ Nx : Hp → Prop, (∀ H', Nx H' → ∃ m', m' < m ∧ W (i + 1) m' H') ∧ ∀ x H', J.yld i H x H' → g x (wipe σ vs) H' fun σ2 H2 => wipe σ2 vs = wipe σ vs ∧ tt σ2 H2 fun b H3 =>
        if b = true then te σ2 H3 fun y H4 => ∃ acc, H4 D = some (.lst acc) ∧ acc.length < sizeLine ∧ Nx (upd H4 D (.lst (acc ++ [y]))) else Nx H3) := by
  refine lc_it w (fun i H => Same H1 H ∧ ∃ ys, H D = some (.lst ys) ∧ ys.length ≤ i ∧ ys.isEmpty = (bs.take i).all (fun b => !b)) ⟨same_upd (fun b o e => e) hD, [], upd_same, Nat.le_refl _, rfl⟩ (fun i H _ h => hG H h.1) (fun i x H H' hi h y => ?_) (fun H h => ?_)
  · obtain ⟨sm, ys, e, hl, em⟩ := h
    have hr : bs[i]? = some (bs[i]'(by omega)) := List.getElem?_eq_getElem (by omega)
    have e1 : (bs.take (i + 1)).all (fun b => !b) = ((bs.take i).all (fun b => !b) && !(bs[i]'(by omega))) := by
      rw [List.take_succ, hr, List.all_append]
      show ((bs.take i).all (fun b => !b) && ((!(bs[i]'(by omega))) && true)) = _
      rw [Bool.and_true]
    refine hs i _ x H H' _ _ hr sm y (fun hb y H4 s4 => ⟨ys, s4 _ _ e, by omega, same_upd (fun b o e => s4 _ _ (sm b o e)) hD, ys ++ [y], upd_same, by rw [List.length_append]; show ys.length + 1 ≤ _; omega, ?_⟩) (fun hb H4 s4 => ⟨fun b o e => s4 _ _ (sm b o e), ys, s4 _ _ e, by omega, ?_⟩)
    · rw [e1, hb]
      simp
    · rw [e1, hb, em]
      simp
  · obtain ⟨sm, ys, e, hl, em⟩ := h
    rw [← hn, List.take_length] at em
    exact hd H ys sm e em
end
section
variable {X : Cx}
/-- xs == [] -/
theorem op_eqE (hu : X.A.units + 64 < cLine) : OpR X (compareOp .Eq) (fun x y H Q => ∃ a b xs, x = .ref a ∧ y = .ref b ∧ H a = some (.lst xs) ∧ H b = some (.lst []) ∧ Q (.bl xs.isEmpty) H) := by
  intro pins s σ H x y v u Q I rx ry h
  obtain ⟨a, b, xs, rfl, rfl, ha, hb, q⟩ := h
  cases xs with
  | nil => exact op_eqD hu pins s σ H _ _ v u Q I rx ry ⟨.list [], .list [], .lst (SqL.of ha) .nil, .lst (SqL.of hb) .nil, by decide +kernel, by decide +kernel, by
      have e : PyData.eqv (.list []) (.list []) = true := by decide +kernel
      rw [e]
      exact q⟩
  | cons z zs =>
    obtain ⟨its, n, r, e, _⟩ := I.lst ha
    obtain ⟨its2, n2, r2, e2, _⟩ := I.lst hb
    cases rx
    cases ry
    cases r2
    cases r with
    | cons r0 r1 =>
      refine P.eq_list_lengths (items := _) (items2 := _) e e2 (by simp) (by omega) ⟨.bl false, H, I, rfl, q⟩
/-- x is True -/
theorem is_true_gen {M : Model} {A : Around} {E : Value → Shared → Prop} {s : Shared} {Q : Value → Shared → Prop} {x : V} {v : Value} (r : RelV x v) (h : Q (.bool (decide (x = .bl true))) s) : wpAny M A (compareOp .Is v (.bool true)) Q E s := by
  cases x with
  | non => cases r; exact wpAny_pure (by rw [show decide (V.non = V.bl true) = false from rfl] at h; exact h)
  | bl b =>
    cases r
    refine PyProof.Rows.is_bool ?_
    have e : (b == true) = decide (V.bl b = V.bl true) := by cases b <;> rfl
    rw [e]
    exact h
  | int z =>
    obtain ⟨t, rfl⟩ := r
    rw [decide_eq_false (fun z => by cases z)] at h
    exact wpAny_pure h
  | str z =>
    obtain ⟨t, rfl⟩ := r
    rw [decide_eq_false (fun z => by cases z)] at h
    exact wpAny_pure h
  | byt z =>
    obtain ⟨t, rfl⟩ := r
    rw [decide_eq_false (fun z => by cases z)] at h
    exact wpAny_pure h
  | flt z =>
    obtain ⟨t, rfl⟩ := r
    rw [decide_eq_false (fun z => by cases z)] at h
    exact wpAny_pure h
  | ref a =>
    cases r
    rw [decide_eq_false (fun z => by cases z)] at h
    exact wpAny_pure h
  | ty n =>
    cases r
    rw [decide_eq_false (fun z => by cases z)] at h
    exact wpAny_pure h
def tIsT (ta : TE) : TE := fun σ H Q => ta σ H fun x H1 => Q (.bl (decide (x = .bl true))) H1
theorem pc_isT {a : Expr} {ta : TE} {j pos'} (ha : PE X a ta) : PC X .Is a (.Constant (.bool true) j pos') (tIsT ta) := by
  refine ⟨fun pins s σ H Q I h => ?_⟩
  refine thn (ha.run pins s σ H _ I h) fun v s1 ⟨x, H1, I1, r1, q1⟩ => ?_
  exact Constant_bool (is_true_gen r1 ⟨.bl _, H1, I1, rfl, q1⟩)
/-- an expression that is never come to -/
theorem pe_never {e : Expr} : PE X e (fun _ _ _ => False) := ⟨fun _ _ _ _ _ _ h => h.elim⟩
theorem op_neE (hu : X.A.units + 64 < cLine) : OpR X (compareOp .Eq) (fun x y H Q => ∃ a b xs, x = .ref a ∧ y = .ref b ∧ H a = some (.lst xs) ∧ H b = some (.lst []) ∧ Q (.bl xs.isEmpty) H) := op_eqE hu
end
end Cm
set_option Elab.async false
set_option linter.all false
set_option maxRecDepth 100000
set_option maxHeartbeats 1000000
namespace K03
open PySem L2 Xo
/-! ### values as data -/
inductive PT | non | bl (b : Bool) | int (z : Int) | str (s : Str) | tup (l : List PT) | oth
def PT.isInt : PT → Bool
  | .int _ => true
  | _ => false
def PT.isBl : PT → Bool
  | .bl _ => true
  | _ => false
def PT.isStr : PT → Bool
  | .str _ => true
  | _ => false
def PT.isTup : PT → Bool
  | .tup _ => true
  | _ => false
def PT.isNon : PT → Bool
  | .non => true
  | _ => false
/-- an instance of an own class: no built-in kind -/
structure InsB (K : PySem.W.Frag) (C : Addr) : Prop where
  cl : Cls K C
  ha : PySem.W.findIn K (.ref C) "__class__" = some (some (.builtin "object.__class__"))
  hn : PySem.W.specialIn K (.builtin "object.__class__") "__get__" = some (some (.builtin "getset_descriptor.__get__"))
  htk : PySem.W.takesIn K (.builtin "object.__class__") = some true
  hm : PySem.W.mroIn K C (.type "object") = some true
  ki : PySem.W.kitOne K (.ref C) (.type "int") = some false
  kb : PySem.W.kitOne K (.ref C) (.type "bool") = some false
  ks : PySem.W.kitOne K (.ref C) (.type "str") = some false
  kt : PySem.W.kitOne K (.ref C) (.type "tuple") = some false
  kk : ∀ CK, PySem.W.nsIn K mainGlobals "Key" = some (some (.ref CK)) → PySem.W.kitOne K (.ref C) (.ref CK) = some false
mutual
inductive RT (K : PySem.W.Frag) (H : Hp) : V → PT → Prop
  | non : RT K H .non .non
  | bl (b : Bool) : RT K H (.bl b) (.bl b)
  | int (z : Int) : RT K H (.int z) (.int z)
  | str (s : Str) (h : s.length ≤ 1000) : RT K H (.str s) (.str s)
  | tup {a : Addr} {vs : List V} {ts : List PT} (h : H a = some (.tup vs)) (r : RTs K H vs ts) (hl : vs.length ≤ 1000) : RT K H (.ref a) (.tup ts)
  | lst {a : Addr} {vs : List V} (h : H a = some (.lst vs)) : RT K H (.ref a) .oth
  | dk {a : Addr} {kvs : List (Key × V)} (h : H a = some (.dK kvs)) : RT K H (.ref a) .oth
  | ins {a C dx : Addr} {fs : List (Str × V)} (h : H a = some (.ins C dx fs)) (b : InsB K C) : RT K H (.ref a) .oth
inductive RTs (K : PySem.W.Frag) (H : Hp) : List V → List PT → Prop
  | nil : RTs K H [] []
  | cons {v : V} {t : PT} {vs : List V} {ts : List PT} (h : RT K H v t) (r : RTs K H vs ts) : RTs K H (v :: vs) (t :: ts)
end
mutual
theorem RT.same {K : PySem.W.Frag} {H H' : Hp} (s : Same H H') : ∀ {v : V} {t : PT}, RT K H v t → RT K H' v t
  | _, _, .non => .non
  | _, _, .bl b => .bl b
  | _, _, .int z => .int z
  | _, _, .str x h => .str x h
  | _, _, .tup h r hl => .tup (s _ _ h) (r.same s) hl
  | _, _, .lst h => .lst (s _ _ h)
  | _, _, .dk h => .dk (s _ _ h)
  | _, _, .ins h b => .ins (s _ _ h) b
theorem RTs.same {K : PySem.W.Frag} {H H' : Hp} (s : Same H H') : ∀ {vs : List V} {ts : List PT}, RTs K H vs ts → RTs K H' vs ts
  | _, _, .nil => .nil
  | _, _, .cons h r => .cons (h.same s) (r.same s)
end
theorem RTs.length {K : PySem.W.Frag} {H : Hp} : ∀ {vs : List V} {ts : List PT}, RTs K H vs ts → vs.length = ts.length
  | _, _, .nil => rfl
  | _, _, .cons _ r => by rw [List.length_cons, List.length_cons, r.length]
theorem RTs.get {K : PySem.W.Frag} {H : Hp} : ∀ {vs : List V} {ts : List PT} {i : Nat} {v : V}, RTs K H vs ts → vs[i]? = some v → ∃ t, ts[i]? = some t ∧ RT K H v t
  | _, _, _, _, .nil, e => by simp at e
  | _, _, 0, _, .cons h _, e => by simp at e; subst e; exact ⟨_, rfl, h⟩
  | _, _, i + 1, _, .cons _ r, e => by
    obtain ⟨t, h1, h2⟩ := RTs.get (i := i) r (by simpa using e)
    exact ⟨t, by simpa using h1, h2⟩
theorem RTs.app {K : PySem.W.Frag} {H : Hp} {v : V} {t : PT} : ∀ {vs : List V} {ts : List PT}, RTs K H vs ts → RT K H v t → RTs K H (vs ++ [v]) (ts ++ [t])
  | _, _, .nil, h => .cons h .nil
  | _, _, .cons h0 r, h => .cons h0 (r.app h)
/-- what isinstance answers of such a value -/
theorem rt_ty {K : PySem.W.Frag} {H : Hp} {v : V} {t : PT} (h : RT K H v t) : ∃ tv : Value, TyX K H v tv ∧ PySem.W.kitOne K tv (.type "int") = some (t.isInt || t.isBl) ∧ PySem.W.kitOne K tv (.type "bool") = some t.isBl ∧ PySem.W.kitOne K tv (.type "str") = some t.isStr ∧ PySem.W.kitOne K tv (.type "tuple") = some t.isTup := by
  cases h with
  | non => exact ⟨.type "NoneType", .base .non, kit_ty (r := false) (by decide +kernel), kit_ty (r := false) (by decide +kernel), kit_ty (r := false) (by decide +kernel), kit_ty (r := false) (by decide +kernel)⟩
  | bl b => exact ⟨.type "bool", .base (.bl _), kit_ty (r := true) (by decide +kernel), kit_ty (r := true) (by decide +kernel), kit_ty (r := false) (by decide +kernel), kit_ty (r := false) (by decide +kernel)⟩
  | int z => exact ⟨.type "int", .base (.int _), kit_ty (r := true) (by decide +kernel), kit_ty (r := false) (by decide +kernel), kit_ty (r := false) (by decide +kernel), kit_ty (r := false) (by decide +kernel)⟩
  | str s h => exact ⟨.type "str", .base (.str _), kit_ty (r := false) (by decide +kernel), kit_ty (r := false) (by decide +kernel), kit_ty (r := true) (by decide +kernel), kit_ty (r := false) (by decide +kernel)⟩
  | tup h r hl => exact ⟨.type "tuple", .base (.tup h), kit_ty (r := false) (by decide +kernel), kit_ty (r := false) (by decide +kernel), kit_ty (r := false) (by decide +kernel), kit_ty (r := true) (by decide +kernel)⟩
  | lst h => exact ⟨.type "list", .base (.lst h), kit_ty (r := false) (by decide +kernel), kit_ty (r := false) (by decide +kernel), kit_ty (r := false) (by decide +kernel), kit_ty (r := false) (by decide +kernel)⟩
  | dk h => exact ⟨.type "dict", .base (.dK h), kit_ty (r := false) (by decide +kernel), kit_ty (r := false) (by decide +kernel), kit_ty (r := false) (by decide +kernel), kit_ty (r := false) (by decide +kernel)⟩
  | ins h b => exact ⟨_, .base (.ins h b.cl b.ha b.hn b.htk b.hm), b.ki, b.kb, b.ks, b.kt⟩
/-- more built-ins -/
structure Bk (mg : Str → Option Value) : Prop where
  all : mg "all" = none
  ord : mg "ord" = none
  str : mg "str" = none
section
variable {P : Program} {w : World} {K : PySem.W.Frag} {mg : Str → Option Value} {base : Heap}
theorem pTy {X : Cx} {t : String} {pos : Pos} (hg : Gl X (Str.ofString t)) (hm : X.mg (Str.ofString t) = none) (hv : bootBuiltins (Str.ofString t) = some (.type t)) (hn : Str.ofString t ≠ "__name__" := by decide) (hd : (Str.ofString t == ("__debug__" : Str)) = false := by decide) : PE X (.Name (Str.ofString t) pos) (tC (.ty t)) := pe_bltn (v := .ty t) (u := .type t) hg hm hv rfl hn hd
/-! ### is_whole, is_between, is_code, need_code -/
abbrev sWhole : Stmt := top 14
abbrev sBetween : Stmt := top 15
abbrev sCode : Stmt := top 18
abbrev sNeedCode : Stmt := top 19
def spWhole (K : PySem.W.Frag) : Sp := fun vs H Q _ => ∃ (v : V) (t : PT), vs = [v] ∧ RT K H v t ∧ Q (.bl t.isInt) H
theorem scWhole : FnScope ["thing"] ["thing"] (defScope sWhole) := ⟨rfl, rfl, rfl, by decide +kernel, rfl, by decide +kernel, by decide +kernel⟩
theorem ok_whole {f : Addr} {fd : FuncData} (D : Df K mg "is_whole" "is_whole" sWhole ["thing"] f fd) (T : Bl mg) : FnOk P w K mg base CX0 1 f fd ["thing"] (spWhole K) := by
  refine D.F.ok scWhole (fun vs H Q E h => ?_) (fun cdv A outer s H vs Q E hr h => ?_)
  · obtain ⟨v, t, rfl, _⟩ := h
    rfl
  · obtain ⟨v, t, rfl, o, k⟩ := h
    obtain ⟨tv, ty, e1, e2, _⟩ := rt_ty o
    refine ⟨_, pss_one (ps_ret (pe_and (pe_callB call_isi (by rfl) T.isinstance (by decide +kernel) (pa_cons (pv 0) (pa_cons (pInt (by rfl) T.int) pa_nil)))
      (pe_one (pe_not (pe_callB call_isi (by rfl) T.isinstance (by decide +kernel) (pa_cons (pv 0) (pa_cons (pBool (by rfl) T.bool) pa_nil))))))), ?_⟩
    refine ⟨_, rfl, _, _, _, _, _, rfl, .ty _, ty, e1, _, rfl, ?_⟩
    refine ite2 (fun e => ?_) (fun e => ?_)
    · refine ⟨_, rfl, _, _, _, _, _, rfl, .ty _, ty, e2, _, rfl, ?_⟩
      have : (!t.isBl) = t.isInt := by
        cases t <;> first | rfl | simp_all [PT.isInt, PT.isBl]
      rw [this]
      exact k
    · have : t.isInt = false := by
        cases t <;> first | rfl | simp_all [PT.isInt, PT.isBl]
      rw [this] at k
      exact k
/-- lo <= t <= hi -/
def btw (t : PT) (lo hi : Int) : Bool := match t with
  | .int n => decide (lo ≤ n) && decide (n ≤ hi)
  | _ => false
def spBetween (K : PySem.W.Frag) : Sp := fun vs H Q _ => ∃ (v : V) (t : PT) (lo hi : Int), vs = [v, .int lo, .int hi] ∧ RT K H v t ∧ Q (.bl (btw t lo hi)) H
theorem scBetween : FnScope ["thing", "low", "high"] ["thing", "low", "high"] (defScope sBetween) := ⟨rfl, rfl, rfl, by decide +kernel, rfl, by decide +kernel, by decide +kernel⟩
theorem rt_int {H : Hp} {v : V} {t : PT} (h : RT K H v t) (e : t.isInt = true) : ∃ n, v = .int n ∧ t = .int n := by
  cases h with
  | int z => exact ⟨z, rfl, rfl⟩
  | _ => cases e
theorem ok_between {f f1 : Addr} {fd fd1 : FuncData} (D : Df K mg "is_between" "is_between" sBetween ["thing", "low", "high"] f fd) (D1 : Df K mg "is_whole" "is_whole" sWhole ["thing"] f1 fd1) (G1 : FnOk P w K mg base CX0 1 f1 fd1 ["thing"] (spWhole K)) :
    FnOk P w K mg base CX0 2 f fd ["thing", "low", "high"] (spBetween K) := by
  refine D.F.ok scBetween (fun vs H Q E h => ?_) (fun cdv A outer s H vs Q E hr h => ?_)
  · obtain ⟨n, t, lo, hi, rfl, _⟩ := h
    rfl
  · obtain ⟨v, t, lo, hi, rfl, o, k⟩ := h
    refine ⟨_, pss_one (ps_ret (pe_and (pe_call G1 hr rfl D1.g D1.F.kp D1.b .nil pass0 (pa_cons (pv 0) pa_nil)) (pe_one (pe_chain op_le op_le (pv 1) (pv 0) (pv 2))))), ?_⟩
    refine ⟨_, rfl, _, _, rfl, o, _, rfl, ?_⟩
    refine ite2 (fun e => ?_) (fun e => ?_)
    · obtain ⟨n, rfl, rfl⟩ := rt_int o e
      refine ⟨_, rfl, _, rfl, _, _, rfl, rfl, _, rfl, ?_⟩
      have k : Q (.bl (decide (lo ≤ n) && decide (n ≤ hi))) H := k
      refine ite2 (fun e => ?_) (fun e => ?_)
      · refine ⟨_, rfl, _, _, rfl, rfl, ?_⟩
        rw [e, Bool.true_and] at k
        exact k
      · rw [Bool.eq_false_iff.mpr e, Bool.false_and] at k
        exact k
    · have : btw t lo hi = false := by
        cases t <;> first | rfl | exact absurd rfl e
      rw [this] at k
      exact k
/-- is it a code -/
def PT.isCode (t : PT) : Bool := btw t 0 4294967295
theorem code_int {t : PT} (h : t.isCode = true) : ∃ n : Nat, t = .int (n : Int) ∧ n < 4294967296 := by
  cases t with
  | int z =>
    have h : (decide (0 ≤ z) && decide (z ≤ 4294967295)) = true := h
    rw [Bool.and_eq_true, decide_eq_true_iff, decide_eq_true_iff] at h
    refine ⟨z.toNat, ?_, by omega⟩
    congr 1
    omega
  | _ => cases h
theorem code_nat {n : Nat} (h : n < 4294967296) : PT.isCode (.int (n : Int)) = true := by
  show (decide ((0 : Int) ≤ n) && decide ((n : Int) ≤ 4294967295)) = true
  rw [decide_eq_true (by omega), decide_eq_true (by omega)]
  rfl
def spCode (K : PySem.W.Frag) : Sp := fun vs H Q _ => ∃ (v : V) (t : PT), vs = [v] ∧ RT K H v t ∧ Q (.bl t.isCode) H
theorem scCode : FnScope ["thing"] ["thing"] (defScope sCode) := ⟨rfl, rfl, rfl, by decide +kernel, rfl, by decide +kernel, by decide +kernel⟩
theorem ok_code {f f1 : Addr} {fd fd1 : FuncData} {t : Tok} (D : Df K mg "is_code" "is_code" sCode ["thing"] f fd) (D1 : Df K mg "is_between" "is_between" sBetween ["thing", "low", "high"] f1 fd1) (G1 : FnOk P w K mg base CX0 2 f1 fd1 ["thing", "low", "high"] (spBetween K))
    (mC : mg "CODES" = some (.int 4294967296 t)) : FnOk P w K mg base CX0 3 f fd ["thing"] (spCode K) := by
  refine D.F.ok scCode (fun vs H Q E h => ?_) (fun cdv A outer s H vs Q E hr h => ?_)
  · obtain ⟨n, t, rfl, _⟩ := h
    rfl
  · obtain ⟨v, t, rfl, o, k⟩ := h
    refine ⟨_, pss_one (ps_ret (pe_call G1 hr rfl D1.g D1.F.kp D1.b .nil pass0 (pa_cons (pv 0) (pa_cons pe_int (pa_cons (pe_op op_sub (pe_glob (v := .int 4294967296) rfl mC ⟨_, rfl⟩) pe_int) pa_nil))))), ?_⟩
    exact ⟨_, rfl, _, _, rfl, rfl, _, _, _, _, rfl, o, k⟩
/-- a class of errors, as this text has it -/
structure XK (P : Program) (w : World) (K : PySem.W.Frag) (mg : Str → Option Value) (base : Heap) (name : Str) (C : Addr) (fld : Str) : Prop where
  g : mg name = some (.ref C)
  T : XC K C
  no : PySem.W.findIn K (.ref C) fld = some none
  ini : ∃ (fI : Addr) (fd : FuncData), PySem.W.findIn K (.ref C) "__init__" = some (some (.ref fI)) ∧ PySem.W.typeIn K (.ref fI) = some (.type "function") ∧ Binds K fd ["self", fld] [] ∧ FnOk P w K mg base CX0 1 fI fd ["self", fld] (spXI K fld)
theorem XK.to {X : Cx} {name : Str} {C : Addr} {fld : Str} (h : XK X.prog X.w X.K X.mg X.base name C fld) : XI X C fld := ⟨h.T, h.no, h.ini⟩
/-- the way out by an error of the class at C -/
def OutE (C : Addr) (fld : Str) (H : Hp) (E : L2.XK) : Prop := ∀ (d : Addr) (y : V), H d = none → E (.ref C) (some d) (upd H d (.xd [(fld, y)]))
def spNeedCode (K : PySem.W.Frag) (C : Addr) : Sp := fun vs H Q E => ∃ (v : V) (t : PT), vs = [v] ∧ RT K H v t ∧ (t.isCode = true → Q .non H) ∧ (t.isCode = false → OutE C "reason" H E)
theorem scNeedCode : FnScope ["thing"] ["thing"] (defScope sNeedCode) := ⟨rfl, rfl, rfl, by decide +kernel, rfl, by decide +kernel, by decide +kernel⟩
theorem ok_needCode {f f1 C : Addr} {fd fd1 : FuncData} (D : Df K mg "need_code" "need_code" sNeedCode ["thing"] f fd) (D1 : Df K mg "is_code" "is_code" sCode ["thing"] f1 fd1) (G1 : FnOk P w K mg base CX0 3 f1 fd1 ["thing"] (spCode K)) (x : XK P w K mg base "BadCode" C "reason") :
    FnOk P w K mg base (L2.CX P w) 4 f fd ["thing"] (spNeedCode K C) := by
  refine D.F.okX scNeedCode (fun vs H Q E h => ?_) (fun cdv A outer s H vs Q E hr h => ?_)
  · obtain ⟨n, t, rfl, _⟩ := h
    rfl
  · obtain ⟨v, t, rfl, o, k1, k2⟩ := h
    refine ⟨_, pss_one (ps_if (pt_not (pt_val (pe_call G1 hr rfl D1.g D1.F.kp D1.b .nil pass0 (pa_cons (pv 0) pa_nil)))) (pss_one (ps_raise rfl (takes_of rfl rfl rfl rfl) (pmk_x (XK.to x) (hr.mono (by decide)) rfl x.g (pa_cons pe_str pa_nil)))) pss_nil), ?_⟩
    refine ⟨_, rfl, _, _, rfl, o, _, rfl, ?_⟩
    cases hc : t.isCode with
    | false => exact iteYes rfl ⟨_, rfl, fun d hd => k2 hc d _ hd⟩
    | true => exact iteNo rfl (k1 hc)
/-! ### texts -/
abbrev sText : Stmt := top 16
abbrev sSign : Stmt := top 17
def okSign (n : Nat) : Bool := decide (32 ≤ n) && decide (n ≤ 126) && !decide (n = 37)
def PT.okText : PT → Bool
  | .str s => decide (s.length ≤ 40) && s.cps.toList.all okSign
  | _ => false
/-- the constants -/
structure Ck (mg : Str → Option Value) : Prop where
  codes : ∃ t, mg "CODES" = some (.int 4294967296 t)
  signs : ∃ t, mg "MAX_SIGNS" = some (.int 40 t)
  first : ∃ t, mg "FIRST_SIGN" = some (.int 32 t)
  last : ∃ t, mg "LAST_SIGN" = some (.int 126 t)
  perc : ∃ t, mg "PERCENT_SIGN" = some (.int 37 t)
def spSign : Sp := fun vs H Q _ => ∃ n : Nat, vs = [.int (n : Int)] ∧ Q (.bl (okSign n)) H
theorem scSign : FnScope ["number"] ["number"] (defScope sSign) := ⟨rfl, rfl, rfl, by decide +kernel, rfl, by decide +kernel, by decide +kernel⟩
theorem ok_sign {f : Addr} {fd : FuncData} (D : Df K mg "_is_sign" "_is_sign" sSign ["number"] f fd) (C : Ck mg) : FnOk P w K mg base CX0 1 f fd ["number"] spSign := by
  obtain ⟨t1, c1⟩ := C.first
  obtain ⟨t2, c2⟩ := C.last
  obtain ⟨t3, c3⟩ := C.perc
  refine D.F.ok scSign (fun vs H Q E h => ?_) (fun cdv A outer s H vs Q E hr h => ?_)
  · obtain ⟨n, rfl, _⟩ := h
    rfl
  · obtain ⟨n, rfl, k⟩ := h
    refine ⟨_, pss_one (ps_ret (pe_and (pe_chain op_le op_le (pe_glob (v := .int 32) rfl c1 ⟨_, rfl⟩) (pv 0) (pe_glob (v := .int 126) rfl c2 ⟨_, rfl⟩)) (pe_one (pe_cmpR op_ne (pv 0) (pe_glob (v := .int 37) rfl c3 ⟨_, rfl⟩) (nomark _))))), ?_⟩
    refine ⟨_, rfl, _, _, rfl, rfl, _, rfl, ?_⟩
    unfold okSign at k
    have e1 : decide ((32 : Int) ≤ (n : Int)) = decide (32 ≤ n) := decide_eq_decide.mpr (by omega)
    have e2 : decide ((n : Int) ≤ (126 : Int)) = decide (n ≤ 126) := decide_eq_decide.mpr (by omega)
    refine ite2 (fun e => ?_) (fun e => ?_)
    · rw [← e1, e, Bool.true_and] at k
      refine ⟨_, _, rfl, rfl, _, rfl, ?_⟩
      refine ite2 (fun e => ?_) (fun e => ?_)
      · rw [← e2, e, Bool.true_and] at k
        refine ⟨_, rfl, rfl, ?_⟩
        have e3 : decide (V.int (n : Int) = V.int 37) = decide (n = 37) := decide_eq_decide.mpr ⟨fun h => by have := V.int.inj h; omega, fun h => by rw [h]; rfl⟩
        rw [e3]
        exact k
      · rw [← e2, Bool.eq_false_iff.mpr e, Bool.false_and] at k
        exact k
    · rw [← e1, Bool.eq_false_iff.mpr e, Bool.false_and, Bool.false_and] at k
      exact ⟨_, rfl, iteNo rfl k⟩
end
end K03
set_option Elab.async false
set_option linter.all false
set_option maxRecDepth 100000
set_option maxHeartbeats 2000000
namespace K03
open PySem L2 Xo
section
variable {P : Program} {w : World} {K : PySem.W.Frag} {mg : Str → Option Value} {base : Heap}
def spText (K : PySem.W.Frag) : Sp := fun vs H Q _ => ∃ (v : V) (t : PT), vs = [v] ∧ RT K H v t ∧ ∀ H', Same H H' → Q (.bl t.okText) H'
theorem scText : FnScope ["thing", "sign"] ["thing"] (defScope sText) := ⟨rfl, rfl, rfl, by decide +kernel, rfl, by decide +kernel, by decide +kernel⟩
theorem sign_at {s : Str} {i : Nat} {r : V} (h : ((s.cps.toList.map okSign).map V.bl)[i]? = some r) {c : Nat} (hc : s.cps[i]? = some c) : r = .bl (okSign c) := by
  have hc2 : s.cps.toList[i]? = some c := by
    rw [Array.getElem?_toList]
    exact hc
  rw [List.map_map, List.getElem?_map, hc2] at h
  exact (Option.some.inj h).symm
theorem ok_text {f f1 : Addr} {fd fd1 : FuncData} (D : Df K mg "is_text" "is_text" sText ["thing"] f fd) (B : Bl mg) (B2 : Bk mg) (C : Ck mg) (D1 : Df K mg "_is_sign" "_is_sign" sSign ["number"] f1 fd1) (G1 : FnOk P w K mg base CX0 1 f1 fd1 ["number"] spSign) :
    FnOk P w K mg base CX0 2 f fd ["thing"] (spText K) := by
  obtain ⟨t1, c1⟩ := C.signs
  refine D.F.ok scText (fun vs H Q E h => ?_) (fun cdv A outer s H vs Q E hr h => ?_)
  · obtain ⟨v, t, rfl, _⟩ := h
    rfl
  · obtain ⟨v, t, rfl, o, k⟩ := h
    obtain ⟨tv, ty, _, _, e3, _⟩ := rt_ty o
    refine ⟨_, pss_cons (ps_if (PW.pt (pw_or (pt_not (pt_val (pe_callB call_isi (by rfl) B.isinstance (by decide +kernel) (pa_cons (pv 0) (pa_cons (pTy (t := "str") (by rfl) B2.str (by decide +kernel)) pa_nil))))) (pw_or1 (pt_cmpR op_gt (pe_callB call_len_str (by rfl) B.len PySem.boot_len (pa_cons (pv 0) pa_nil)) (pe_glob (v := .int 40) rfl c1 ⟨_, rfl⟩) (nomark _))))) (pss_one (ps_ret pe_bl)) pss_nil)
      (pss_one (ps_ret (pe_callB (cr_all rfl) (by rfl) B2.all (by decide +kernel) (pa_cons (pe_lc (own := [("sign", 1)]) (g := gName 1) (tt := tYes) rfl scText.nd (pi_str (pv 0)) (blkOk_by (own := [("sign", 1)]) (N := ["thing", "sign"]) (sc := defScope sText) (by decide +kernel)) (fun _ _ _ _ _ => pg_name (i := 1) scText.nd rfl (Or.inl rfl)) (fun _ _ _ _ _ => pts_nil)
        (fun _ _ _ _ _ => pe_call G1 (hr.mono (by decide)) rfl D1.g D1.F.kp D1.b .nil pass0 (pa_cons (pe_callB call_ord (by rfl) B2.ord (by decide +kernel) (pa_cons (pv 1) pa_nil)) pa_nil))) pa_nil)))), ?_⟩
    refine ⟨_, rfl, _, _, _, _, _, rfl, .ty _, ty, e3, _, rfl, ?_⟩
    cases o with
    | str z hz =>
      refine iteNo rfl ?_
      have hz2 : z.length ≤ sizeLine := Nat.le_trans hz (by decide)
      refine ⟨_, rfl, z, rfl, hz2, _, _, rfl, rfl, _, rfl, ?_⟩
      have e : decide ((z.length : Int) > 40) = !decide (z.length ≤ 40) := by
        by_cases h : z.length ≤ 40
        · rw [decide_eq_true h, decide_eq_false (by omega)]; rfl
        · rw [decide_eq_false h, decide_eq_true (by omega)]; rfl
      rw [e]
      have k : ∀ H', Same H H' → Q (.bl (decide (z.length ≤ 40) && z.cps.toList.all okSign)) H' := k
      by_cases h : z.length ≤ 40
      · rw [decide_eq_true h] at k ⊢
        refine iteNo rfl ⟨_, rfl, z, rfl, fun Dl hD => ?_⟩
        refine Cm.lc_map (walk_str (z := z)) ((z.cps.toList.map okSign).map V.bl) (by rw [List.length_map, List.length_map, Array.length_toList]) hz2 hD (fun _ _ => trivial) (fun i r x H2 H3 Qk N hr2 sm hy hQ => ?_) (fun H2 sm hl => ?_)
        · obtain ⟨rfl, c, hc, rfl⟩ := hy
          have hr3 := sign_at hr2 hc
          subst hr3
          refine ⟨rfl, ?_⟩
          exact ⟨_, rfl, _, rfl, rfl, c, rfl, hQ _ fun _ _ z => z⟩
        · refine ⟨_, z.cps.toList.map okSign, rfl, SqL.of hl, ?_⟩
          rw [List.all_map]
          exact k _ sm
      · rw [decide_eq_false h] at k ⊢
        exact iteYes rfl (k _ fun _ _ z => z)
    | non => exact iteYes rfl (k _ fun _ _ z => z)
    | bl b => exact iteYes rfl (k _ fun _ _ z => z)
    | int z => exact iteYes rfl (k _ fun _ _ z => z)
    | tup h r hl => exact iteYes rfl (k _ fun _ _ z => z)
    | lst h => exact iteYes rfl (k _ fun _ _ z => z)
    | dk h => exact iteYes rfl (k _ fun _ _ z => z)
    | ins h b => exact iteYes rfl (k _ fun _ _ z => z)
end
end K03
set_option Elab.async false
set_option linter.all false
set_option maxRecDepth 100000
set_option maxHeartbeats 1000000
/-! Xs: in an except suite: isinstance(e, C), e.f, e an own error with one field -/
namespace Xo
open PySem PySem.Spec PyProof.Rows L2
section
variable {X : Cx} {a : Addr} {oe : Obj} {cls : Value} {d : Option Addr} {pn : List (Addr × Obj)}
theorem pinned {pins : List (Addr × Obj)} {σ : L2.St} {H : Hp} {s : Shared} {C dd : Addr} {fs : List (Str × V)} (I : Inv (X.suite a ((a, oe) :: pn)) pins σ H s) (hz : Zc (.ref C) (some dd) oe) (hf : ∃ vs, oe.data = .fields vs) (e : H dd = some (.xd fs)) :
    ∃ od mA, PySem.W.InstAt s.heap a oe C (some od) ∧ s.heap.get? dd = some od ∧ s.heap.Ns1 dd mA ∧ ∀ f, RelO (fs.lookup f) (mA f) := by
  obtain ⟨vs, q3⟩ := hf
  obtain ⟨mA, n1, r⟩ := (show ObjOk X.prog X.w H s.heap dd (.xd fs) from I.hok dd _ e)
  obtain ⟨od, ho, hl⟩ := lookIn_ns n1
  have q1 : s.heap.get? a = some oe := (I.pin (a, oe) (List.mem_append_left _ (List.mem_cons_self ..))).1
  exact ⟨od, mA, ⟨q1, hz.1, by unfold PySem.W.notCls; rw [q3] <;> rfl, by rw [hz.2]; exact ho⟩, ho, n1, r⟩
def rIsS (K : PySem.W.Frag) (a : Addr) (cls : Value) (d : Option Addr) : List V → Hp → VK → Prop := fun xs H Q => ∃ (C dd : Addr) (fs : List (Str × V)) (c : V) (cv : Value) (b : Bool), xs = [.ref a, c] ∧ cls = .ref C ∧ d = some dd ∧ H dd = some (.xd fs) ∧ ExcC K C ∧ ClsV c cv ∧ PySem.W.kitOne K (.ref C) cv = some b ∧ Q (.bl b) H
theorem call_isS (hz : Zc cls d oe) (hf : ∃ vs, oe.data = .fields vs) : CallR (X.suite a ((a, oe) :: pn)) (.builtin "isinstance") (rIsS X.K a cls d) := by
  intro pins s σ H xs us Q I r h
  obtain ⟨C, dd, fs, c, cv, b, rfl, rfl, rfl, e, T, hc, ek, q⟩ := h
  obtain ⟨u1, u2, rfl, r1, r2⟩ := vals2 r
  obtain rfl : u1 = Value.ref a := r1
  obtain ⟨od, mA, J, _⟩ := pinned I hz hf e
  cases hc.eq r2
  exact PySem.W.kia_one (PySem.W.xi_kit T) I.kIn J ek (fun z => nomatch z) fun tk => ⟨.bl b, H, I.tok tk, rfl, q⟩
def tXfS (K : PySem.W.Frag) (a : Addr) (cls : Value) (d : Option Addr) (f : Str) (te : TE) : TE := fun σ H Q => te σ H fun x H1 => ∃ (C dd : Addr) (fs : List (Str × V)) (v : V), x = .ref a ∧ cls = .ref C ∧ d = some dd ∧ H1 dd = some (.xd fs) ∧ XC K C ∧ PySem.W.findIn K (.ref C) f = some none ∧ fs.lookup f = some v ∧ Q v H1
theorem pe_xfS {e : Expr} {te : TE} {n : Str} {pos : Pos} (hz : Zc cls d oe) (hf : ∃ vs, oe.data = .fields vs) (he : PE (X.suite a ((a, oe) :: pn)) e te) (hb : attributeBase e n X.env (eval e X.env) = eval e X.env := by rfl) : PE (X.suite a ((a, oe) :: pn)) (.Attribute e n pos) (tXfS X.K a cls d n te) := by
  refine ⟨fun pins s σ H Q I h => ?_⟩
  refine attr_of hb (thn (he.run pins s σ H _ I h) fun u s1 ⟨x, H1, I1, rx, C, dd, fs, v, ex, ec, ed, xa, T, hno, hl, q⟩ => ?_)
  subst ex ec ed
  obtain rfl : u = Value.ref a := rx
  obtain ⟨od, mA, J, ho, n1, r⟩ := pinned I1 hz hf xa
  obtain ⟨od', ho', hl'⟩ := lookIn_ns n1
  rw [ho] at ho'
  cases ho'
  obtain ⟨u, hu, ru⟩ := RelO.some_of (v := v) (o := mA n) (by rw [← hl]; exact r n)
  exact HandSPX.exc_get I1.kIn J T.ga T.gg T.exC (PySem.W.findObj_own T.hd hno rfl (by rw [hl', hu])) (handed_of ru) ⟨v, H1, I1.tok _, ru, q⟩
end
end Xo
set_option Elab.async false
set_option linter.all false
set_option maxRecDepth 100000
/-! Gd0: f() of a def that runs where no repr is under way -/
namespace Gd0
open PySem PySem.Spec PyProof.Rows L2
theorem pe_callG0 {X : Cx} {k : Nat} {f : Addr} {fd : FuncData} {ps : List Str} {sp : Sp} {x : Str} {p pos : Pos} (F : Gd.FnG X.prog X.w X.K X.mg X.base k f fd ps sp) (hr : Room k X.A) (hgd : X.A.guards = some []) (hg : Gl X x) (hm : X.mg x = some (.ref f)) (hk : PySem.W.keepIn X.K (.ref f) = true)
    (hb : Binds X.K fd ps []) (hdb : (x == ("__debug__" : Str)) = false := by decide) : PE X (.Call (.Name x p) [] [] pos) (tCall sp [] C8.E0 tNil) := by
  refine ⟨fun pins s σ H Q I h => ?_⟩
  refine wpAny_Call_Name_kw (ld_glob I hg hm ?_ hdb)
  refine PySem.W.callWith_K0 (first := []) I.kIn hk ?_
  have q : sp [] H Q C8.E0 := h
  have hl : ([] : List Value).length = ps.length := by rw [← F.len _ _ _ _ q]; rfl
  have hbt : BindsTo s fd ⟨[], []⟩ (ps.zip []) := by
    have z := hb s [] I.kIn (by rw [List.append_nil]; exact hl)
    rwa [List.append_nil] at z
  refine wpAny_call (codeAny_mono (F.run X.A X.stack s H ⟨[], []⟩ [] [] Q C8.E0 hr hgd I.env0 hbt .nil q) fun r' s' hq => ?_)
  cases r' with
  | error e => exact (show False from hq).elim
  | ok fl =>
    cases fl with
    | ret u => exact I.after hq
    | next => exact False.elim hq
    | brk => exact False.elim hq
    | cont => exact False.elim hq
end Gd0
set_option Elab.async false
set_option linter.all false
set_option maxRecDepth 100000
set_option maxHeartbeats 2000000
namespace K03
open PySem L2 Xo Lm LamX
/-- a def of the text, its code object at c -/
structure Dc (K : PySem.W.Frag) (mg : Str → Option Value) (name : Str) (st : Stmt) (ps : List Str) (f c : Addr) (fd : FuncData) : Prop where
  ex : ∃ (oc : Value) (od : Option Addr) (kV doc pm : Value) (an : Option Addr) (ct : Value) (osl : Array (Option Value)), fd = PySem.W.fnOf name name (defArgs st) (defBody st) (defScope st) .none kV doc pm an (.ref c) ct ∧
    K.lookup f = some ⟨oc, od, .func fd, osl⟩ ∧ PySem.W.codeIn K (.ref c) name = true
  kp : PySem.W.keepIn K (.ref f) = true
  b : Binds K fd ps []
  g : mg name = some (.ref f)
/-- a def that calls what it got -/
structure Dz (K : PySem.W.Frag) (mg : Str → Option Value) (name : Str) (st : Stmt) (a : Str) (sd : Addr) : Prop where
  g : mg name = some (.ref sd)
  kp : PySem.W.keepIn K (.ref sd) = true
  ex : ∃ (oc : Value) (od : Option Addr) (dV kV doc pm : Value) (an : Option Addr) (cdv ct : Value) (osl : Array (Option Value)), K.lookup sd = some ⟨oc, od, .func (PySem.W.fnOf name name (defArgs st) (defBody st) (defScope st) dV kV doc pm an cdv ct), osl⟩ ∧
    PySem.W.codeIn K cdv name = true ∧ Binds K (PySem.W.fnOf name name (defArgs st) (defBody st) (defScope st) dV kV doc pm an cdv ct) [a] []
section
variable {P : Program} {w : World} {K : PySem.W.Frag} {mg : Str → Option Value} {base : Heap}
theorem okGc {name : Str} {st : Stmt} {f c : Addr} {fd : FuncData} {N ps : List Str} {k : Nat} {sp : Sp} (D : Dc K mg name st ps f c fd) (S : FnScope N ps (defScope st)) (len : ∀ vs H Q E, sp vs H Q E → vs.length = ps.length)
    (hbody : ∀ (A : Around) (outer : List Env) (s : Shared) (H : Hp) (vs : List V) (Q : VK) (E : L2.XK), Room k (A.deeper (PyProof.Rows.envOfC name (defScope st) s.heap.objs.size f (.ref c))) → (A.deeper (PyProof.Rows.envOfC name (defScope st) s.heap.objs.size f (.ref c))).guards = some [] → sp vs H Q E →
      ∃ t, PSs (cxOf C8.CX0 P w K mg base N name (defScope st) f (.ref c) A outer s H E).nox (defBody st) t ∧ t { nx := fun _ H' => Q .non H', rt := Q } (L2.start N vs) H) : Gd.FnG P w K mg base (k + 1) f fd ps sp := by
  obtain ⟨oc, od, kV, doc, pm, an, ct, osl, rfl, lk, hcd⟩ := D.ex
  refine ⟨len, fun A outer s H args us vs Q E hr hgd e0 hb r h => run_ofS lk hcd S hr e0 hb r (len _ _ _ _ h) fun hr2 => ?_⟩
  obtain ⟨t, ht, q⟩ := hbody A outer s H vs Q E hr2 hgd h
  exact ⟨t, ht.nox, q⟩
theorem passF {X : Cx} : Passes (L2.CX X.prog X.w) X (fun _ _ _ => False) := fun _ _ _ _ _ _ _ c => by
  obtain ⟨_, _, _, _, _, _, _, _, _, _, _, _, z⟩ := c
  exact z.elim
end
mutual
theorem RT.ext {K : PySem.W.Frag} {H H' : Hp} (s : ExtN H H') : ∀ {v : V} {t : PT}, RT K H v t → RT K H' v t
  | _, _, .non => .non
  | _, _, .bl b => .bl b
  | _, _, .int z => .int z
  | _, _, .str x h => .str x h
  | _, _, .tup h r hl => .tup (s _ _ h fun ps z => by cases z) (r.ext s) hl
  | _, _, .lst h => .lst (s _ _ h fun ps z => by cases z)
  | _, _, .dk h => .dk (s _ _ h fun ps z => by cases z)
  | _, _, .ins h b => .ins (s _ _ h fun ps z => by cases z) b
theorem RTs.ext {K : PySem.W.Frag} {H H' : Hp} (s : ExtN H H') : ∀ {vs : List V} {ts : List PT}, RTs K H vs ts → RTs K H' vs ts
  | _, _, .nil => .nil
  | _, _, .cons h r => .cons (h.ext s) (r.ext s)
end
theorem Src.ext {H H1 : Hp} {s : Addr} {n : Nat} (h : Src H s n) (a : ExtN H H1) : Src H1 s n := by
  obtain ⟨l, c, t, h1, h2⟩ := h
  exact ⟨l, c, t, a _ _ h1 (fun ps z => by cases z), h2⟩
theorem tabS {H H' : Hp} {s : Addr} {n : Nat} {TT : List (Addr × Str)} (hs : Src H s n) (h : Tabs TT H) (kp : KeptS H H' s) : Tabs TT H' := by
  obtain ⟨l, c0, t, e0, _⟩ := hs
  intro p hp
  obtain ⟨ps, e, tr, f⟩ := h p hp
  refine ⟨ps, kp _ _ e (ne_of e e0 (by intro z; cases z)), tr, fun pos cv hc => ?_⟩
  obtain ⟨c, rfl, hc2⟩ := f pos cv hc
  exact ⟨c, rfl, kp _ _ hc2 (ne_of hc2 e0 (by intro z; cases z))⟩
theorem tabs_updL {H : Hp} {TT : List (Addr × Str)} {a : Addr} {o : HO} {xs : List V} (h : Tabs TT H) (ha : H a = some (.lst xs)) : Tabs TT (upd H a o) := by
  intro p hp
  obtain ⟨ps, e, tr, f⟩ := h p hp
  refine ⟨ps, by rw [upd_ne (ne_of e ha (by intro z; cases z))]; exact e, tr, fun pos cv hc => ?_⟩
  obtain ⟨c, rfl, hc2⟩ := f pos cv hc
  exact ⟨c, rfl, by rw [upd_ne (ne_of hc2 ha (by intro z; cases z))]; exact hc2⟩
theorem seqN {K : PySem.W.Frag} {H H' : Hp} {a : Addr} {xs : List V} (e : ExtN H H') (h : SqL K H a xs) : SqL K H' a xs := by
  rcases h with (h | ⟨o, h⟩) | h
  · exact .inl (.inl (e _ _ h fun ps z => by cases z))
  · exact .inl (.inr ⟨o, e _ _ h fun ps z => by cases z⟩)
  · exact .inr h
theorem dp_bools {K : PySem.W.Frag} {H : Hp} : ∀ bs : List Bool, DpAll K H (bs.map V.bl) (bs.map PyData.bool)
  | [] => .nil
  | b :: bs => .cons (.bl b) (dp_bools bs)
theorem cut_ints {ns : List Int} {lo hi : Option Int} {x : V} (h : x ∈ cutV (ns.map V.int) lo hi) : ∃ z, x = V.int z := by
  unfold cutV at h
  obtain ⟨z, _, rfl⟩ := List.mem_map.mp (List.mem_of_mem_drop (List.mem_of_mem_take h))
  exact ⟨z, rfl⟩
/-- all but the source and the tables stays -/
def KN (H H' : Hp) (s : Addr) : Prop := ∀ b o, H b = some o → b ≠ s → (∀ ps, o ≠ .tbl ps) → H' b = some o
theorem KN.trans {H H1 H2 : Hp} {s : Addr} (a : KN H H1 s) (b : KN H1 H2 s) : KN H H2 s := fun c o e h n => b c o (a c o e h n) h n
theorem KN.ofK {H H1 : Hp} {s : Addr} (a : KeptS H H1 s) : KN H H1 s := fun c o e h _ => a c o e h
theorem KN.ofE {H H1 : Hp} {s : Addr} (a : ExtN H H1) : KN H H1 s := fun c o e _ n => a c o e n
theorem KN.ofS {H H1 : Hp} {s : Addr} (a : Same H H1) : KN H H1 s := fun c o e _ _ => a c o e
theorem KN.ext {H0 H H1 : Hp} {s : Addr} (e : ExtN H0 H) (hs : H s = none) (k : KN H H1 s) : ExtN H0 H1 := fun b o h n => k b o (e b o h n) (ne_of_none (e b o h n) hs) n
def forBody (s : Stmt) : List Stmt := match s with
  | .For _ _ b _ _ => b
  | _ => []
abbrev qOf (n : Str) : Str := n ++ ".<locals>." ++ "<lambda>"
end K03
set_option Elab.async false
set_option linter.all false
set_option maxRecDepth 100000
set_option maxHeartbeats 2000000
/-! Wg: d.get(k, x) of a dict of the text -/
namespace Wg
open PySem PySem.Spec PyProof.Rows L2
def tWGet2 (K : PySem.W.Frag) (w : World) (td ty tx : TE) : TE := fun σ H Q => td σ H fun x H1 => ∃ (d : Addr) (es : Array DictEntry) (n : Nat), x = .ref d ∧ KDict K w d es n ∧ ty σ H1 fun y H2 => tx σ H2 fun z H3 =>
  ∃ (t : Str) (v : V), y = .str t ∧ ((∃ u, PySem.W.nsIn K d t = some (some u) ∧ RelV v u) ∨ (PySem.W.nsIn K d t = some none ∧ v = z)) ∧ Q v H3
section
variable {X : Cx} {o e f : Expr} {apos cpos : Pos} {td ty tx : TE}
theorem pe_wget2 (ho : PE X o td) (he : PE X e ty) (hf : PE X f tx) (m : M2 X o "get" apos e f cpos) : PE X (.Call (.Attribute o "get" apos) [e, f] [] cpos) (tWGet2 X.K X.w td ty tx) := by
  refine ⟨fun pins s σ H Q I h => ?_⟩
  refine wpAny_Call_method m.base m.few m.line PySem.F.plainAttrs_dict PySem.F.slot_dict_get PySem.F.type_dict_get (thn (ho.run pins s σ H _ I h) fun u s1 ⟨x, H1, I1, rx, d, es, n, ex, D, q1⟩ => ?_)
  subst ex
  obtain rfl : u = Value.ref d := rx
  have hm1 := PySem.W.mapOf_K (prog := X.prog) (w := X.w) I1.kIn D.at_ D.lit
  refine ⟨hm1.typeIs, hm1.noDict, ?_⟩
  rw [m.trees]
  refine Calls.callWith_builtin rfl (Calls.evalArgs_plain (Calls.spliced_cons (thn (he.run pins s1 σ H1 _ I1 q1) fun iv s2 ⟨y, H2, I2, ry, q2⟩ =>
    Calls.spliced_cons (thn (hf.run pins s2 σ H2 _ I2 q2) fun fv s3 ⟨z, H3, I3, rz, t, v, ey, hv, q3⟩ => Calls.spliced_nil ?_))))
  subst ey
  obtain ⟨tk, rfl⟩ := (show ∃ tk, iv = Value.str t tk from ry)
  have hm := PySem.W.mapOf_K (prog := X.prog) (w := X.w) I3.kIn D.at_ D.lit
  refine call_meetsIn PySem.F.slot_dict_get hm.typeIs PySem.F.entry_dict_get (PySem.F.args_dict_get_3 _ _ _) (meets_dict_get_default (strKind X.prog X.w) d (strKind_is X.prog X.w t tk) D.low fv) ⟨_, hm, ?_⟩
  rcases hv with ⟨u, hn, ru⟩ | ⟨hn, rfl⟩
  · rw [PySem.W.find_K D.at_ hn]
    exact ⟨v, H3, I3.tok _, ru, q3⟩
  · rw [PySem.W.find_K D.at_ hn]
    exact ⟨_, H3, I3.tok _, rz, q3⟩
end
end Wg
set_option Elab.async false
set_option linter.all false
set_option maxRecDepth 100000
set_option maxHeartbeats 1000000
/-! Su: methods that say super().m(..): read at their own frame -/
namespace Su
open PySem PySem.Spec PyProof.Rows L2 LamX NdefX PySem.Calls
/-- statements at the own frame -/
structure PAt (X : Cx) (b st : List Stmt) (t : TS) : Prop where
  run : ∀ (pins : List (Addr × Obj)) (s : Shared) (σ : L2.St) (H : Hp) (D : Ends), Inv X pins σ H s → t D σ H → _root_.PySem.wpAt (model X.prog X.w) X.A (.func b X.env) (execs st X.env) (SP X pins D) X.xe s
/-- an expression at the own frame -/
structure SE (X : Cx) (b : List Stmt) (e : Expr) (t : TE) : Prop where
  run : ∀ (pins : List (Addr × Obj)) (s : Shared) (σ : L2.St) (H : Hp) (Q : VK), Inv X pins σ H s → t σ H Q → _root_.PySem.wpAt (model X.prog X.w) X.A (.func b X.env) (eval e X.env) (EP X pins σ Q) X.xe s
section
variable {X : Cx} {b rest sts : List Stmt} {st : Stmt} {t u : TS} {e : Expr} {te : TE} {pos : Pos}
theorem pat_of (h : PSs X sts t) : PAt X b sts t := ⟨fun pins s σ H D I q => _root_.PySem.wpAt_of_wpAny (h.run pins s σ H D I q)⟩
theorem pat_cons (h1 : PS X st t) (h2 : PAt X b rest u) : PAt X b (st :: rest) (tSeq t u) := by
  refine ⟨fun pins s σ H D I h => ?_⟩
  refine ks_wpAt_execs_cons (_root_.PySem.wpAt_of_wpAny (thn (h1.run pins s σ H { D with nx := u D } I h) fun f s1 q => ?_))
  cases f with
  | next =>
    obtain ⟨σ', H', I', q⟩ := q
    exact h2.run pins s1 σ' H' D I' q
  | ret v => exact q
  | brk => exact q
  | cont => exact q
theorem pat_expr (he : SE X b e te) (h2 : PAt X b rest u) (hs : swapsWith e none pos.line X.env = pure false := by rfl) : PAt X b (.Expr e pos :: rest) (tSeq (tDrop te) u) := by
  refine ⟨fun pins s σ H D I h => ?_⟩
  refine ks_wpAt_execs_cons (ks_wpAt_Expr_any (ks_wpAt_mono (he.run pins s σ H _ I h) (fun v s1 q => ?_) fun _ _ x => x) I.quiet hs)
  obtain ⟨x, H1, I1, r1, q1⟩ := q
  exact h2.run pins s1 σ H1 D I1 q1
theorem pat_ret (he : SE X b e te) : PAt X b [.Return (some e) pos] (tRet te) := by
  refine ⟨fun pins s σ H D I h => ?_⟩
  refine ks_wpAt_execs_cons (ks_wpAt_Return_some (ks_wpAt_mono (he.run pins s σ H _ I h) (fun v s1 q => ?_) fun _ _ x => x))
  obtain ⟨x, H1, I1, r1, q1⟩ := q
  exact ⟨x, σ, H1, I1, r1, q1⟩
end
/-- what the written part says of a method f whose class cell cc holds D -/
structure SupK (K : PySem.W.Frag) (P : Program) (mg : Str → Option Value) (f c cc D : Addr) : Prop where
  fn : ∃ (oc : Value) (od : Option Addr) (fd : FuncData) (osl : Array (Option Value)) (ar : Arg), K.lookup f = some ⟨oc, od, .func fd, osl⟩ ∧ (fd.params.posonlyargs ++ fd.params.args).head? = some ar ∧ ar.arg = ("self" : Str)
  code : ∃ (ccl : Value) (cdd : Option Addr) (vs : Array Value) (ccs : Array (Option Value)) (file : Str) (tf : Tok), K.lookup c = some ⟨ccl, cdd, .fields vs, ccs⟩ ∧ vs[2]? = some (.str file tf) ∧ ((P.main.file : Str) == file) = true
  cell : ∃ (cl : Value) (cld : Option Addr) (csl : Array (Option Value)), K.lookup cc = some ⟨cl, cld, .cell (some (.ref D)), csl⟩
  dc : (PySem.W.clsIn K D).isSome = true
  top : (P.main.scope.names.lookup ("super" : Str)).isSome = false
  st : PySem.W.nsIn K cStatics "thirdparty.any" = some none
  mg : mg "super" = none
/-- what stands above D for an object of the class C -/
structure Above (K : PySem.W.Frag) (C D : Addr) (m : Str) (f2 : Addr) : Prop where
  sup : PySem.W.ks_superIn K C D m = some (some (.ref f2))
  sub : PySem.W.mroIn K C (.ref D) = some true
  ty : PySem.W.typeIn K (.ref f2) = some (.type "function")
  fi : PySem.W.fnIn K f2 = true
def tSup (C f2 : Addr) (sp : Sp) (dvs : List V) (E : XK) (t : TA) : TE := fun σ H Q => ∃ x dx fs, σ[0]? = some (some (.ref x)) ∧ H x = some (.ins C dx fs) ∧ ∀ q, H q = none → t σ (upd H q (.met f2 x)) fun vs H2 => H2 q = some (.met f2 x) ∧ sp (.ref x :: (vs ++ dvs)) H2 Q E
section
variable {X : Cx} {CX : CXT} {k : Nat} {f c cc D C f2 : Addr} {fd : FuncData} {ps : List Str} {sp : Sp} {dvs : List V} {ds : List Value} {E : XK} {m : Str} {p0 p1 pos apos : Pos} {es : List Expr} {t : TA} {b : List Stmt}
theorem ev_any {M : Model} {A : Around} {E : Value → Shared → Prop} {s : Shared} {f : Value} {l : List (Bool × Sem Value)} {Q : Args → Shared → Prop} (hp : l.any (·.1) = false)
    (h : wpAny M A (spliced l) (fun vs s' => Q ⟨vs, []⟩ s') E s) : wpAny M A (evalArgs f true l []) Q E s := by
  cases l with
  | nil =>
    unfold evalArgs
    show wpAny M A (spliced [] >>= _) Q E s
    refine wpAny_bind (wpAny_mono h (fun vs s' h' => ?_) fun _ _ x => x)
    exact wpAny_bind (wpAny_pure (wpAny_holding (wpAny_bind (wpAny_pure (wpAny_bind (wpAny_pure (wpAny_pure h')))))))
  | cons a r =>
    obtain ⟨b, x⟩ := a
    have hb : b = false := by
      cases b
      · rfl
      · rw [List.any_cons] at hp
        cases hp
    subst hb
    exact evalArgs_plain h
theorem clsAt {K : PySem.W.Frag} {h : Heap} {D : Addr} (KX : K.In h) (hd : (PySem.W.clsIn K D).isSome = true) : ∃ oD cd, h.get? D = some oD ∧ oD.data = .cls cd := by
  unfold PySem.W.clsIn at hd
  split at hd
  · rename_i c d cd' sl ho
    exact ⟨_, cd', KX _ _ ho, rfl⟩
  · cases hd
theorem se_super {pl : Sem Bool} (U : SupK X.K X.prog X.mg f c cc D) (A : Above X.K C D m f2) (F : FnOk X.prog X.w X.K X.mg X.base CX k f2 fd ps sp) (hr : Room k X.A) (hb : Binds X.K fd ps ds) (hd : Vals dvs ds) (hx : Passes CX X E) (ha : PA X es t)
    (hf : X.env.func = some f) (hc : X.env.code = .ref c) (hcl : X.env.cells.lookup ("__class__" : Str) = some cc) (hks : X.env.kindOf "super" = some .globalImplicit) (hkc : X.env.kindOf "__class__" = some .free) (hN : X.N[0]? = some ("self" : Str)) (hks0 : X.env.kindOf "self" = some .local)
    (hm : (m == ("__class__" : Str)) = false := by decide) (hpl : ((backTo pos (starEach es X.env)).any (·.1) || ([] : List (Option Str × Sem Value)).any (·.1.isNone)) = false := by rfl)
    (he : eval (.Call (.Attribute (.Call (.Name "super" p0) [] [] p1) m apos) es [] pos) X.env = (do
      let ov ← attributeBase (.Call (.Name "super" p0) [] [] p1) m X.env (eval (.Call (.Name "super" p0) [] [] p1) X.env)
      standAt apos.atName
      let (f, first) ← holding [ov] (getMethod ov m pl)
      callWith pos f first (backTo pos (starEach es X.env)) []) := by rfl) :
    SE X b (.Call (.Attribute (.Call (.Name "super" p0) [] [] p1) m apos) es [] pos) (tSup C f2 sp dvs E t) := by
  refine ⟨fun pins s σ H Q I h => ?_⟩
  obtain ⟨x, dx, fs, e0, ex, q⟩ := h
  obtain ⟨oc, od, fd0, osl, ar, lf, hp, har⟩ := U.fn
  obtain ⟨ccl, cdd, vs, ccs, file, tf, lc, hvs, hfile⟩ := U.code
  obtain ⟨cl, cld, csl, lcc⟩ := U.cell
  obtain ⟨oD, cdD, hD1, hD2⟩ := clsAt I.kIn U.dc
  refine ks_wpAt_MethodCall (pl := pl) ?_ he
  refine ks_wpAt_super_base hks hkc hm hf (I.kIn _ _ lf) rfl hp hc (I.kIn _ _ lc) rfl hvs hfile U.top ?_
  obtain ⟨mb, h1, h2⟩ := I.mod.blt
  refine PySem.W.ks_loadName_global I.ok.kind hks (Calls.loadGlobal_builtin (by rw [I.ok.glob]; exact I.mod.glob.keeps I.bk) U.mg (by rw [I.ok.blt]; exact h1.keeps I.bk) ((h2 "super" (by decide)).trans (by decide +kernel)) ⟨rfl, ?_⟩)
  refine wpAny_loadName_free I.ok.kind hkc hcl ⟨_, I.kIn _ _ lcc, rfl⟩ ?_
  rw [har]
  obtain ⟨mm, hn, hl⟩ := I.loc
  obtain ⟨u, ru, l⟩ := hl 0 "self" (.ref x) hN e0 (.inl hks0)
  have hu : mm "self" = some u := by
    rcases l with ⟨_, z⟩ | ⟨z, _⟩
    · exact z
    · rcases z with z | z <;> rw [hks0] at z <;> cases z
  obtain rfl : u = Value.ref x := ru
  refine wpAny_loadName_local I.ok.kind hks0 hn hu ?_
  obtain ⟨hh, g, d, tk, os⟩ := s
  refine ks_wpAny_isType_cls hD1 hD2 ⟨rfl, ?_⟩
  obtain ⟨mA, O, _, _, _, _⟩ := ins_get I.hok ex
  refine ks_wpAny_call_super hD1 hD2 O.obj rfl (fun c e => by cases e) (PySem.W.looks_mroIn I.kIn A.sub) (fun h' hso kp => ?_)
  have I1 : Inv X pins σ H ⟨h', g, d, tk, os⟩ := I.kept kp
  obtain ⟨od2, hof, hofc⟩ : ∃ of, h'.get? f2 = some of ∧ of.cls = .type "function" := by
    have ht' : (X.K.lookup f2).map (·.cls) = some (.type "function") := A.ty
    cases z : X.K.lookup f2 with
    | none => rw [z] at ht'; cases ht'
    | some of => rw [z] at ht'; exact ⟨of, I1.kIn _ _ z, Option.some.inj ht'⟩
  have hsup := A.sup
  cases hcd : PySem.W.clsIn X.K C with
  | none => unfold PySem.W.ks_superIn at hsup; rw [hcd] at hsup; cases hsup
  | some cd =>
    unfold PySem.W.ks_superIn at hsup
    rw [hcd] at hsup
    have xC : x ≠ C := by
      rintro rfl
      obtain ⟨o2, c2, e2, d2⟩ := clsAt I.kIn (show (PySem.W.clsIn X.K x).isSome = true by rw [hcd]; rfl)
      rw [O.obj] at e2
      cases e2
      cases d2
    refine ks_wpAny_getMethod_super hso (PySem.W.looks_opaque I1.kIn U.st) (l₀ := cd.mro) (fun A Q E s k q => wpAny_bind ((PySem.W.looks_clsIn I1.kIn hcd) A _ E s k (wpAny_pure q))) rfl I1.kIn hsup hof hofc xC hm ?_
    have hq0 : H h'.objs.size = none := I1.hok.fresh (Nat.le_refl _)
    have I2 : Inv X pins σ (upd H h'.objs.size (.met f2 x)) ⟨h'.push (PySem.W.methodObj (.ref f2) (.ref x)), g, d, tk + 1, os⟩ :=
      I1.laid (t' := tk + 1) (a := h'.objs.size) (o := .met f2 x) (fun b u z => Heap.get?_push_of_some _ z) (Nat.le_refl _) (show (h'.push (PySem.W.methodObj (.ref f2) (.ref x))).get? h'.objs.size = some (PySem.W.methodObj (.ref f2) (.ref x)) from Heap.get?_push_size h' rfl)
    refine callwith_met (X := X) (q := h'.objs.size) (a := x) hpl A.fi ?_
    refine ev_any (by rw [List.any_nil, Bool.or_false] at hpl; exact hpl) (thn (ha.run pos pins _ σ _ _ I2 (q _ hq0)) fun us s2 ⟨vs2, H2, I3, rv, eq, q2⟩ => ⟨met_P I3 eq, ?_⟩)
    have r2 : Vals (V.ref x :: (vs2 ++ dvs)) (Value.ref x :: (us ++ ds)) := .cons rfl (rv.append hd)
    have hl : (Value.ref x :: us ++ ds).length = ps.length := by
      have e := r2.length
      rw [F.len _ _ _ _ q2] at e
      exact e.symm
    refine wpAny_call (call_met I3 eq (codeAny_mono (F.run X.A X.stack s2 H2 ⟨Value.ref x :: us, []⟩ (Value.ref x :: (us ++ ds)) _ Q E hr I3.env0 (hb s2 (Value.ref x :: us) I3.kIn hl) r2 q2) fun r s' hq => ?_))
    cases r with
    | error e => exact hx pins σ H2 s2 e s' I3 hq
    | ok fl =>
      cases fl with
      | ret u => exact I3.after hq
      | next => exact False.elim hq
      | brk => exact False.elim hq
      | cont => exact False.elim hq
end
/-- a method whose body says super() -/
structure FunS (K : PySem.W.Frag) (P : Program) (mg : Str → Option Value) (name qual : Str) (st : Stmt) (f c cc D : Addr) (fd : FuncData) : Prop where
  ex : ∃ (oc : Value) (od : Option Addr) (dV kV doc pm : Value) (an : Option Addr) (ct : Value) (osl : Array (Option Value)),
    fd = PySem.W.ksFn name qual (defArgs st) (defBody st) (defScope st) dV kV doc pm an (.ref c) ct cc ∧ K.lookup f = some ⟨oc, od, .func fd, osl⟩ ∧ PySem.W.codeIn K (.ref c) qual = true
  sup : SupK K P mg f c cc D
abbrev nfS (name qual : Str) (st : Stmt) (c cc : Addr) : NF := ⟨name, qual, defArgs st, defBody st, defScope st, [("__class__", cc)], c⟩
section
variable {CX : CXT} {P : Program} {w : World} {K : PySem.W.Frag} {mg : Str → Option Value} {base : Heap} {N ps : List Str} {name qual : Str} {st : Stmt} {f c cc D : Addr} {fd : FuncData} {k : Nat} {sp : Sp}
/-- THE RULE: a method that says super() by its body -/
theorem FunS.okX (F : FunS K P mg name qual st f c cc D fd) (S : NScope N ps ["__class__"] (defScope st)) (len : ∀ vs H Q E, sp vs H Q E → vs.length = ps.length)
    (hbody : ∀ (A : Around) (outer : List Env) (s : Shared) (H : Hp) (vs : List V) (Q : VK) (E : XK), Room k (A.deeper (envF (nfS name qual st c cc) f s.heap.objs.size)) → sp vs H Q E →
      ∃ t, PAt (ncx CX P w K mg base N (nfS name qual st c cc) f A outer s H E) (defBody st) (defBody st) t ∧ t { nx := fun _ H' => Q .non H', rt := Q } (startF N vs [some (.ref D)]) H) :
    FnOk P w K mg base CX (k + 1) f fd ps sp := by
  obtain ⟨oc, od, dV, kV, doc, pm, an, ct, osl, rfl, lk, hcd⟩ := F.ex
  obtain ⟨cl, cld, csl, lcc⟩ := F.sup.cell
  refine ⟨len, fun A outer s H args us vs Q E hr e0 hb r hsp => ?_⟩
  have hl := len _ _ _ _ hsp
  have KX : K.In s.heap := e0.mod.kin.keeps fun b o e => (e0.bs b o e).1
  have lim : s.heap.NoLimit := e0.mod.nolimit.keeps fun b o e => (e0.bs b o e).1
  refine codeAny_call_function hr.depth (KX _ _ lk) rfl S.co S.gen rfl (PySem.W.codeRec_of KX hcd) (hb _ _ _ _ ?_)
  refine wpAny_newFunctionEnv S.nocell (fun ⟨n, _⟩ hy => S.par n (List.of_mem_zip hy).1) (fun h₁ hns hsb => ⟨lim.fresh _ hsb, ?_⟩) S.kind
  show codeAny _ _ (.func (defBody st) (envF (nfS name qual st c cc) f s.heap.objs.size)) _ _
  refine ks_codeAny_funcAt ?_
  have kp : ∀ b o, s.heap.get? b = some o → h₁.get? b = some o := fun b o e => hsb.extBut b o (Nat.ne_of_lt (Heap.lt_size e)) (Heap.get?_push_of_some _ e)
  have C : CellsAt [(("__class__" : Str), cc)] ["__class__"] [some (.ref D)] s.heap H := by
    have hcc : s.heap.IsCell cc (some (.ref D)) := ⟨_, KX _ _ lcc, rfl⟩
    have hn : H cc = none := (e0.bs cc _ (e0.mod.kin _ _ lcc)).2
    have one : ∀ {y : Str} {c : Addr}, ([(("__class__" : Str), cc)] : List (Str × Addr)).lookup y = some c → y = "__class__" ∧ c = cc := fun {y c} e => by
      simp only [List.lookup] at e
      split at e
      · rename_i z
        exact ⟨by simpa using z, (Option.some.inj e).symm⟩
      · cases e
    refine ⟨rfl, fun y c e => ?_, fun x y c a b => ?_, fun i y hi => ?_⟩
    · obtain ⟨_, rfl⟩ := one e
      exact ⟨hn, _, hcc⟩
    · exact (one a).1.trans (one b).1.symm
    · cases i with
      | zero =>
        cases hi
        refine ⟨cc, rfl, fun v hv => ?_⟩
        cases hv
        exact ⟨_, rfl, hcc⟩
      | succ i => cases i <;> cases hi
  obtain ⟨t, ht, hq⟩ := hbody A outer s H vs Q E (hr.deeper _) hsp
  have I : Inv (ncx CX P w K mg base N (nfS name qual st c cc) f A outer s H E) [] (startF N vs [some (.ref D)]) H { s with heap := h₁, toks := s.toks + (ps.zip us).length } := inv_startN (F := nfS name qual st c cc) S hr.hd e0 hl r C hns kp
  refine ks_wpAt_mono (ht.run [] _ (startF N vs [some (.ref D)]) H _ I hq) (fun fl s' hs => ?_) fun e s' hs => hs
  have fin : ∀ {σ' : L2.St} {H' : Hp} {v : V} {u : Value}, Inv (ncx CX P w K mg base N (nfS name qual st c cc) f A outer s H E) [] σ' H' s' → L2.RelV v u → Q v H' → CE outer P w H s Q u s' :=
    fun {σ' H' v u} J rv q => ⟨v, H', J.os, J.bare, J.base, J.hok, rv, q⟩
  cases fl with
  | ret u =>
    obtain ⟨v, σ', H', J, rv, q⟩ := hs
    exact fin J rv q
  | next =>
    obtain ⟨σ', H', J, q⟩ := hs
    exact fin (v := V.non) (u := Value.none) J rfl q
  | brk =>
    obtain ⟨_, _, _, q⟩ := hs
    exact False.elim q
  | cont =>
    obtain ⟨_, _, _, q⟩ := hs
    exact False.elim q
end
end Su
set_option Elab.async false
set_option linter.all false
set_option maxRecDepth 100000
set_option maxHeartbeats 1000000
/-! En: enumerate of a tuple, of a list or tuple; loops over a list or tuple -/
namespace En
open PySem PySem.Spec PyProof.Rows L2
theorem meets1 {v : Value} {o : Obj} {H : Heap → Prop} (B : Begins v o H) :
    Meets (Builtin.«enumerate.__new__» ⟨[.type "enumerate", v], []⟩) (fun _ R s => H s.heap ∧
      R (.ok (.ret (.ref (s.heap.push o).objs.size))) { s with heap := (s.heap.push o).push { cls := .type "enumerate", data := .fields #[.none, .bool false, .ref s.heap.objs.size, rawInt 0, .none, .none] } }) :=
  .of_wp fun prog w A R s h => by
    obtain ⟨hp, g, d, tk, os⟩ := s; obtain ⟨h1, h⟩ := h
    have hsub := sub_enumerate
    have q1 : ∀ {A' : Around} {E : Value → Shared → Prop} {Q : Value → Shared → Prop}, Q (.ref hp.objs.size) ⟨hp.push o, g, d, tk, os⟩ → wpAny (model prog w) A' (pyIter v) Q E ⟨hp, g, d, tk, os⟩ :=
      fun q => B.iter prog w _ _ ⟨hp, g, d, tk, os⟩ _ h1 q
    wp_walk using q1
    refine wpAny_stack_any fun st => wpAny_pure ?_
    split
    · rename_i c _ _ _ _ _
      cases (c == Value.type "enumerate")
      · wp_walk using q1
        exact ⟨_, rfl, h⟩
      · wp_walk using q1
        exact ⟨_, rfl, h⟩
    · wp_walk using q1
      exact ⟨_, rfl, h⟩
section
variable {prog : Program} {w : World} {A : Around} {E : Value → Shared → Prop} {s : Shared}
theorem begins1 {v : Value} {o : Obj} {H : Heap → Prop} {Q : Value → Shared → Prop} (B : Begins v o H) (h1 : H s.heap)
    (h : ∀ h', IsEnum h' (s.heap.objs.size + 1) s.heap.objs.size 0 .none → h'.get? s.heap.objs.size = some o → h'.objs.size = s.heap.objs.size + 2 →
      (∀ b o, s.heap.get? b = some o → h'.get? b = some o) → Q (.ref (s.heap.objs.size + 1)) { s with heap := h' }) :
    wpAny (model prog w) A (call (.type "enumerate") [v]) Q E s := by
  refine callType_new F.called_enumerate (by decide) (F.typeCall_enumerate_1 _) (F.newCall_enumerate_1 _) (fun obj => F.args_object_init_2 obj _) F.entry_enumerate_new
    (meets1 B) ⟨h1, ?_⟩
  have hz : (s.heap.push o).objs.size = s.heap.objs.size + 1 := Heap.size_push ..
  show _ ∧ _
  rw [hz]
  have he : IsEnum ((s.heap.push o).push { cls := .type "enumerate", data := .fields #[.none, .bool false, .ref s.heap.objs.size, rawInt 0, .none, .none] }) (s.heap.objs.size + 1) s.heap.objs.size 0 .none := by
    have := Heap.get?_push_size (s.heap.push o) (o := { cls := .type "enumerate", data := .fields #[.none, .bool false, .ref s.heap.objs.size, rawInt 0, .none, .none] }) rfl
    rw [hz] at this; exact this
  refine ⟨⟨_, he, rfl⟩, h _ he (Heap.get?_push_of_some _ (Heap.get?_push_size _ B.free)) (by rw [Heap.size_push, hz]) fun b o x => Heap.get?_push_of_some _ (Heap.get?_push_of_some _ x)⟩
end
section
variable {prog : Program} {w : World} {A : Around} {E : Value → Shared → Prop} {s : Shared}
theorem endT {e it t : Addr} {i : Nat} {items : Array Value} {k : Int} {old : Value} {Q : Option Value → Shared → Prop} (hh : A.handled = none) (he : IsEnum s.heap e it k old) (hit : s.heap.IsTupleIter it t i) (ht : s.heap.IsTuple t items) (hx : items[i]? = none)
    (hQ : ∀ h', Heap.ExtBut it s.heap h' → Q none { s with heap := h' }) : wpAny (model prog w) A (pyNext (.ref e)) Q E s := by
  have hT : s.TypeIs (.ref e) "enumerate" := ⟨_, he, rfl⟩
  unfold pyNext
  refine wpAny_bind (wpAny_attempt (wpAny_callSpecial?_slot (name := Str.ofString "__next__") hT F.slot_enumerate_next
    (wpAny_call_entry F.slot_enumerate_next hT F.entry_enumerate_next ?_ (F.args_enumerate_next_1 _))))
  show wpAny _ _ (field (.ref e) 2 >>= _) _ _ _
  refine wpAny_bind (wpAny_field he rfl (x := .ref it) rfl ?_)
  refine wpAny_bind (wpAny_nextOf_tuple_end hh hit ht hx fun h' x he' hx' => ?_)
  obtain ⟨o, ho, hc⟩ := hx'
  refine wpAny_bind (wpAny_isInstance (T := "StopIteration") (b := true) ⟨o, ho, hc⟩ isSubtype_stop ?_)
  exact wpAny_pure (hQ _ he')
end
/-- the tuple at a, each item in a new pair -/
def IteT (K : PySem.W.Frag) (a : Addr) : It :=
  ⟨fun i H => ∃ (xs : List V) (x : V), SqT K H a xs ∧ xs[i]? = some x, fun i H v H' => ∃ T x, v = .ref T ∧ H T = none ∧ H' = upd H T (.tup [.int (i : Nat), x]) ∧ ∀ xs, SqT K H a xs → xs[i]? = some x, fun i H => ∃ xs : List V, SqT K H a xs ∧ xs.length ≤ i⟩
theorem turn_enumT {P : Program} {w : World} {K : PySem.W.Frag} {elts : List Expr} {kk : Nat} {tpos : Pos} (a e it : Addr) :
    Turn P w K (.Tuple elts kk tpos) (IteT K a) [e, it] e (fun i h => (∃ old, IsEnum h e it ((i : Nat) : Int) old) ∧ h.IsTupleIter it a i ∧ e ≠ it ∧ a ≠ it ∧ a ≠ e) where
  mem := by simp
  obj := fun i h st b hb => by
    obtain ⟨⟨old, he⟩, ⟨o, ho, hc, hd⟩, _⟩ := st
    have e' : b = e ∨ b = it := by simpa using hb
    rcases e' with z | z
    · rw [z]; exact ⟨_, he, fun v q => nomatch q⟩
    · rw [z]; exact ⟨o, ho, fun v q => by rw [hd] at q; cases q⟩
  keep := fun i h h' st k => let ⟨⟨old, he⟩, hi, hne⟩ := st; ⟨⟨old, k e (by simp) _ he⟩, hi.at fun o q => k it (by simp) o q, hne⟩
  item := by
    intro X hP hw hK hc i pins s σ H E I hf st hg
    subst hP hw hK
    obtain ⟨⟨old, he⟩, hit, hne, hai, hae⟩ := st
    obtain ⟨xs, x, hq, hx⟩ := hg
    obtain ⟨its, rv, p, hz⟩ := I.tuple hq
    obtain ⟨u, hu, ru⟩ := rv.get hx
    have hu' : its.toArray[i]? = some u := by simpa using hu
    have hlt : i < its.toArray.size := (Array.getElem?_eq_some_iff.mp hu').1
    have pt : s.heap.IsTuple a its.toArray := p
    have hel : e < s.heap.objs.size := Heap.lt_size he
    have hil : it < s.heap.objs.size := by obtain ⟨_, q, _⟩ := hit; exact Heap.lt_size q
    refine wpAny_pyNext_enum_itemD (Draws.tuple (A := X.A.in1) (show X.A.in1.handled = none from I.ok.hd hc) it a hai its.toArray) he (show s.heap.IsTupleIter it a i ∧ s.heap.IsTuple a its.toArray from ⟨hit, pt⟩) hlt hne (by
      intro hm
      rcases List.mem_cons.mp hm with z | hm
      · exact hne z
      · exact hae (List.mem_singleton.mp hm).symm) fun u2 h' tk hP ho hst hT hsz hk => ?_
    have hue : u2 = u := by
      have hP : its.toArray[i]? = some u2 := hP
      rw [hu'] at hP
      exact (Option.some.inj hP).symm
    subst hue
    refine ⟨_, rfl, wpAny_letOwnedTupleGo_enum (s := { s with heap := h', toks := tk + 1 }) ho fun h'' he' sb => ?_⟩
    have hT2 : h''.get? s.heap.objs.size = some { cls := .type "tuple", data := .seq #[.int i tk, u2] } := (sb.2 _ (Nat.ne_of_gt hel)).trans hT
    have new : ObjOk X.prog X.w (upd H s.heap.objs.size (.tup [.int (i : Nat), x])) h'' s.heap.objs.size (.tup [.int (i : Nat), x]) :=
      ⟨by show 2 ≤ sizeLine; decide, [.int i tk, u2], .cons ⟨_, rfl⟩ (.cons ru .nil), ⟨_, hT2, rfl, _, rfl⟩⟩
    have I1 : Inv X pins σ (upd H s.heap.objs.size (.tup [.int (i : Nat), x])) { s with heap := h'', toks := tk + 1 } :=
      I.turnedNew (ch := [e, it]) (fun b ob hb q => (sb.2 b (fun z => hb (by simp [z]))).trans (hk b ob (fun z => hb (by simp [z])) (fun z => hb (by simp [z])) q)) hf (Nat.le_refl _) new
    refine ⟨.ref s.heap.objs.size, _, I1, rfl, ⟨_, x, rfl, I.hok.fresh (Nat.le_refl _), rfl, fun ys hy => by rw [I.tuple_inj hy hq]; exact hx⟩, ⟨⟨u2, ?_⟩, hst.1.at fun o q => (sb.2 it (Ne.symm hne)).trans q, hne, hai, hae⟩, fun b hb => ?_⟩
    · have e1 : ((i + 1 : Nat) : Int) = (i : Int) + 1 := by omega
      rw [e1]; exact he'
    · have hb' : b < s.heap.objs.size := by
        have e' : b = e ∨ b = it := by simpa using hb
        rcases e' with z | z
        · rw [z]; exact hel
        · rw [z]; exact hil
      rw [upd_ne (Nat.ne_of_lt hb')]
      exact (hf b hb).1
  done := by
    intro X hP hw hK hc i pins s σ H E I hf st hg
    subst hP hw hK
    obtain ⟨⟨old, he⟩, hit, hne, hai, hae⟩ := st
    obtain ⟨xs, hq, hx⟩ := hg
    obtain ⟨its, rv, p, hz⟩ := I.tuple hq
    obtain ⟨f0, f1, f2, f3, f4, f5⟩ := hf it (by simp)
    have hl := rv.length
    have pt : s.heap.IsTuple a its.toArray := p
    exact endT (I.ok.hd hc) he hit pt (by simp; omega) fun h' eb => ⟨rfl, I.turned (t' := s.toks) (fun b o hb q => eb b o hb q) f0 f1 f3 f4 f5⟩
  self := fun A i s Q E st h => let ⟨⟨_, he⟩, _⟩ := st; wpAny_pyIter_enum he h
/-- enumerate(a list or tuple) -/
def iEnumB (K : PySem.W.Frag) (ta : TA) : TI := fun σ H R => ta σ H fun vs H1 => ∃ a xs, vs = [.ref a] ∧ ((SqL K H1 a xs ∧ R (Ite K a) H1) ∨ (SqT K H1 a xs ∧ R (IteT K a) H1))
theorem pi_enumB {X : Cx} {e : Expr} {ta : TA} {p pos tpos : Pos} {elts : List Expr} {kk : Nat} (hg : Gl X "enumerate") (hm : X.mg "enumerate" = none) (ha : PA X [e] ta) (hs : starEach [e] X.env = [(false, eval e X.env)] := by rfl) :
    PI X (.Tuple elts kk tpos) (.Call (.Name "enumerate" p) [e] [] pos) (iEnumB X.K ta) := by
  refine ⟨fun pins s σ H R I h => ?_⟩
  refine Call_ (ld_blt I hg hm boot_enumerate (PyProof.Rows.callWith_type1 (thn (ha.run pos pins s σ H _ I h) fun us s1 ⟨vs, H1, I1, r1, q1⟩ => ?_) hs rfl))
  obtain ⟨a, xs, ex, q1⟩ := q1
  subst ex
  cases r1 with
  | cons r rr =>
    cases rr
    cases r
    have fps : ∀ {h' : Heap} (I2 : Inv X pins σ H1 { s1 with heap := h' }), ∀ b ∈ [s1.heap.objs.size + 1, s1.heap.objs.size], s1.heap.objs.size ≤ b := fun I2 b hb => by
      have e' : b = s1.heap.objs.size + 1 ∨ b = s1.heap.objs.size := by simpa using hb
      rcases e' with z | z
      · rw [z]; exact Nat.le_add_right _ _
      · rw [z]; exact Nat.le_refl _
    rcases q1 with ⟨hq, q⟩ | ⟨hq, q⟩
    · obtain ⟨its, rv, p', hz⟩ := I1.list hq
      refine call_enumerate_list p'.isList fun h' he hit hsz hk => wpAny_pyIter_enum he ?_
      have I2 : Inv X pins σ H1 { s1 with heap := h' } := I1.kept (t' := s1.toks) hk
      refine ⟨s1.heap.objs.size + 1, [s1.heap.objs.size + 1, s1.heap.objs.size], _, _, H1, rfl, I2, turn_enum a (s1.heap.objs.size + 1) s1.heap.objs.size, ⟨⟨.none, he⟩, hit, Nat.succ_ne_self _⟩, fun b hb => I1.fpOk (fps I2 b hb) (I1.hok.fresh (fps I2 b hb)), q⟩
    · obtain ⟨its, rv, p', hz⟩ := I1.tuple hq
      have pt : s1.heap.IsTuple a its.toArray := p'
      have hal : a < s1.heap.objs.size := by obtain ⟨_, q, _⟩ := pt; exact Heap.lt_size q
      refine begins1 (begins_tuple a its.toArray) pt fun h' he hit hsz hk => wpAny_pyIter_enum he ?_
      have I2 : Inv X pins σ H1 { s1 with heap := h' } := I1.kept (t' := s1.toks) hk
      refine ⟨s1.heap.objs.size + 1, [s1.heap.objs.size + 1, s1.heap.objs.size], _, _, H1, rfl, I2, turn_enumT a (s1.heap.objs.size + 1) s1.heap.objs.size, ⟨⟨.none, he⟩, ⟨_, hit, rfl, rfl⟩, Nat.succ_ne_self _, Nat.ne_of_lt hal, Nat.ne_of_lt (Nat.lt_succ_of_lt hal)⟩, fun b hb => I1.fpOk (fps I2 b hb) (I1.hok.fresh (fps I2 b hb)), q⟩
/-- one of two walks -/
theorem pi_or {X : Cx} {tg e : Expr} {a b : TI} (ha : PI X tg e a) (hb : PI X tg e b) : PI X tg e (fun σ H R => a σ H R ∨ b σ H R) := ⟨fun pins s σ H R I h => h.elim (ha.run pins s σ H R I) (hb.run pins s σ H R I)⟩
theorem for_enumT {K : PySem.W.Frag} {a : Addr} {xs : List V} {g : TG} {tb : TS} {D : Ends} {σ : L2.St} {H : Hp} (Pv : Nat → L2.St → Hp → Prop) (h0 : Pv 0 σ H) (hl : ∀ i σ H, i ≤ xs.length → Pv i σ H → SqT K H a xs)
    (hs : ∀ i x T σ H, xs[i]? = some x → Pv i σ H → H T = none → g (.ref T) σ (upd H T (.tup [.int (i : Nat), x])) fun σ2 H2 => tb { D with nx := Pv (i + 1), ct := Pv (i + 1), bk := D.nx } σ2 H2) (hd : ∀ σ H, Pv xs.length σ H → D.nx σ H) :
    ∃ W : Nat → Nat → L2.St → Hp → Prop, (∃ m, W 0 m σ H) ∧ ∀ i m σ H, W i m σ H →
      ((IteT K a).stop i H ∧ D.nx σ H) ∨ ((IteT K a).go i H ∧ ∃ N : L2.St → Hp → Prop, (∀ σ' H', N σ' H' → ∃ m', m' < m ∧ W (i + 1) m' σ' H') ∧ ∀ x H', (IteT K a).yld i H x H' → g x σ H' fun σ2 H2 => tb { D with nx := N, ct := N, bk := D.nx } σ2 H2) := by
  refine ⟨fun i m σ H => m = xs.length - i ∧ i ≤ xs.length ∧ Pv i σ H, ⟨xs.length, by simp, Nat.zero_le _, h0⟩, ?_⟩
  rintro i m σ H ⟨rfl, hi, p⟩
  have q := hl i σ H hi p
  by_cases hlt : i < xs.length
  · refine .inr ⟨⟨xs, xs[i], q, by simp [hlt]⟩, Pv (i + 1), fun σ' H' p' => ⟨xs.length - (i + 1), by omega, rfl, hlt, p'⟩, fun x H' y => ?_⟩
    obtain ⟨T, x, rfl, hT, rfl, hx⟩ := y
    exact hs i x T σ H (hx xs q) p hT
  · have e : i = xs.length := by omega
    subst e
    exact .inl ⟨⟨xs, q, Nat.le_refl _⟩, hd σ H p⟩
theorem lc_enumL {K : PySem.W.Frag} {a : Addr} {xs : List V} {g : TG} {tt : TT} {te : TE} {vs : List Nat} {σ : L2.St} {H1 : Hp} {D : Addr} {Qd : Hp → Prop} (Pv : Nat → Hp → Prop) (h0 : Pv 0 (upd H1 D (.lst []))) (hl : ∀ i H, i ≤ xs.length → Pv i H → SqL K H a xs)
    (hs : ∀ i x T H, xs[i]? = some x → Pv i H → H T = none → g (.ref T) (wipe σ vs) (upd H T (.tup [.int (i : Nat), x])) fun σ2 H2 => wipe σ2 vs = wipe σ vs ∧ tt σ2 H2 fun b H3 =>
      if b = true then te σ2 H3 fun y H4 => ∃ acc, H4 D = some (.lst acc) ∧ acc.length < sizeLine ∧ Pv (i + 1) (upd H4 D (.lst (acc ++ [y]))) else Pv (i + 1) H3) (hd : ∀ H, Pv xs.length H → Qd H) :
    ∃ W : Nat → Nat → Hp → Prop, (∃ m, W 0 m (upd H1 D (.lst []))) ∧ ∀ i m H, W i m H →
      ((Ite K a).stop i H ∧ Qd H) ∨ ((Ite K a).go i H ∧ ∃ Nx : Hp → Prop, (∀ H', Nx H' → ∃ m', m' < m ∧ W (i + 1) m' H') ∧ ∀ x H', (Ite K a).yld i H x H' → g x (wipe σ vs) H' fun σ2 H2 => wipe σ2 vs = wipe σ vs ∧ tt σ2 H2 fun b H3 =>
        if b = true then te σ2 H3 fun y H4 => ∃ acc, H4 D = some (.lst acc) ∧ acc.length < sizeLine ∧ Nx (upd H4 D (.lst (acc ++ [y]))) else Nx H3) := by
  refine ⟨fun i m H => m = xs.length - i ∧ i ≤ xs.length ∧ Pv i H, ⟨xs.length, by simp, Nat.zero_le _, h0⟩, ?_⟩
  rintro i m H ⟨rfl, hi, p⟩
  have q := hl i H hi p
  by_cases hlt : i < xs.length
  · refine .inr ⟨⟨xs, xs[i], q, by simp [hlt]⟩, Pv (i + 1), fun H' p' => ⟨xs.length - (i + 1), by omega, rfl, hlt, p'⟩, fun x H' y => ?_⟩
    obtain ⟨T, x, rfl, hT, rfl, hx⟩ := y
    exact hs i x T H (hx xs q) p hT
  · have e : i = xs.length := by omega
    subst e
    exact .inl ⟨⟨xs, q, Nat.le_refl _⟩, hd H p⟩
theorem lc_enumT {K : PySem.W.Frag} {a : Addr} {xs : List V} {g : TG} {tt : TT} {te : TE} {vs : List Nat} {σ : L2.St} {H1 : Hp} {D : Addr} {Qd : Hp → Prop} (Pv : Nat → Hp → Prop) (h0 : Pv 0 (upd H1 D (.lst []))) (hl : ∀ i H, i ≤ xs.length → Pv i H → SqT K H a xs)
    (hs : ∀ i x T H, xs[i]? = some x → Pv i H → H T = none → g (.ref T) (wipe σ vs) (upd H T (.tup [.int (i : Nat), x])) fun σ2 H2 => wipe σ2 vs = wipe σ vs ∧ tt σ2 H2 fun b H3 =>
      if b = true then te σ2 H3 fun y H4 => ∃ acc, H4 D = some (.lst acc) ∧ acc.length < sizeLine ∧ Pv (i + 1) (upd H4 D (.lst (acc ++ [y]))) else Pv (i + 1) H3) (hd : ∀ H, Pv xs.length H → Qd H) :
    ∃ W : Nat → Nat → Hp → Prop, (∃ m, W 0 m (upd H1 D (.lst []))) ∧ ∀ i m H, W i m H →
      ((IteT K a).stop i H ∧ Qd H) ∨ ((IteT K a).go i H ∧ ∃ Nx : Hp → Prop, (∀ H', Nx H' → ∃ m', m' < m ∧ W (i + 1) m' H') ∧ ∀ x H', (IteT K a).yld i H x H' → g x (wipe σ vs) H' fun σ2 H2 => wipe σ2 vs = wipe σ vs ∧ tt σ2 H2 fun b H3 =>
        if b = true then te σ2 H3 fun y H4 => ∃ acc, H4 D = some (.lst acc) ∧ acc.length < sizeLine ∧ Nx (upd H4 D (.lst (acc ++ [y]))) else Nx H3) := by
  refine ⟨fun i m H => m = xs.length - i ∧ i ≤ xs.length ∧ Pv i H, ⟨xs.length, by simp, Nat.zero_le _, h0⟩, ?_⟩
  rintro i m H ⟨rfl, hi, p⟩
  have q := hl i H hi p
  by_cases hlt : i < xs.length
  · refine .inr ⟨⟨xs, xs[i], q, by simp [hlt]⟩, Pv (i + 1), fun H' p' => ⟨xs.length - (i + 1), by omega, rfl, hlt, p'⟩, fun x H' y => ?_⟩
    obtain ⟨T, x, rfl, hT, rfl, hx⟩ := y
    exact hs i x T H (hx xs q) p hT
  · have e : i = xs.length := by omega
    subst e
    exact .inl ⟨⟨xs, q, Nat.le_refl _⟩, hd H p⟩
end En
set_option Elab.async false
set_option linter.all false
set_option maxRecDepth 100000
set_option maxHeartbeats 4000000
namespace K03
open PySem L2 Xo Su
abbrev cKey : Stmt := top 28
abbrev cTrk : Stmt := top 29
abbrev cFak : Stmt := top 30
abbrev cTfk : Stmt := top 31
abbrev cDrk : Stmt := top 32
abbrev cLok : Stmt := top 33
abbrev cMek : Stmt := top 34
abbrev sFits : Stmt := top 22
abbrev sNLabel : Stmt := top 24
abbrev sNFilled : Stmt := top 25
abbrev sNSteps : Stmt := top 26
/-! ### steps -/
def wordsL : List (Str × Nat) := [("put", 3), ("drop", 2), ("clear", 1), ("compact", 1), ("shrink", 1), ("reserve", 2), ("grow", 0), ("take", 0)]
def wordN (z : Str) : Option Nat := (wordsL.find? fun q => decide (q.1 = z)).map (·.2)
def PT.fits : PT → Bool
  | .tup (.str z :: ts) => decide (wordN z = some (ts.length + 1))
  | _ => false
def PT.seen : PT → Bool
  | .tup (.str z :: _) => (wordN z).isSome
  | _ => true
/-- what the dict of the text has at these words -/
structure Wd (K : PySem.W.Frag) (w : World) (mg : Str → Option Value) (d : Addr) (es : Array DictEntry) (n : Nat) : Prop where
  g : mg "STEP_ITEMS" = some (.ref d)
  D : KDict K w d es n
  at_ : ∀ p ∈ wordsL, (∃ t, PySem.W.nsIn K d p.1 = some (some (.int (p.2 : Int) t))) ∨ (PySem.W.nsIn K d p.1 = some none ∧ p.2 = 0)
theorem Wd.word {K : PySem.W.Frag} {w : World} {mg : Str → Option Value} {d : Addr} {es : Array DictEntry} {n : Nat} (W : Wd K w mg d es n) {z : Str} {k : Nat} (h : wordN z = some k) : (∃ t, PySem.W.nsIn K d z = some (some (.int (k : Int) t))) ∨ (PySem.W.nsIn K d z = some none ∧ k = 0) := by
  unfold wordN at h
  obtain ⟨p, hp, rfl⟩ := Option.map_eq_some_iff.mp h
  have e : p.1 = z := of_decide_eq_true (List.find?_some (p := fun q : Str × Nat => decide (q.1 = z)) hp)
  have := W.at_ p (List.mem_of_find?_eq_some hp)
  rw [e] at this
  exact this
def badAt (p : PT → Bool) (ts : List PT) : Option Nat := ts.findIdx? fun t => !p t
def PT.stepBad : PT → Option Nat
  | .tup ts => badAt PT.fits ts
  | _ => some 0
def PT.seenAll : PT → Bool
  | .tup ts => ts.all PT.seen
  | _ => true
def PT.filled : PT → Bool
  | .tup (_ :: _) => true
  | _ => false
def PT.codesOk : PT → Bool
  | .tup (t :: ts) => (t :: ts).all PT.isCode
  | _ => false
def OutI (C : Addr) (fld : Str) (y : V) (H : Hp) (E : L2.XK) : Prop := ∀ d : Addr, H d = none → E (.ref C) (some d) (upd H d (.xd [(fld, y)]))
theorem bad_none {p : PT → Bool} {ts : List PT} (h : ∀ t ∈ ts, p t = true) : badAt p ts = none := by
  unfold badAt
  rw [List.findIdx?_eq_none_iff]
  intro t ht
  rw [h t ht]
  rfl
theorem bad_first {p : PT → Bool} {ts : List PT} {i : Nat} {t : PT} (ht : ts[i]? = some t) (hp : p t = false) (hb : ∀ j t, j < i → ts[j]? = some t → p t = true) : badAt p ts = some i := by
  unfold badAt
  rw [List.findIdx?_eq_some_iff_getElem]
  obtain ⟨hi, e⟩ := List.getElem?_eq_some_iff.mp ht
  refine ⟨hi, by rw [e, hp]; rfl, fun j hj => ?_⟩
  have := hb j (ts[j]'(by omega)) hj (List.getElem?_eq_getElem (by omega))
  rw [this]
  decide
section
variable {P : Program} {w : World} {K : PySem.W.Frag} {mg : Str → Option Value} {base : Heap}
def spFits (K : PySem.W.Frag) : Sp := fun vs H Q _ => ∃ (v : V) (t : PT), vs = [v] ∧ RT K H v t ∧ t.seen = true ∧ Q (.bl t.fits) H
theorem scFits : FnScope ["thing"] ["thing"] (defScope sFits) := ⟨rfl, rfl, rfl, by decide +kernel, rfl, by decide +kernel, by decide +kernel⟩
theorem ok_fits {f SI : Addr} {fd : FuncData} {es : Array DictEntry} {n : Nat} (D : Df K mg "fits_step" "fits_step" sFits ["thing"] f fd) (B : Bl mg) (B2 : Bk mg) (W : Wd K w mg SI es n) : FnOk P w K mg base CX0 1 f fd ["thing"] (spFits K) := by
  refine D.F.ok scFits (fun vs H Q E h => ?_) (fun cdv A outer s H vs Q E hr h => ?_)
  · obtain ⟨v, t, rfl, _⟩ := h
    rfl
  · obtain ⟨v, t, rfl, o, hs, k⟩ := h
    obtain ⟨tv, ty, e1, e2, e3, e4⟩ := rt_ty o
    refine ⟨_, pss_cons (ps_if (PW.pt (pw_or (pt_not (pt_val (pe_callB call_isi (by rfl) B.isinstance (by decide +kernel) (pa_cons (pv 0) (pa_cons (pTy (t := "tuple") (by rfl) B.tuple (by decide +kernel)) pa_nil)))))
        (pw_or (pt_cmpR op_eq (pe_callB call_len_seq (by rfl) B.len PySem.boot_len (pa_cons (pv 0) pa_nil)) pe_int (nomark _))
        (pw_or1 (pt_not (pt_val (pe_callB call_isi (by rfl) B.isinstance (by decide +kernel) (pa_cons (pe_ix ix_tup (pv 0) pe_int (fun _ _ => rfl)) (pa_cons (pTy (t := "str") (by rfl) B2.str (by decide +kernel)) pa_nil)))))))))
      (pss_one (ps_ret pe_bl)) pss_nil)
      (pss_one (ps_ret (pe_cmpR op_eq (Wg.pe_wget2 (pe_glob (v := .ref SI) rfl W.g rfl) (pe_ix ix_tup (pv 0) pe_int (fun _ _ => rfl)) pe_int (by exact ⟨rfl, rfl, rfl, rfl⟩)) (pe_callB call_len_seq (by rfl) B.len PySem.boot_len (pa_cons (pv 0) pa_nil)) (nomark _)))), ?_⟩
    refine ⟨_, rfl, _, _, _, _, _, rfl, .ty _, ty, e4, _, rfl, ?_⟩
    cases o with
    | @tup a vs ts h r hl =>
      refine iteNo rfl ⟨_, rfl, a, _, rfl, .inr (SqT.of h), rfl, _, rfl, ?_⟩
      cases r with
      | nil => exact iteYes rfl k
      | @cons v0 t0 vs0 ts0 r0 r1 =>
        refine iteNo (decide_eq_false fun z => by have := V.int.inj z; rw [List.length_cons] at this; omega) ?_
        obtain ⟨tv0, ty0, _, _, s3, _⟩ := rt_ty r0
        refine ⟨_, rfl, a, _, (0 : Int), _, rfl, rfl, SqT.of h, atI_nat (j := 0) rfl, _, _, _, _, _, rfl, .ty _, ty0, s3, _, rfl, ?_⟩
        cases r0 with
        | str z hz =>
          refine iteNo rfl ?_
          obtain ⟨m, hm⟩ := Option.isSome_iff_exists.mp hs
          have k : Q (.bl (decide (wordN z = some (ts0.length + 1)))) H := k
          rw [hm] at k
          have fin : ∀ v : V, v = .int (m : Int) → Q (.bl (decide (v = .int (((V.str z :: vs0).length : Nat) : Int)))) H := fun v hv => by
            subst hv
            have e : decide (V.int (m : Int) = V.int (((V.str z :: vs0).length : Nat) : Int)) = decide (some m = some (ts0.length + 1)) := decide_eq_decide.mpr ⟨fun h => by
              have := V.int.inj h
              rw [List.length_cons, r1.length] at this
              congr 1
              omega, fun h => by
              have := Option.some.inj h
              rw [List.length_cons, r1.length, this]⟩
            rw [e]
            exact k
          refine ⟨SI, es, n, rfl, W.D, _, rfl, a, _, (0 : Int), _, rfl, rfl, SqT.of h, atI_nat (j := 0) rfl, z, .int (m : Int), rfl, ?_, _, rfl, a, _, rfl, .inr (SqT.of h), rfl, fin _ rfl⟩
          rcases W.word hm with ⟨t, e⟩ | ⟨e, rfl⟩
          · exact .inl ⟨_, e, ⟨_, rfl⟩⟩
          · exact .inr ⟨e, rfl⟩
        | non => exact iteYes rfl k
        | bl b => exact iteYes rfl k
        | int z => exact iteYes rfl k
        | tup h r hl => exact iteYes rfl k
        | lst h => exact iteYes rfl k
        | dk h => exact iteYes rfl k
        | ins h b => exact iteYes rfl k
    | non => exact iteYes rfl k
    | bl b => exact iteYes rfl k
    | int z => exact iteYes rfl k
    | str z hz => exact iteYes rfl k
    | lst h => exact iteYes rfl k
    | dk h => exact iteYes rfl k
    | ins h b => exact iteYes rfl k
def spNLabel (K : PySem.W.Frag) (C : Addr) : Sp := fun vs H Q E => ∃ (v : V) (t : PT), vs = [v] ∧ RT K H v t ∧ (t.okText = true → ∀ H', Same H H' → Q .non H') ∧ (t.okText = false → ∀ H', Same H H' → OutE C "reason" H' E)
theorem scNLabel : FnScope ["label"] ["label"] (defScope sNLabel) := ⟨rfl, rfl, rfl, by decide +kernel, rfl, by decide +kernel, by decide +kernel⟩
theorem ok_nLabel {f f1 C : Addr} {fd fd1 : FuncData} (D : Df K mg "_need_label" "_need_label" sNLabel ["label"] f fd) (D1 : Df K mg "is_text" "is_text" sText ["thing"] f1 fd1) (G1 : FnOk P w K mg base CX0 2 f1 fd1 ["thing"] (spText K)) (x : XK P w K mg base "BadKey" C "reason") :
    FnOk P w K mg base (L2.CX P w) 3 f fd ["label"] (spNLabel K C) := by
  refine D.F.okX scNLabel (fun vs H Q E h => ?_) (fun cdv A outer s H vs Q E hr h => ?_)
  · obtain ⟨n, t, rfl, _⟩ := h
    rfl
  · obtain ⟨v, t, rfl, o, k1, k2⟩ := h
    refine ⟨_, pss_one (ps_if (pt_not (pt_val (pe_call G1 hr rfl D1.g D1.F.kp D1.b .nil pass0 (pa_cons (pv 0) pa_nil)))) (pss_one (ps_raise rfl (takes_of rfl rfl rfl rfl) (pmk_x (XK.to x) hr rfl x.g (pa_cons pe_str pa_nil)))) pss_nil), ?_⟩
    refine ⟨_, rfl, _, _, rfl, o, fun H' sm => ⟨_, rfl, ?_⟩⟩
    cases hc : t.okText with
    | false => exact iteYes rfl ⟨_, rfl, fun d hd => k2 hc H' sm d _ hd⟩
    | true => exact iteNo rfl (k1 hc H' sm)
def spNFilled (K : PySem.W.Frag) (C : Addr) : Sp := fun vs H Q E => ∃ (v : V) (t : PT), vs = [v] ∧ RT K H v t ∧ (t.filled = true → Q .non H) ∧ (t.filled = false → OutE C "reason" H E)
theorem scNFilled : FnScope ["items"] ["items"] (defScope sNFilled) := ⟨rfl, rfl, rfl, by decide +kernel, rfl, by decide +kernel, by decide +kernel⟩
theorem ok_nFilled {f C : Addr} {fd : FuncData} (D : Df K mg "_need_filled" "_need_filled" sNFilled ["items"] f fd) (B : Bl mg) (x : XK P w K mg base "BadCode" C "reason") :
    FnOk P w K mg base (L2.CX P w) 3 f fd ["items"] (spNFilled K C) := by
  refine D.F.okX scNFilled (fun vs H Q E h => ?_) (fun cdv A outer s H vs Q E hr h => ?_)
  · obtain ⟨n, t, rfl, _⟩ := h
    rfl
  · obtain ⟨v, t, rfl, o, k1, k2⟩ := h
    obtain ⟨tv, ty, e1, e2, e3, e4⟩ := rt_ty o
    refine ⟨_, pss_one (ps_if (PW.pt (pw_or (pt_not (pt_val (pe_callB call_isi (by rfl) B.isinstance (by decide +kernel) (pa_cons (pv 0) (pa_cons (pTy (t := "tuple") (by rfl) B.tuple (by decide +kernel)) pa_nil)))))
        (pw_or1 (pt_cmpR op_eq (pe_callB call_len_seq (by rfl) B.len PySem.boot_len (pa_cons (pv 0) pa_nil)) pe_int (nomark _))))) (pss_one (ps_raise rfl (takes_of rfl rfl rfl rfl) (pmk_x (XK.to x) hr rfl x.g (pa_cons pe_str pa_nil)))) pss_nil), ?_⟩
    refine ⟨_, rfl, _, _, _, _, _, rfl, .ty _, ty, e4, _, rfl, ?_⟩

    cases o with
    | @tup a vs ts h r hl =>
      refine iteNo rfl ⟨_, rfl, a, _, rfl, .inr (SqT.of h), rfl, _, rfl, ?_⟩
      cases r with
      | nil => exact iteYes rfl ⟨_, rfl, fun d hd => k2 rfl d _ hd⟩
      | @cons v0 t0 vs0 ts0 r0 r1 => exact iteNo (decide_eq_false fun z => by have := V.int.inj z; rw [List.length_cons] at this; omega) (k1 rfl)
    | non => exact iteYes rfl ⟨_, rfl, fun d hd => k2 rfl d _ hd⟩
    | bl b => exact iteYes rfl ⟨_, rfl, fun d hd => k2 rfl d _ hd⟩
    | int z => exact iteYes rfl ⟨_, rfl, fun d hd => k2 rfl d _ hd⟩
    | str z hz => exact iteYes rfl ⟨_, rfl, fun d hd => k2 rfl d _ hd⟩
    | lst h => exact iteYes rfl ⟨_, rfl, fun d hd => k2 rfl d _ hd⟩
    | dk h => exact iteYes rfl ⟨_, rfl, fun d hd => k2 rfl d _ hd⟩
    | ins h b => exact iteYes rfl ⟨_, rfl, fun d hd => k2 rfl d _ hd⟩
def spNSteps (K : PySem.W.Frag) (C : Addr) : Sp := fun vs H Q E => ∃ (v : V) (t : PT), vs = [v] ∧ RT K H v t ∧ t.seenAll = true ∧ (t.stepBad = none → ∀ H', Same H H' → Q .non H') ∧ (∀ i : Nat, t.stepBad = some i → ∀ H', Same H H' → OutI C "index" (.int (i : Int)) H' E)
theorem scNSteps : FnScope ["steps", "index", "step"] ["steps"] (defScope sNSteps) := ⟨rfl, rfl, rfl, by decide +kernel, rfl, by decide +kernel, by decide +kernel⟩
theorem ok_nSteps {f f1 C : Addr} {fd fd1 : FuncData} (D : Df K mg "_need_steps" "_need_steps" sNSteps ["steps"] f fd) (B : Bl mg) (D1 : Df K mg "fits_step" "fits_step" sFits ["thing"] f1 fd1) (G1 : FnOk P w K mg base CX0 1 f1 fd1 ["thing"] (spFits K)) (x : XK P w K mg base "BadStep" C "index") :
    FnOk P w K mg base (L2.CX P w) 3 f fd ["steps"] (spNSteps K C) := by
  refine D.F.okX scNSteps (fun vs H Q E h => ?_) (fun cdv A outer s H vs Q E hr h => ?_)
  · obtain ⟨n, t, rfl, _⟩ := h
    rfl
  · obtain ⟨v, t, rfl, o, hs, k1, k2⟩ := h
    obtain ⟨tv, ty, e1, e2, e3, e4⟩ := rt_ty o
    refine ⟨_, pss_cons (ps_if (pt_not (pt_val (pe_callB call_isi (by rfl) B.isinstance (by decide +kernel) (pa_cons (pv 0) (pa_cons (pTy (t := "tuple") (by rfl) B.tuple (by decide +kernel)) pa_nil))))) (pss_one (ps_raise rfl (takes_of rfl rfl rfl rfl) (pmk_x (XK.to x) hr rfl x.g (pa_cons pe_int pa_nil)))) pss_nil)
      (pss_one (ps_for (passes_of rfl) rfl (En.pi_enumB (by rfl) B.enumerate (pa_cons (pv 0) pa_nil)) (pg_tup rfl (pgs_cons (pg_name (i := 1) scNSteps.nd rfl (Or.inl rfl)) (pgs_cons (pg_name (i := 2) scNSteps.nd rfl (Or.inl rfl)) pgs_nil)))
        (pss_one (ps_if (pt_not (pt_val (pe_call G1 (hr.mono (by decide)) rfl D1.g D1.F.kp D1.b .nil pass0 (pa_cons (pv 2) pa_nil)))) (pss_one (ps_raise rfl (takes_of rfl rfl rfl rfl) (pmk_x (XK.to x) hr rfl x.g (pa_cons (pv 1) pa_nil)))) pss_nil)))), ?_⟩
    refine ⟨_, rfl, _, _, _, _, _, rfl, .ty _, ty, e4, _, rfl, ?_⟩
    have id0 : Same H H := fun _ _ z => z
    cases o with
    | @tup a vs ts h r hl =>
      have hall := List.all_eq_true.mp (show ts.all PT.seen = true from hs)
      refine iteNo rfl ⟨_, rfl, a, vs, rfl, .inr ⟨SqT.of h, En.for_enumT (K := K) (a := a) (xs := vs) (fun i σ H' => (∃ v1 v2, σ = [some (.ref a), v1, v2]) ∧ Same H H' ∧ ∀ j t, j < i → ts[j]? = some t → t.fits = true) ⟨⟨_, _, rfl⟩, id0, fun j t hj => absurd hj (Nat.not_lt_zero _)⟩ (fun i σ H' _ p => SqT.of (p.2.1 _ _ h)) ?_ ?_⟩⟩
      · rintro i y T σ H' hx ⟨⟨v1, v2, rfl⟩, sm, hb⟩ hT
        obtain ⟨t, ht, rt⟩ := r.get hx
        have y1 := same_new (o := .tup [.int (i : Nat), y]) hT
        refine ⟨T, _, rfl, SqT.of upd_same, rfl, _, _, rfl, _, _, rfl, rfl, ?_⟩
        refine ⟨_, rfl, y, t, rfl, rt.same (sm.trans y1), hall t (List.mem_of_getElem? ht), _, rfl, ?_⟩
        cases hf : t.fits with
        | true =>
          refine iteNo rfl ⟨⟨_, _, rfl⟩, sm.trans y1, fun j t' hj ht' => ?_⟩
          by_cases e : j = i
          · subst e
            rw [ht] at ht'
            cases ht'
            exact hf
          · exact hb j t' (by omega) ht'
        | false => exact iteYes rfl ⟨_, rfl, _, rfl, fun d hd => k2 i (bad_first ht hf hb) _ (sm.trans y1) d hd⟩
      · rintro σ H' ⟨⟨v1, v2, rfl⟩, sm, hb⟩
        refine k1 (bad_none fun t ht => ?_) H' sm
        obtain ⟨j, hj⟩ := List.getElem?_of_mem ht
        exact hb j t (by rw [r.length]; exact (List.getElem?_eq_some_iff.mp hj).1) hj
    | non => exact iteYes rfl ⟨_, rfl, fun d hd => k2 0 rfl H id0 d hd⟩
    | bl b => exact iteYes rfl ⟨_, rfl, fun d hd => k2 0 rfl H id0 d hd⟩
    | int z => exact iteYes rfl ⟨_, rfl, fun d hd => k2 0 rfl H id0 d hd⟩
    | str z hz => exact iteYes rfl ⟨_, rfl, fun d hd => k2 0 rfl H id0 d hd⟩
    | lst h => exact iteYes rfl ⟨_, rfl, fun d hd => k2 0 rfl H id0 d hd⟩
    | dk h => exact iteYes rfl ⟨_, rfl, fun d hd => k2 0 rfl H id0 d hd⟩
    | ins h b => exact iteYes rfl ⟨_, rfl, fun d hd => k2 0 rfl H id0 d hd⟩
end
end K03
set_option Elab.async false
set_option linter.all false
set_option maxRecDepth 100000
set_option maxHeartbeats 4000000
namespace K03
open PySem L2 Xo Su NdefX LamX
abbrev sKI : Stmt := inClass cKey 0
abbrev sTI : Stmt := inClass cTrk 0
abbrev sFI : Stmt := inClass cFak 0
abbrev sTFI : Stmt := inClass cTfk 0
abbrev sDI : Stmt := inClass cDrk 0
abbrev sLI : Stmt := inClass cLok 0
abbrev sMI : Stmt := inClass cMek 0
structure KCls (K : PySem.W.Frag) (C : Addr) : Prop where
  cl : Cls K C
  nl : NoAttr K C "label"
  nc : NoAttr K C "_code"
abbrev FsT := V → V → List V → List (Str × V)
def fKey : FsT := fun a b _ => [("label", a), ("_code", b)]
def fFail : FsT := fun a b ws => [("label", a), ("_code", b), ("_code_at", ws.getD 0 .non), ("_match_at", ws.getD 1 .non), ("_code_calls", .int 0), ("_match_calls", .int 0)]
def fTr (fs0 : FsT) (dvs : List V) : FsT := fun a b ws => fs0 a b dvs ++ [(("_trace" : Str), ws.getD 0 .non)]
def fTF : FsT := fun a b ws => [("label", a), ("_code", b), ("_code_at", ws.getD 1 .non), ("_match_at", ws.getD 2 .non), ("_code_calls", .int 0), ("_match_calls", .int 0), ("_trace", ws.getD 0 .non)]
theorem putF_hit {f : Str} {v x : V} {r : List (Str × V)} : putF f v ((f, x) :: r) = (f, v) :: r := by
  unfold putF
  rw [if_pos rfl]
theorem putF_ne {f g : Str} {v x : V} {r : List (Str × V)} (h : ¬ g = f) : putF f v ((g, x) :: r) = (g, x) :: putF f v r := by
  conv => lhs; unfold putF
  rw [if_neg h]
theorem filled_no {t : PT} (h : t.filled = false) : t.codesOk = false := by
  cases t with
  | tup l =>
    cases l with
    | nil => rfl
    | cons a b => cases h
  | non => rfl
  | bl b => rfl
  | int z => rfl
  | str z => rfl
  | oth => rfl
theorem putF_nil {f : Str} {v : V} : putF f v [] = [(f, v)] := rfl
section
variable {P : Program} {w : World} {K : PySem.W.Frag} {mg : Str → Option Value} {base : Heap}
/-- the making of a key with a label and a code at p, all but p stays -/
def spKI (K : PySem.W.Frag) (C CK CC : Addr) (n : Nat) (fs : FsT) : Sp := fun vs H Q E => ∃ (H0 : Hp) (p dx : Addr) (v1 v2 : V) (t1 t2 : PT) (ws : List V), vs = .ref p :: v1 :: v2 :: ws ∧ ws.length = n ∧ Same H0 H ∧ H0 p = none ∧ H p = some (.ins C dx []) ∧ RT K H0 v1 t1 ∧ RT K H0 v2 t2 ∧
  (t1.okText = true → t2.isCode = true → ∀ H', Same H0 H' → H' p = some (.ins C dx (fs v1 v2 ws)) → Q .non H') ∧ (t1.okText = false → ∀ H', Same H0 H' → OutE CK "reason" H' E) ∧ (t1.okText = true → t2.isCode = false → ∀ H', Same H0 H' → OutE CC "reason" H' E)
theorem scKI : FnScope ["self", "label", "code"] ["self", "label", "code"] (defScope sKI) := ⟨rfl, rfl, rfl, by decide +kernel, rfl, by decide +kernel, by decide +kernel⟩
theorem ok_ki {f f1 f2 C CK CC : Addr} {fd fd1 fd2 : FuncData} (F : Fun K "__init__" "Key.__init__" sKI f fd) (kc : KCls K C) (D1 : Df K mg "_need_label" "_need_label" sNLabel ["label"] f1 fd1) (G1 : FnOk P w K mg base (L2.CX P w) 3 f1 fd1 ["label"] (spNLabel K CK))
    (D2 : Df K mg "need_code" "need_code" sNeedCode ["thing"] f2 fd2) (G2 : FnOk P w K mg base (L2.CX P w) 4 f2 fd2 ["thing"] (spNeedCode K CC)) : FnOk P w K mg base (L2.CX P w) 5 f fd ["self", "label", "code"] (spKI K C CK CC 0 fKey) := by
  refine F.okX scKI (fun vs H Q E h => ?_) (fun cdv A outer s H vs Q E hr h => ?_)
  · obtain ⟨H0, p, dx, v1, v2, t1, t2, ws, rfl, hl, _⟩ := h
    obtain rfl : ws = [] := List.eq_nil_of_length_eq_zero hl
    rfl
  · obtain ⟨H0, p, dx, v1, v2, t1, t2, ws, rfl, hl, s0, hp0, hp, r1, r2, k1, k2, k3⟩ := h
    obtain rfl : ws = [] := List.eq_nil_of_length_eq_zero hl
    refine ⟨_, pss_cons (ps_expr (pe_call (E := E) G1 (hr.mono (by decide)) rfl D1.g D1.F.kp D1.b .nil (passes_call (takes_of rfl rfl rfl rfl) fun _ _ _ _ z => z) (pa_cons (pv 1) pa_nil)))
      (pss_cons (ps_expr (pe_call (E := E) G2 hr rfl D2.g D2.F.kp D2.b .nil (passes_call (takes_of rfl rfl rfl rfl) fun _ _ _ _ z => z) (pa_cons (pv 2) pa_nil)))
      (pss_cons (ps_fld (pv 0) (pv 1) rfl) (pss_one (ps_fld (pv 0) (pv 2) rfl)))), ?_⟩
    refine ⟨_, rfl, v1, t1, rfl, r1.same s0, fun ht1 H1 sm1 => ?_, fun ht1 H1 sm1 => k2 ht1 H1 (s0.trans sm1)⟩
    refine ⟨_, rfl, v2, t2, rfl, r2.same (s0.trans sm1), fun ht2 => ?_, fun ht2 => k3 ht1 ht2 H1 (s0.trans sm1)⟩
    refine ⟨_, rfl, _, rfl, p, C, dx, [], rfl, sm1 _ _ hp, kc.cl, kc.nl, (by show 0 < 1000; decide), ?_⟩
    refine ⟨_, rfl, _, rfl, p, C, dx, [("label", v1)], rfl, upd_same, kc.cl, kc.nc, (by show 1 < 1000; decide), ?_⟩
    refine k1 ht1 ht2 _ (Cm.same_upd (Cm.same_upd (s0.trans sm1) hp0) hp0) ?_
    rw [upd_same, putF_ne (by decide +kernel), putF_nil]
    rfl
theorem scTI : NScope ["self", "label", "code", "trace", "__class__"] ["self", "label", "code", "trace"] ["__class__"] (defScope sTI) := nscope_by (by decide +kernel)
theorem ok_ti {f f2 c cc D C CK CC : Addr} {fd fd2 : FuncData} {ps2 : List Str} {ds : List Value} {dvs : List V} {k n : Nat} {fs0 : FsT} (U : FunS K P mg "__init__" "TracedKey.__init__" sTI f c cc D fd) (kc : KCls K C) (nt : NoAttr K C "_trace") (A : Above K C D "__init__" f2)
    (G : FnOk P w K mg base (L2.CX P w) k f2 fd2 ps2 (spKI K C CK CC n fs0)) (hb : Binds K fd2 ps2 ds) (hd : Vals dvs ds) (hn : dvs.length = n) (hfs : ∀ a b t, putF "_trace" t (fs0 a b dvs) = fs0 a b dvs ++ [(("_trace" : Str), t)]) (hl : ∀ a b, (fs0 a b dvs).length < 1000) :
    FnOk P w K mg base (L2.CX P w) (k + 1) f fd ["self", "label", "code", "trace"] (spKI K C CK CC 1 (fTr fs0 dvs)) := by
  refine U.okX scTI (fun vs H Q E h => ?_) (fun Ar outer s H vs Q E hr h => ?_)
  · obtain ⟨H0, p, dx, v1, v2, t1, t2, ws, rfl, hl, _⟩ := h
    show ws.length + 1 + 1 + 1 = 4
    rw [hl]
  · obtain ⟨H0, p, dx, v1, v2, t1, t2, ws, rfl, hw, s0, hp0, hp, r1, r2, k1, k2, k3⟩ := h
    obtain ⟨tr, rfl⟩ : ∃ tr, ws = [tr] := by
      match ws, hw with
      | [t], _ => exact ⟨t, rfl⟩
    refine ⟨_, pat_expr (se_super (E := E) U.sup A G hr hb hd (passes_call (takes_of rfl rfl rfl rfl) fun _ _ _ _ z => z) (pa_cons (pv 1) (pa_cons (pv 2) pa_nil)) rfl rfl rfl rfl rfl rfl rfl) (pat_of (pss_one (ps_fld (pv 0) (pv 3) rfl))), ?_⟩
    refine ⟨p, dx, [], rfl, hp, fun q hq => ⟨_, rfl, _, rfl, upd_same, H0, p, dx, v1, v2, t1, t2, dvs, rfl, hn, s0.trans (same_new hq), hp0, (by rw [upd_ne (ne_of_none hp hq)]; exact hp), r1, r2, fun ht1 ht2 H' sm hp' => ?_, k2, k3⟩⟩
    refine ⟨_, rfl, _, rfl, p, C, dx, _, rfl, hp', kc.cl, nt, hl _ _, ?_⟩
    refine k1 ht1 ht2 _ (Cm.same_upd sm hp0) ?_
    rw [upd_same, hfs]
    rfl
theorem scFI : NScope ["self", "label", "code", "code_at", "match_at", "__class__"] ["self", "label", "code", "code_at", "match_at"] ["__class__"] (defScope sFI) := nscope_by (by decide +kernel)
/-- what the classes that may fail have not -/
structure KFail (K : PySem.W.Frag) (C : Addr) : Prop where
  ca : NoAttr K C "_code_at"
  ma : NoAttr K C "_match_at"
  cc : NoAttr K C "_code_calls"
  mc : NoAttr K C "_match_calls"
theorem ok_fi {f f2 c cc D C CK CC : Addr} {fd fd2 : FuncData} {k : Nat} (U : FunS K P mg "__init__" "FailingKey.__init__" sFI f c cc D fd) (kc : KCls K C) (kf : KFail K C) (A : Above K C D "__init__" f2)
    (G : FnOk P w K mg base (L2.CX P w) k f2 fd2 ["self", "label", "code"] (spKI K C CK CC 0 fKey)) (hb : Binds K fd2 ["self", "label", "code"] []) :
    FnOk P w K mg base (L2.CX P w) (k + 1) f fd ["self", "label", "code", "code_at", "match_at"] (spKI K C CK CC 2 fFail) := by
  refine U.okX scFI (fun vs H Q E h => ?_) (fun Ar outer s H vs Q E hr h => ?_)
  · obtain ⟨H0, p, dx, v1, v2, t1, t2, ws, rfl, hl, _⟩ := h
    show ws.length + 1 + 1 + 1 = 5
    rw [hl]
  · obtain ⟨H0, p, dx, v1, v2, t1, t2, ws, rfl, hw, s0, hp0, hp, r1, r2, k1, k2, k3⟩ := h
    obtain ⟨x, y, rfl⟩ : ∃ x y, ws = [x, y] := by
      match ws, hw with
      | [x, y], _ => exact ⟨x, y, rfl⟩
    refine ⟨_, pat_expr (se_super (E := E) (dvs := []) U.sup A G hr hb .nil (passes_call (takes_of rfl rfl rfl rfl) fun _ _ _ _ z => z) (pa_cons (pv 1) (pa_cons (pv 2) pa_nil)) rfl rfl rfl rfl rfl rfl rfl)
      (pat_of (pss_cons (ps_fld (pv 0) (pv 3) rfl) (pss_cons (ps_fld (pv 0) (pv 4) rfl) (pss_cons (ps_fld (pv 0) pe_int rfl) (pss_one (ps_fld (pv 0) pe_int rfl)))))), ?_⟩
    refine ⟨p, dx, [], rfl, hp, fun q hq => ⟨_, rfl, _, rfl, upd_same, H0, p, dx, v1, v2, t1, t2, [], rfl, rfl, s0.trans (same_new hq), hp0, (by rw [upd_ne (ne_of_none hp hq)]; exact hp), r1, r2, fun ht1 ht2 H' sm hp' => ?_, k2, k3⟩⟩
    refine ⟨_, rfl, _, rfl, p, C, dx, [("label", v1), ("_code", v2)], rfl, hp', kc.cl, kf.ca, (by show 2 < 1000; decide), ?_⟩
    refine ⟨_, rfl, _, rfl, p, C, dx, [("label", v1), ("_code", v2), ("_code_at", x)], rfl, (by rw [upd_same, putF_ne (by decide +kernel), putF_ne (by decide +kernel), putF_nil]), kc.cl, kf.ma, (by show 3 < 1000; decide), ?_⟩
    refine ⟨_, rfl, p, C, dx, [("label", v1), ("_code", v2), ("_code_at", x), ("_match_at", y)], rfl, (by rw [upd_same, putF_ne (by decide +kernel), putF_ne (by decide +kernel), putF_ne (by decide +kernel), putF_nil]), kc.cl, kf.cc, (by show 4 < 1000; decide), ?_⟩
    refine ⟨_, rfl, p, C, dx, [("label", v1), ("_code", v2), ("_code_at", x), ("_match_at", y), ("_code_calls", .int 0)], rfl, (by rw [upd_same, putF_ne (by decide +kernel), putF_ne (by decide +kernel), putF_ne (by decide +kernel), putF_ne (by decide +kernel), putF_nil]), kc.cl, kf.mc, (by show 5 < 1000; decide), ?_⟩
    refine k1 ht1 ht2 _ (Cm.same_upd (Cm.same_upd (Cm.same_upd (Cm.same_upd sm hp0) hp0) hp0) hp0) ?_
    rw [upd_same, putF_ne (by decide +kernel), putF_ne (by decide +kernel), putF_ne (by decide +kernel), putF_ne (by decide +kernel), putF_ne (by decide +kernel), putF_nil]
    rfl
theorem scTFI : NScope ["self", "label", "code", "trace", "code_at", "match_at", "__class__"] ["self", "label", "code", "trace", "code_at", "match_at"] ["__class__"] (defScope sTFI) := nscope_by (by decide +kernel)
theorem ok_tfi {f f2 c cc D C CK CC : Addr} {fd fd2 : FuncData} {k : Nat} (U : FunS K P mg "__init__" "TracedFailingKey.__init__" sTFI f c cc D fd) (kc : KCls K C) (kf : KFail K C) (A : Above K C D "__init__" f2)
    (G : FnOk P w K mg base (L2.CX P w) k f2 fd2 ["self", "label", "code", "trace"] (spKI K C CK CC 1 (fTr fFail [.int 0, .int 0]))) (hb : Binds K fd2 ["self", "label", "code", "trace"] []) :
    FnOk P w K mg base (L2.CX P w) (k + 1) f fd ["self", "label", "code", "trace", "code_at", "match_at"] (spKI K C CK CC 3 fTF) := by
  refine U.okX scTFI (fun vs H Q E h => ?_) (fun Ar outer s H vs Q E hr h => ?_)
  · obtain ⟨H0, p, dx, v1, v2, t1, t2, ws, rfl, hl, _⟩ := h
    show ws.length + 1 + 1 + 1 = 6
    rw [hl]
  · obtain ⟨H0, p, dx, v1, v2, t1, t2, ws, rfl, hw, s0, hp0, hp, r1, r2, k1, k2, k3⟩ := h
    obtain ⟨tr, x, y, rfl⟩ : ∃ tr x y, ws = [tr, x, y] := by
      match ws, hw with
      | [tr, x, y], _ => exact ⟨tr, x, y, rfl⟩
    refine ⟨_, pat_expr (se_super (E := E) (dvs := []) U.sup A G hr hb .nil (passes_call (takes_of rfl rfl rfl rfl) fun _ _ _ _ z => z) (pa_cons (pv 1) (pa_cons (pv 2) (pa_cons (pv 3) pa_nil))) rfl rfl rfl rfl rfl rfl rfl)
      (pat_of (pss_cons (ps_fld (pv 0) (pv 4) rfl) (pss_one (ps_fld (pv 0) (pv 5) rfl)))), ?_⟩
    refine ⟨p, dx, [], rfl, hp, fun q hq => ⟨_, rfl, _, rfl, _, rfl, upd_same, H0, p, dx, v1, v2, t1, t2, [tr], rfl, rfl, s0.trans (same_new hq), hp0, (by rw [upd_ne (ne_of_none hp hq)]; exact hp), r1, r2, fun ht1 ht2 H' sm hp' => ?_, k2, k3⟩⟩
    refine ⟨_, rfl, _, rfl, p, C, dx, [("label", v1), ("_code", v2), ("_code_at", .int 0), ("_match_at", .int 0), ("_code_calls", .int 0), ("_match_calls", .int 0), ("_trace", tr)], rfl, hp', kc.cl, kf.ca, (by show 7 < 1000; decide), ?_⟩
    refine ⟨_, rfl, _, rfl, p, C, dx, [("label", v1), ("_code", v2), ("_code_at", x), ("_match_at", .int 0), ("_code_calls", .int 0), ("_match_calls", .int 0), ("_trace", tr)], rfl, (by rw [upd_same, putF_ne (by decide +kernel), putF_ne (by decide +kernel), putF_hit]), kc.cl, kf.ma, (by show 7 < 1000; decide), ?_⟩
    refine k1 ht1 ht2 _ (Cm.same_upd (Cm.same_upd sm hp0) hp0) ?_
    rw [upd_same, putF_ne (by decide +kernel), putF_ne (by decide +kernel), putF_ne (by decide +kernel), putF_hit]
    rfl
theorem scDI : NScope ["self", "label", "codes", "__class__", "code"] ["self", "label", "codes"] ["__class__"] (defScope sDI) := nscope_by (by decide +kernel)
def spDI (K : PySem.W.Frag) (C CK CC : Addr) : Sp := fun vs H Q E => ∃ (H0 : Hp) (p dx : Addr) (v1 v2 : V) (t1 t2 : PT), vs = [.ref p, v1, v2] ∧ Same H0 H ∧ H0 p = none ∧ H p = some (.ins C dx []) ∧ RT K H0 v1 t1 ∧ RT K H0 v2 t2 ∧
  (t1.okText = true → t2.codesOk = true → ∀ H' (a : Addr) (c0 : V) (r : List V), v2 = .ref a → H0 a = some (.tup (c0 :: r)) → Same H0 H' → H' p = some (.ins C dx [("label", v1), ("_code", c0), ("_codes", v2), ("_turn", .int 0)]) → Q .non H') ∧
  (t1.okText = false → ∀ H', Same H0 H' → OutE CK "reason" H' E) ∧ (t1.okText = true → t2.codesOk = false → ∀ H', Same H0 H' → OutE CC "reason" H' E)
theorem ok_di {f f1 f2 f3 f4 c cc D C CK CC : Addr} {fd fd1 fd2 fd3 fd4 : FuncData} (U : FunS K P mg "__init__" "DriftingKey.__init__" sDI f c cc D fd) (kc : KCls K C) (nt : NoAttr K C "_codes") (nu : NoAttr K C "_turn") (A : Above K C D "__init__" f2)
    (G : FnOk P w K mg base (L2.CX P w) 5 f2 fd2 ["self", "label", "code"] (spKI K C CK CC 0 fKey)) (hb : Binds K fd2 ["self", "label", "code"] [])
    (D1 : Df K mg "_need_label" "_need_label" sNLabel ["label"] f1 fd1) (G1 : FnOk P w K mg base (L2.CX P w) 3 f1 fd1 ["label"] (spNLabel K CK)) (D3 : Df K mg "_need_filled" "_need_filled" sNFilled ["items"] f3 fd3) (G3 : FnOk P w K mg base (L2.CX P w) 3 f3 fd3 ["items"] (spNFilled K CC))
    (D4 : Df K mg "need_code" "need_code" sNeedCode ["thing"] f4 fd4) (G4 : FnOk P w K mg base (L2.CX P w) 4 f4 fd4 ["thing"] (spNeedCode K CC)) :
    FnOk P w K mg base (L2.CX P w) 6 f fd ["self", "label", "codes"] (spDI K C CK CC) := by
  refine U.okX scDI (fun vs H Q E h => ?_) (fun Ar outer s H vs Q E hr h => ?_)
  · obtain ⟨H0, p, dx, v1, v2, t1, t2, rfl, _⟩ := h
    rfl
  · obtain ⟨H0, p, dx, v1, v2, t1, t2, rfl, s0, hp0, hp, r1, r2, k1, k2, k3⟩ := h
    refine ⟨_, pat_cons (ps_expr (pe_call (E := E) G1 (hr.mono (by decide)) rfl D1.g D1.F.kp D1.b .nil (passes_call (takes_of rfl rfl rfl rfl) fun _ _ _ _ z => z) (pa_cons (pv 1) pa_nil)))
      (pat_cons (ps_expr (pe_call (E := E) G3 (hr.mono (by decide)) rfl D3.g D3.F.kp D3.b .nil (passes_call (takes_of rfl rfl rfl rfl) fun _ _ _ _ z => z) (pa_cons (pv 2) pa_nil)))
      (pat_cons (ps_for (passes_of rfl) rfl (pi_tup (pv 2)) (pg_name (i := 4) scDI.nd rfl (Or.inl rfl)) (pss_one (ps_expr (pe_call (E := E) G4 (hr.mono (by decide)) rfl D4.g D4.F.kp D4.b .nil (passes_call (takes_of rfl rfl rfl rfl) fun _ _ _ _ z => z) (pa_cons (pv 4) pa_nil)))))
      (pat_expr (se_super (E := E) (dvs := []) U.sup A G hr hb .nil (passes_call (takes_of rfl rfl rfl rfl) fun _ _ _ _ z => z) (pa_cons (pv 1) (pa_cons (pe_ix ix_tup (pv 2) pe_int (fun _ _ => rfl)) pa_nil)) rfl rfl rfl rfl rfl rfl rfl)
      (pat_of (pss_cons (ps_fld (pv 0) (pv 2) rfl) (pss_one (ps_fld (pv 0) pe_int rfl))))))), ?_⟩
    refine ⟨_, rfl, v1, t1, rfl, r1.same s0, fun ht1 H1 sm1 => ?_, fun ht1 H1 sm1 => k2 ht1 H1 (s0.trans sm1)⟩
    have s1 := s0.trans sm1
    have hp1 := sm1 _ _ hp
    refine ⟨_, rfl, v2, t2, rfl, r2.same s1, fun ht2 => ?_, fun ht2 => k3 ht1 (filled_no ht2) H1 s1⟩
    obtain ⟨a, vs, ts, rfl, rfl, ha, r⟩ : ∃ (a : Addr) (vs : List V) (ts : List PT), v2 = .ref a ∧ t2 = .tup ts ∧ H0 a = some (.tup vs) ∧ RTs K H0 vs ts := by
      cases r2 with
      | tup h r hl => exact ⟨_, _, _, rfl, rfl, h, r⟩
      | _ => cases ht2
    cases r with
    | nil => cases ht2
    | @cons c0 t0 vs0 ts0 q0 q1 =>
      have qq : RTs K H0 (c0 :: vs0) (t0 :: ts0) := .cons q0 q1
      have kok : PT.codesOk (.tup (t0 :: ts0)) = (t0 :: ts0).all PT.isCode := rfl
      refine ⟨_, rfl, a, rfl, ⟨_, SqT.of (s1 _ _ ha)⟩, for_it (walk_tup (K := K) (a := a) (xs := c0 :: vs0)) (fun i σ H' => (∃ v4, σ = [some (.ref p), some v1, some (.ref a), some (.ref D), v4]) ∧ Same H0 H' ∧ H' p = some (.ins C dx []) ∧ ∀ j t, j < i → (t0 :: ts0)[j]? = some t → t.isCode = true) ⟨⟨_, rfl⟩, s1, hp1, fun j t hj => absurd hj (Nat.not_lt_zero _)⟩ (fun _ _ _ _ z => SqT.of (z.2.1 _ _ ha)) ?_ ?_⟩
      · rintro i x σ H2 H3 hi ⟨⟨v4, rfl⟩, sm, hpi, hb⟩ hy
        obtain ⟨rfl, hx⟩ := hy
        obtain ⟨t, ht, rt⟩ := qq.get hx
        refine ⟨_, rfl, x, t, rfl, rt.same sm, fun hc => ?_, fun hc => ?_⟩
        · refine ⟨⟨_, rfl⟩, sm, hpi, fun j t' hj ht' => ?_⟩
          by_cases e : j = i
          · subst e
            rw [ht] at ht'
            cases ht'
            exact hc
          · exact hb j t' (by omega) ht'
        · refine k3 ht1 ?_ H3 sm
          rw [kok, Bool.eq_false_iff]
          intro z
          rw [List.all_eq_true.mp z t (List.mem_of_getElem? ht)] at hc
          cases hc
      · rintro σ H2 ⟨⟨v4, rfl⟩, sm, hpi, hb⟩
        have hall : (t0 :: ts0).all PT.isCode = true := List.all_eq_true.mpr fun t ht => by
          obtain ⟨j, hj⟩ := List.getElem?_of_mem ht
          exact hb j t (by rw [qq.length]; exact (List.getElem?_eq_some_iff.mp hj).1) hj
        have hc0 : t0.isCode = true := List.all_eq_true.mp hall t0 (List.mem_cons_self ..)
        refine ⟨p, dx, [], rfl, hpi, fun q hq => ?_⟩
        have y := same_new (o := .met f2 p) hq
        refine ⟨_, rfl, _, rfl, a, _, (0 : Int), _, rfl, rfl, SqT.of (y _ _ (sm _ _ ha)), atI_nat (j := 0) rfl, upd_same, H0, p, dx, v1, c0, t1, t0, [], rfl, rfl, sm.trans y, hp0, y _ _ hpi, r1, q0, fun _ _ H' sm' hp' => ?_, k2, fun _ z => by rw [hc0] at z; cases z⟩
        refine ⟨_, rfl, _, rfl, p, C, dx, [("label", v1), ("_code", c0)], rfl, hp', kc.cl, nt, (by show 2 < 1000; decide), ?_⟩
        refine ⟨_, rfl, p, C, dx, [("label", v1), ("_code", c0), ("_codes", .ref a)], rfl, (by rw [upd_same, putF_ne (by decide +kernel), putF_ne (by decide +kernel), putF_nil]), kc.cl, nu, (by show 3 < 1000; decide), ?_⟩
        refine k1 ht1 hall _ a c0 vs0 rfl ha (Cm.same_upd (Cm.same_upd sm' hp0) hp0) ?_
        rw [upd_same, putF_ne (by decide +kernel), putF_ne (by decide +kernel), putF_ne (by decide +kernel), putF_nil]
theorem scLI : NScope ["self", "label", "code", "answers", "__class__"] ["self", "label", "code", "answers"] ["__class__"] (defScope sLI) := nscope_by (by decide +kernel)
def spLI (K : PySem.W.Frag) (C CK CC : Addr) : Sp := fun vs H Q E => ∃ (H0 : Hp) (p dx : Addr) (v1 v2 v3 : V) (t1 t2 t3 : PT), vs = [.ref p, v1, v2, v3] ∧ Same H0 H ∧ H0 p = none ∧ H p = some (.ins C dx []) ∧ RT K H0 v1 t1 ∧ RT K H0 v2 t2 ∧ RT K H0 v3 t3 ∧
  (t1.okText = true → t2.isCode = true → t3.filled = true → ∀ H', Same H0 H' → H' p = some (.ins C dx [("label", v1), ("_code", v2), ("_answers", v3), ("_turn", .int 0)]) → Q .non H') ∧
  (t1.okText = false → ∀ H', Same H0 H' → OutE CK "reason" H' E) ∧ (t1.okText = true → (t2.isCode && t3.filled) = false → ∀ H', Same H0 H' → OutE CC "reason" H' E)
theorem ok_li {f f2 f3 c cc D C CK CC : Addr} {fd fd2 fd3 : FuncData} (U : FunS K P mg "__init__" "LopsidedKey.__init__" sLI f c cc D fd) (kc : KCls K C) (nt : NoAttr K C "_answers") (nu : NoAttr K C "_turn") (A : Above K C D "__init__" f2)
    (G : FnOk P w K mg base (L2.CX P w) 5 f2 fd2 ["self", "label", "code"] (spKI K C CK CC 0 fKey)) (hb : Binds K fd2 ["self", "label", "code"] [])
    (D3 : Df K mg "_need_filled" "_need_filled" sNFilled ["items"] f3 fd3) (G3 : FnOk P w K mg base (L2.CX P w) 3 f3 fd3 ["items"] (spNFilled K CC)) :
    FnOk P w K mg base (L2.CX P w) 6 f fd ["self", "label", "code", "answers"] (spLI K C CK CC) := by
  refine U.okX scLI (fun vs H Q E h => ?_) (fun Ar outer s H vs Q E hr h => ?_)
  · obtain ⟨H0, p, dx, v1, v2, v3, t1, t2, t3, rfl, _⟩ := h
    rfl
  · obtain ⟨H0, p, dx, v1, v2, v3, t1, t2, t3, rfl, s0, hp0, hp, r1, r2, r3, k1, k2, k3⟩ := h
    refine ⟨_, pat_expr (se_super (E := E) (dvs := []) U.sup A G hr hb .nil (passes_call (takes_of rfl rfl rfl rfl) fun _ _ _ _ z => z) (pa_cons (pv 1) (pa_cons (pv 2) pa_nil)) rfl rfl rfl rfl rfl rfl rfl)
      (pat_of (pss_cons (ps_expr (pe_call (E := E) G3 (hr.mono (by decide)) rfl D3.g D3.F.kp D3.b .nil (passes_call (takes_of rfl rfl rfl rfl) fun _ _ _ _ z => z) (pa_cons (pv 3) pa_nil)))
        (pss_cons (ps_fld (pv 0) (pv 3) rfl) (pss_one (ps_fld (pv 0) pe_int rfl))))), ?_⟩
    refine ⟨p, dx, [], rfl, hp, fun q hq => ⟨_, rfl, _, rfl, upd_same, H0, p, dx, v1, v2, t1, t2, [], rfl, rfl, s0.trans (same_new hq), hp0, (by rw [upd_ne (ne_of_none hp hq)]; exact hp), r1, r2, fun ht1 ht2 H' sm hp' => ?_, k2, fun h1 h2 => k3 h1 (by rw [h2]; rfl)⟩⟩
    refine ⟨_, rfl, v3, t3, rfl, r3.same sm, fun ht3 => ?_, fun ht3 => k3 ht1 (by rw [ht2, ht3]; rfl) H' sm⟩
    refine ⟨_, rfl, _, rfl, p, C, dx, [("label", v1), ("_code", v2)], rfl, hp', kc.cl, nt, (by show 2 < 1000; decide), ?_⟩
    refine ⟨_, rfl, p, C, dx, [("label", v1), ("_code", v2), ("_answers", v3)], rfl, (by rw [upd_same, putF_ne (by decide +kernel), putF_ne (by decide +kernel), putF_nil]), kc.cl, nu, (by show 3 < 1000; decide), ?_⟩
    refine k1 ht1 ht2 ht3 _ (Cm.same_upd (Cm.same_upd sm hp0) hp0) ?_
    rw [upd_same, putF_ne (by decide +kernel), putF_ne (by decide +kernel), putF_ne (by decide +kernel), putF_nil]
theorem scMI : NScope ["self", "label", "code", "table", "steps", "code_steps", "__class__"] ["self", "label", "code", "table", "steps", "code_steps"] ["__class__"] (defScope sMI) := nscope_by (by decide +kernel)
def spMI (K : PySem.W.Frag) (C CK CC CS : Addr) : Sp := fun vs H Q E => ∃ (H0 : Hp) (p dx : Addr) (v1 v2 v3 v4 v5 : V) (t1 t2 t4 t5 : PT), vs = [.ref p, v1, v2, v3, v4, v5] ∧ Same H0 H ∧ H0 p = none ∧ H p = some (.ins C dx []) ∧ RT K H0 v1 t1 ∧ RT K H0 v2 t2 ∧ RT K H0 v4 t4 ∧ RT K H0 v5 t5 ∧ t4.seenAll = true ∧ t5.seenAll = true ∧
  (t1.okText = true → t2.isCode = true → t4.stepBad = none → t5.stepBad = none → ∀ H' (a4 a5 l4 l5 : Addr) (xs4 xs5 : List V), v4 = .ref a4 → v5 = .ref a5 → H0 a4 = some (.tup xs4) → H0 a5 = some (.tup xs5) → H0 l4 = none → H0 l5 = none → l4 ≠ l5 → H' l4 = some (.lst xs4) → H' l5 = some (.lst xs5) → Same H0 H' →
    H' p = some (.ins C dx [("label", v1), ("_code", v2), ("_table", v3), ("_steps", .ref l4), ("_code_steps", .ref l5)]) → Q .non H') ∧
  (t1.okText = false → ∀ H', Same H0 H' → OutE CK "reason" H' E) ∧ (t1.okText = true → t2.isCode = false → ∀ H', Same H0 H' → OutE CC "reason" H' E) ∧
  (t1.okText = true → t2.isCode = true → ∀ i : Nat, t4.stepBad = some i → ∀ H', Same H0 H' → OutI CS "index" (.int (i : Int)) H' E) ∧ (t1.okText = true → t2.isCode = true → t4.stepBad = none → ∀ i : Nat, t5.stepBad = some i → ∀ H', Same H0 H' → OutI CS "index" (.int (i : Int)) H' E)
theorem tup_of_steps {H : Hp} {v : V} {t : PT} (r : RT K H v t) (h : t.stepBad = none) : ∃ a vs, v = .ref a ∧ H a = some (.tup vs) := by
  cases r with
  | tup ha r hl => exact ⟨_, _, rfl, ha⟩
  | _ => cases h
theorem ok_mi {f f2 f3 c cc D C CK CC CS : Addr} {fd fd2 fd3 : FuncData} (U : FunS K P mg "__init__" "MeddlingKey.__init__" sMI f c cc D fd) (B : Bl mg) (kc : KCls K C) (nt : NoAttr K C "_table") (nu : NoAttr K C "_steps") (nv : NoAttr K C "_code_steps") (A : Above K C D "__init__" f2)
    (G : FnOk P w K mg base (L2.CX P w) 5 f2 fd2 ["self", "label", "code"] (spKI K C CK CC 0 fKey)) (hb : Binds K fd2 ["self", "label", "code"] [])
    (D3 : Df K mg "_need_steps" "_need_steps" sNSteps ["steps"] f3 fd3) (G3 : FnOk P w K mg base (L2.CX P w) 3 f3 fd3 ["steps"] (spNSteps K CS)) :
    FnOk P w K mg base (L2.CX P w) 6 f fd ["self", "label", "code", "table", "steps", "code_steps"] (spMI K C CK CC CS) := by
  refine U.okX scMI (fun vs H Q E h => ?_) (fun Ar outer s H vs Q E hr h => ?_)
  · obtain ⟨H0, p, dx, v1, v2, v3, v4, v5, t1, t2, t4, t5, rfl, _⟩ := h
    rfl
  · obtain ⟨H0, p, dx, v1, v2, v3, v4, v5, t1, t2, t4, t5, rfl, s0, hp0, hp, r1, r2, r4, r5, n4, n5, k1, k2, k3, k4, k5⟩ := h
    refine ⟨_, pat_expr (se_super (E := E) (dvs := []) U.sup A G hr hb .nil (passes_call (takes_of rfl rfl rfl rfl) fun _ _ _ _ z => z) (pa_cons (pv 1) (pa_cons (pv 2) pa_nil)) rfl rfl rfl rfl rfl rfl rfl)
      (pat_of (pss_cons (ps_expr (pe_call (E := E) G3 (hr.mono (by decide)) rfl D3.g D3.F.kp D3.b .nil (passes_call (takes_of rfl rfl rfl rfl) fun _ _ _ _ z => z) (pa_cons (pv 4) pa_nil)))
        (pss_cons (ps_expr (pe_call (E := E) G3 (hr.mono (by decide)) rfl D3.g D3.F.kp D3.b .nil (passes_call (takes_of rfl rfl rfl rfl) fun _ _ _ _ z => z) (pa_cons (pv 5) pa_nil)))
        (pss_cons (ps_fld (pv 0) (pv 3) rfl) (pss_cons (ps_fld (pv 0) (pe_callTy call_list_of (by rfl) B.list (by decide +kernel) (pa_cons (pv 4) pa_nil)) rfl) (pss_one (ps_fld (pv 0) (pe_callTy call_list_of (by rfl) B.list (by decide +kernel) (pa_cons (pv 5) pa_nil)) rfl))))))), ?_⟩
    refine ⟨p, dx, [], rfl, hp, fun q hq => ⟨_, rfl, _, rfl, upd_same, H0, p, dx, v1, v2, t1, t2, [], rfl, rfl, s0.trans (same_new hq), hp0, (by rw [upd_ne (ne_of_none hp hq)]; exact hp), r1, r2, fun ht1 ht2 H' sm hp' => ?_, k2, k3⟩⟩
    refine ⟨_, rfl, v4, t4, rfl, r4.same sm, n4, fun h4 H1 sm1 => ?_, fun i hi H1 sm1 => k4 ht1 ht2 i hi H1 (sm.trans sm1)⟩
    refine ⟨_, rfl, v5, t5, rfl, r5.same (sm.trans sm1), n5, fun h5 H2 sm2 => ?_, fun i hi H2 sm2 => k5 ht1 ht2 h4 i hi H2 ((sm.trans sm1).trans sm2)⟩
    obtain ⟨a4, xs4, rfl, e4⟩ := tup_of_steps r4 h4
    obtain ⟨a5, xs5, rfl, e5⟩ := tup_of_steps r5 h5
    have s2 := (sm.trans sm1).trans sm2
    have hp2 := sm2 _ _ (sm1 _ _ hp')
    have p4 := ne_of_none e4 hp0
    have p5 := ne_of_none e5 hp0
    refine ⟨_, rfl, _, rfl, p, C, dx, [("label", v1), ("_code", v2)], rfl, hp2, kc.cl, nt, (by show 2 < 1000; decide), ?_⟩
    rw [putF_ne (by decide +kernel), putF_ne (by decide +kernel), putF_nil]
    have s3 := Cm.same_upd (o := .ins C dx [("label", v1), ("_code", v2), ("_table", v3)]) s2 hp0
    have hp3 := upd_same (H := H2) (a := p) (o := .ins C dx [("label", v1), ("_code", v2), ("_table", v3)])
    generalize upd H2 p (.ins C dx [("label", v1), ("_code", v2), ("_table", v3)]) = H3 at s3 hp3 ⊢
    refine ⟨_, rfl, a4, xs4, rfl, .inr (SqT.of (s3 _ _ e4)), fun l4 hl4 => ?_⟩
    have y4 := same_new (o := .lst xs4) hl4
    have f4 := upd_same (H := H3) (a := l4) (o := .lst xs4)
    have l40 : H0 l4 = none := by
      cases z : H0 l4 with
      | none => rfl
      | some o => rw [s3 _ _ z] at hl4; cases hl4
    have np4 : l4 ≠ p := (ne_of_none hp3 hl4).symm
    refine ⟨_, rfl, p, C, dx, [("label", v1), ("_code", v2), ("_table", v3)], rfl, y4 _ _ hp3, kc.cl, nu, (by show 3 < 1000; decide), ?_⟩
    rw [putF_ne (by decide +kernel), putF_ne (by decide +kernel), putF_ne (by decide +kernel), putF_nil]
    have s4 := Cm.same_upd (o := .ins C dx [("label", v1), ("_code", v2), ("_table", v3), ("_steps", .ref l4)]) (s3.trans y4) hp0
    have hp4 := upd_same (H := upd H3 l4 (.lst xs4)) (a := p) (o := .ins C dx [("label", v1), ("_code", v2), ("_table", v3), ("_steps", .ref l4)])
    have g4 : upd (upd H3 l4 (.lst xs4)) p (.ins C dx [("label", v1), ("_code", v2), ("_table", v3), ("_steps", .ref l4)]) l4 = some (.lst xs4) := by rw [upd_ne np4, upd_same]
    generalize upd (upd H3 l4 (.lst xs4)) p (.ins C dx [("label", v1), ("_code", v2), ("_table", v3), ("_steps", .ref l4)]) = H4 at s4 hp4 g4 ⊢
    refine ⟨_, rfl, a5, xs5, rfl, .inr (SqT.of (s4 _ _ e5)), fun l5 hl5 => ?_⟩
    have y5 := same_new (o := .lst xs5) hl5
    have l50 : H0 l5 = none := by
      cases z : H0 l5 with
      | none => rfl
      | some o => rw [s4 _ _ z] at hl5; cases hl5
    have np5 : l5 ≠ p := (ne_of_none hp4 hl5).symm
    have n45 : l4 ≠ l5 := ne_of_none g4 hl5
    refine ⟨_, rfl, p, C, dx, [("label", v1), ("_code", v2), ("_table", v3), ("_steps", .ref l4)], rfl, y5 _ _ hp4, kc.cl, nv, (by show 4 < 1000; decide), ?_⟩
    rw [putF_ne (by decide +kernel), putF_ne (by decide +kernel), putF_ne (by decide +kernel), putF_ne (by decide +kernel), putF_nil]
    exact k1 ht1 ht2 h4 h5 _ a4 a5 l4 l5 xs4 xs5 rfl rfl e4 e5 l40 l50 n45 (by rw [upd_ne np4]; exact y5 _ _ g4) (by rw [upd_ne np5, upd_same]) (Cm.same_upd (s4.trans y5) hp0) upd_same
end
end K03
set_option Elab.async false
set_option linter.all false
set_option maxRecDepth 100000
set_option maxHeartbeats 2000000
/-! Sr: a text times an int -/
namespace Sr
open PySem PySem.Spec PyProof.Rows L2
theorem op_repS {X : Cx} : OpR X (binaryOp .Mult) (fun x y H Q => ∃ (z : Str) (n : Nat), x = .str z ∧ y = .int (n : Int) ∧ 2 ≤ n ∧ n ≤ 1000 ∧ 0 < z.length ∧ z.length ≤ 1000 ∧ (⟨(List.replicate n z.cps).foldl (· ++ ·) #[]⟩ : Str).length ≤ sizeLine ∧ Q (.str ⟨(List.replicate n z.cps).foldl (· ++ ·) #[]⟩) H) := by
  intro pins s σ H x y v u Q I rx ry h
  obtain ⟨z, n, rfl, rfl, n2, n3, z1, z2, hs, q⟩ := h
  obtain ⟨t, rfl⟩ := rx
  obtain ⟨t', rfl⟩ := ry
  refine P.mul_str ?_ (fun _ _ => ?_) (fun _ _ => ?_) ?_
  · rw [decide_eq_false (by omega), decide_eq_false (by omega)]
    rfl
  · have : (2 ^ 63 - 1 : Int) / (n : Int) ≥ 1000 := by
      refine Int.le_ediv_of_mul_le (by omega) ?_
      omega
    omega
  · unfold Builtin.Str.tooLong
    rw [Int.toNat_natCast]
    have : z.length * n ≤ 1000 * 1000 := Nat.mul_le_mul z2 n3
    exact decide_eq_false (Nat.not_lt.mpr (Nat.le_trans this (by decide)))
  · rw [if_neg (by omega), if_neg (by
      rw [Bool.or_eq_true, beq_iff_eq, beq_iff_eq]
      omega), Int.toNat_natCast]
    refine ⟨?_, ?_⟩
    · exact hs
    · exact ⟨.str _, H, I.tok _, ⟨_, rfl⟩, q⟩
end Sr
set_option Elab.async false
set_option linter.all false
set_option maxRecDepth 100000
set_option maxHeartbeats 4000000
namespace K03
open PySem L2 Xo Lm LamX
abbrev sTold : Stmt := top 40
abbrev sLab : Stmt := top 41
abbrev sNum : Stmt := top 42
abbrev sGood : Stmt := top 43
abbrev sFirst : Stmt := top 45
theorem Src.mono {H : Hp} {s : Addr} {n m : Nat} (h : Src H s n) (hm : n ≤ m) : Src H s m := by
  obtain ⟨l, c, t, h1, h2, h3, h4⟩ := h
  exact ⟨l, c, t, h1, h2, h3, by omega⟩
theorem RT.kept {K : PySem.W.Frag} {H H' : Hp} {s : Addr} {n : Nat} (hs0 : ∃ kvs, H s = some (.dK kvs)) (hs : Src H' s n) (kp : KeptS H H' s) {v : V} {t : PT} (h : RT K H v t) : RT K H' v t := by
  obtain ⟨kvs, e0⟩ := hs0
  obtain ⟨l, c, t0, e1, _⟩ := hs
  refine RT.rec (motive_1 := fun v t _ => RT K H' v t) (motive_2 := fun vs ts _ => RTs K H' vs ts) .non .bl .int .str (fun h r hl ih => ?_) (fun {a vs} h => ?_) (fun {a kvs} h => ?_) (fun {a C dx fs} h b => ?_) .nil (fun h r ih1 ih2 => .cons ih1 ih2) h
  · exact .tup (kp _ _ h (ne_of h e0 (by intro z; cases z))) ih hl
  · exact .lst (kp _ _ h (ne_of h e0 (by intro z; cases z)))
  · by_cases z : a = s
    · subst z
      exact .dk e1
    · exact .dk (kp _ _ h z)
  · exact .ins (kp _ _ h (ne_of h e0 (by intro z; cases z))) b
theorem RTs.kept {K : PySem.W.Frag} {H H' : Hp} {s : Addr} {n : Nat} (hs0 : ∃ kvs, H s = some (.dK kvs)) (hs : Src H' s n) (kp : KeptS H H' s) : ∀ {vs : List V} {ts : List PT}, RTs K H vs ts → RTs K H' vs ts
  | _, _, .nil => .nil
  | _, _, .cons h r => .cons (h.kept hs0 hs kp) (r.kept hs0 hs kp)
theorem Src.at {H : Hp} {s : Addr} {n : Nat} (h : Src H s n) : ∃ kvs, H s = some (.dK kvs) := by
  obtain ⟨l, c, t, e, _⟩ := h
  exact ⟨_, e⟩
/-! ### what the law tells of an error -/
inductive Er | no | key | code | step (n : Nat)
def Er.vs : Er → List V
  | .no => []
  | .key => [.str "key"]
  | .code => [.str "code"]
  | .step n => [.str "step", .int (n : Int)]
def Er.dt : Er → List PyData
  | .no => []
  | .key => [.str "key"]
  | .code => [.str "code"]
  | .step n => [.str "step", .int (n : Int)]
def Er.isNo : Er → Bool
  | .no => true
  | _ => false
def ErAt (H : Hp) (v : V) (e : Er) : Prop := ∃ a, v = .ref a ∧ H a = some (.lst e.vs)
theorem ErAt.same {H H' : Hp} {v : V} {e : Er} (h : ErAt H v e) (s : Same H H') : ErAt H' v e := by
  obtain ⟨a, rfl, h⟩ := h
  exact ⟨a, rfl, s _ _ h⟩
theorem ErAt.ext {H H' : Hp} {v : V} {e : Er} (h : ErAt H v e) (s : ExtN H H') : ErAt H' v e := by
  obtain ⟨a, rfl, h⟩ := h
  exact ⟨a, rfl, s _ _ h fun ps z => by cases z⟩
theorem ErAt.kept {H H' : Hp} {s : Addr} {v : V} {e : Er} (h : ErAt H v e) (hs0 : ∃ kvs, H s = some (.dK kvs)) (kp : KeptS H H' s) : ErAt H' v e := by
  obtain ⟨a, rfl, h⟩ := h
  obtain ⟨kvs, e0⟩ := hs0
  exact ⟨a, rfl, kp _ _ h (ne_of h e0 (by intro z; cases z))⟩
theorem ErAt.dp {K : PySem.W.Frag} {H : Hp} {v : V} {e : Er} (h : ErAt H v e) : Dp K H v (.list e.dt) := by
  obtain ⟨a, rfl, h⟩ := h
  refine .lst (SqL.of h) ?_
  cases e with
  | no => exact .nil
  | key => exact .cons (.str _) .nil
  | code => exact .cons (.str _) .nil
  | step n => exact .cons (.str _) (.cons (.int _) .nil)
theorem er_lay (e : Er) : PyData.canLay0 (.list e.dt) = true ∧ PyData.depth (.list e.dt) = 1 := by
  cases e with
  | no => exact ⟨by decide +kernel, by decide +kernel⟩
  | key => exact ⟨by decide +kernel, by decide +kernel⟩
  | code => exact ⟨by decide +kernel, by decide +kernel⟩
  | step n => exact ⟨by simp [Er.dt, PyData.canLay0, PyData.canLayAll0]; decide +kernel, by simp [Er.dt, PyData.depth, PyData.depthAll]⟩
theorem er_shaped (e : Er) : SeqAt.shaped (.list e.dt) = true := by
  unfold SeqAt.shaped
  rw [(er_lay e).1, (er_lay e).2]
  rfl
theorem er_eqv (e : Er) : PyData.eqv (.list e.dt) (.list e.dt) = true := by
  cases e with
  | no => decide +kernel
  | key => decide +kernel
  | code => decide +kernel
  | step n => simp [Er.dt, PyData.eqv, PyData.eqvAll]
theorem er_nil (e : Er) : PyData.eqv (.list e.dt) (.list []) = e.isNo := by
  cases e with
  | no => decide +kernel
  | key => decide +kernel
  | code => decide +kernel
  | step n => simp [Er.dt, PyData.eqv, PyData.eqvAll, Er.isNo]
def ersD (es : List Er) : PyData := .list (es.map fun e => .list e.dt)
inductive Ers (H : Hp) : List V → List Er → Prop
  | nil : Ers H [] []
  | cons {v : V} {e : Er} {vs : List V} {es : List Er} (h : ErAt H v e) (r : Ers H vs es) : Ers H (v :: vs) (e :: es)
theorem Ers.same {H H' : Hp} (s : Same H H') : ∀ {vs : List V} {es : List Er}, Ers H vs es → Ers H' vs es
  | _, _, .nil => .nil
  | _, _, .cons h r => .cons (h.same s) (r.same s)
theorem Ers.ext {H H' : Hp} (s : ExtN H H') : ∀ {vs : List V} {es : List Er}, Ers H vs es → Ers H' vs es
  | _, _, .nil => .nil
  | _, _, .cons h r => .cons (h.ext s) (r.ext s)
theorem Ers.length {H : Hp} : ∀ {vs : List V} {es : List Er}, Ers H vs es → vs.length = es.length
  | _, _, .nil => rfl
  | _, _, .cons _ r => by rw [List.length_cons, List.length_cons, r.length]
theorem Ers.get {H : Hp} : ∀ {vs : List V} {es : List Er} {i : Nat} {v : V}, Ers H vs es → vs[i]? = some v → ∃ e, es[i]? = some e ∧ ErAt H v e
  | _, _, _, _, .nil, e => by simp at e
  | _, _, 0, _, .cons h _, e => by simp at e; subst e; exact ⟨_, rfl, h⟩
  | _, _, i + 1, _, .cons _ r, e => by
    obtain ⟨t, h1, h2⟩ := Ers.get (i := i) r (by simpa using e)
    exact ⟨t, by simpa using h1, h2⟩
theorem Ers.app {H : Hp} {v : V} {e : Er} : ∀ {vs : List V} {es : List Er}, Ers H vs es → ErAt H v e → Ers H (vs ++ [v]) (es ++ [e])
  | _, _, .nil, h => .cons h .nil
  | _, _, .cons h0 r, h => .cons h0 (r.app h)
theorem Ers.dp {K : PySem.W.Frag} {H : Hp} : ∀ {vs : List V} {es : List Er}, Ers H vs es → DpAll K H vs (es.map fun e => .list e.dt)
  | _, _, .nil => .nil
  | _, _, .cons h r => .cons h.dp r.dp
theorem ers_lay : ∀ es : List Er, PyData.canLayAll0 (es.map fun e => PyData.list e.dt) = true ∧ PyData.depthAll (es.map fun e => PyData.list e.dt) ≤ 1
  | [] => ⟨by simp [PyData.canLayAll0], by simp [PyData.depthAll]⟩
  | e :: es => by
    obtain ⟨h1, h2⟩ := ers_lay es
    rw [List.map_cons, PyData.canLayAll0, PyData.depthAll, (er_lay e).1, (er_lay e).2, h1]
    exact ⟨rfl, by omega⟩
theorem ers_shaped (es : List Er) : SeqAt.shaped (ersD es) = true := by
  unfold SeqAt.shaped ersD
  obtain ⟨h1, h2⟩ := ers_lay es
  rw [PyData.canLay0, h1, PyData.depth, Bool.true_and, decide_eq_true_iff]
  omega
theorem ers_eqvAll : ∀ es : List Er, PyData.eqvAll (es.map fun e => PyData.list e.dt) (es.map fun e => PyData.list e.dt) = true
  | [] => by simp [PyData.eqvAll]
  | e :: es => by
    rw [List.map_cons, PyData.eqvAll, er_eqv, ers_eqvAll es]
    rfl
theorem ers_eqv (es : List Er) : PyData.eqv (ersD es) (ersD es) = true := by
  unfold ersD
  rw [PyData.eqv, ers_eqvAll]
theorem ers_nil (es : List Er) : PyData.eqv (ersD es) (.list []) = es.isEmpty := by
  cases es <;> simp [ersD, PyData.eqv, PyData.eqvAll]
def firstE (es : List Er) : Er := (es.filter fun e => !e.isNo).headD .no
abbrev NT : List Str := ["call", "e"]
theorem scTold : FnScope NT ["call"] (defScope sTold) := ⟨rfl, rfl, rfl, by decide +kernel, rfl, by decide +kernel, by decide +kernel⟩
/-- the three errors and their family -/
structure Bad (K : PySem.W.Frag) (CK CC CS CT : Addr) : Prop where
  xk : PySem.W.exmOne K (.ref CK) (.ref CT) = some true
  xc : PySem.W.exmOne K (.ref CC) (.ref CT) = some true
  xs : PySem.W.exmOne K (.ref CS) (.ref CT) = some true
  ek : ExcC K CK
  ec : ExcC K CC
  es : ExcC K CS
  ws : XC K CS
  no : PySem.W.findIn K (.ref CS) "index" = some none
  kks : PySem.W.kitOne K (.ref CK) (.ref CS) = some false
  kkk : PySem.W.kitOne K (.ref CK) (.ref CK) = some true
  kcs : PySem.W.kitOne K (.ref CC) (.ref CS) = some false
  kck : PySem.W.kitOne K (.ref CC) (.ref CK) = some false
  kcc : PySem.W.kitOne K (.ref CC) (.ref CC) = some true
  kss : PySem.W.kitOne K (.ref CS) (.ref CS) = some true
structure Nms (mg : Str → Option Value) (CK CC CS CT : Addr) : Prop where
  t : mg "TableError" = some (.ref CT)
  k : mg "BadKey" = some (.ref CK)
  c : mg "BadCode" = some (.ref CC)
  s : mg "BadStep" = some (.ref CS)
def TellQ (Q : VK) (H : Hp) (e : Er) : Prop := ∀ L, H L = none → Q (.ref L) (upd H L (.lst e.vs))
def ToldE (CK CC CS : Addr) (Q : VK) : L2.XK := fun cls d H' => ∃ (dd : Addr) (fs : List (Str × V)), d = some dd ∧ H' dd = some (.xd fs) ∧
  ((cls = .ref CK ∧ TellQ Q H' .key) ∨ (cls = .ref CC ∧ TellQ Q H' .code) ∨ (cls = .ref CS ∧ ∃ n : Nat, fs.lookup ("index" : Str) = some (.int (n : Int)) ∧ TellQ Q H' (.step n)))
def TTtold (CK CC CS : Addr) : (L2.XK → Hp → VK → Prop) → Hp → VK → Prop := fun tl H Q => tl (ToldE CK CC CS Q) H fun _ H' => 0 ≤ sizeLine ∧ TellQ Q H' .no
theorem told_gives {X : Cx} {g CK CC CS CT : Addr} {cdg : Value} {q : Str} (N : Nms X.mg CK CC CS CT) (is : X.mg "isinstance" = none) (Bd : Bad X.K CK CC CS CT) :
    Gives X NT "_law_told" (defScope sTold) g cdg (defBody sTold) "call" q (TTtold CK CC CS) := by
  intro f c' s H Q tl act hc h
  have nd : NT.Nodup := by decide +kernel
  refine ⟨_, pss_cons (ps_try_as (X := (gCx X NT "_law_told" (defScope sTold) g cdg s H).nox) (i := 1) (c := .ref CT) (tb := fun W D σ H => ∃ Ech : L2.XK, σ[0]? = some (some (.ref f)) ∧ H c' = some (CodeO c' q) ∧ (∀ cls d H', Ech cls d H' → W cls d σ H') ∧ tl Ech H fun _ H' => D.nx σ H') rfl rfl nd rfl rfl ⟨rfl, by decide, .inl N.t⟩ LamX.takes0 (fun W pn xe tk _ => ?_)
      (fun a oe cls d pn hz hf => pss_cons (ps_if (pt_val (pe_callB (Xo.call_isS hz hf) (by rfl) is (by decide +kernel) (pa_cons (pv 1) (pa_cons (pe_glob (v := .ref CS) rfl N.s rfl) pa_nil)))) (pss_one (ps_ret (pe_lst (pa_cons pe_str (pa_cons (pe_xfS hz hf (pv 1)) pa_nil))))) pss_nil)
        (pss_one (ps_ret (pe_ifExp (pt_val (pe_callB (Xo.call_isS hz hf) (by rfl) is (by decide +kernel) (pa_cons (pv 1) (pa_cons (pe_glob (v := .ref CK) rfl N.k rfl) pa_nil)))) (pe_lst (pa_cons pe_str pa_nil))
          (pe_ifExp (pt_val (pe_callB (Xo.call_isS hz hf) (by rfl) is (by decide +kernel) (pa_cons (pv 1) (pa_cons (pe_glob (v := .ref CC) rfl N.c rfl) pa_nil)))) (pe_lst (pa_cons pe_str pa_nil)) (pe_lst (pa_cons pe_str pa_nil))))))))
    (pss_one (ps_ret (pe_lst pa_nil))), ?_⟩
  · refine ⟨fun pins s' σ H' D I h' => ?_⟩
    obtain ⟨Ech, h1, h2, h3, h4⟩ := h'
    exact (pss_one (ps_expr (act W pn xe Ech _ _ tk))).run pins s' σ H' D I ⟨h1, h2, h3, h4⟩
  · refine ⟨ToldE CK CC CS Q, rfl, hc, fun cls d H' hE => ?_, ?_⟩
    · obtain ⟨dd, fs, rfl, hd, ⟨rfl, k⟩ | ⟨rfl, k⟩ | ⟨rfl, n, hn, k⟩⟩ := hE
      · refine ⟨true, Bd.xk, fun _ a ha => ?_, fun z => nomatch z⟩
        refine ⟨_, rfl, CK, dd, fs, _, _, _, rfl, rfl, rfl, hd, Bd.ek, .own _, Bd.kks, _, rfl, iteNo rfl ?_⟩
        refine ⟨_, rfl, CK, dd, fs, _, _, _, rfl, rfl, rfl, hd, Bd.ek, .own _, Bd.kkk, _, rfl, iteYes rfl ⟨by show 1 ≤ sizeLine; decide, k⟩⟩
      · refine ⟨true, Bd.xc, fun _ a ha => ?_, fun z => nomatch z⟩
        refine ⟨_, rfl, CC, dd, fs, _, _, _, rfl, rfl, rfl, hd, Bd.ec, .own _, Bd.kcs, _, rfl, iteNo rfl ?_⟩
        refine ⟨_, rfl, CC, dd, fs, _, _, _, rfl, rfl, rfl, hd, Bd.ec, .own _, Bd.kck, _, rfl, iteNo rfl ?_⟩
        refine ⟨_, rfl, CC, dd, fs, _, _, _, rfl, rfl, rfl, hd, Bd.ec, .own _, Bd.kcc, _, rfl, iteYes rfl ⟨by show 1 ≤ sizeLine; decide, k⟩⟩
      · refine ⟨true, Bd.xs, fun _ a ha => ?_, fun z => nomatch z⟩
        refine ⟨_, rfl, CS, dd, fs, _, _, _, rfl, rfl, rfl, hd, Bd.es, .own _, Bd.kss, _, rfl, iteYes rfl ?_⟩
        exact ⟨_, rfl, CS, dd, fs, _, rfl, rfl, rfl, hd, Bd.ws, Bd.no, hn, by show 2 ≤ sizeLine; decide, k⟩
    · exact h
section
variable {P : Program} {w : World} {K : PySem.W.Frag} {mg : Str → Option Value} {base : Heap}
/-! ### labels and codes that are drawn -/
/-- a value as the law has it: as PT, and as data -/
structure Val (K : PySem.W.Frag) (H : Hp) (v : V) (t : PT) : Prop where
  rt : RT K H v t
  dp : ∃ d, Dp K H v d ∧ PyData.canLay0 d = true ∧ PyData.depth d ≤ 4
def spLab (K : PySem.W.Frag) : Sp := fun vs H Q _ => ∃ (s : Addr) (n : Nat), vs = [.ref s] ∧ Src H s n ∧ n + 4 < 2 ^ 40 ∧ ∀ (p : Addr) (v : V) (t : PT) H', H' p = some (.tup [v, .bl t.okText]) → RT K H' v t → Src H' s (n + 4) → KeptS H H' s → Q (.ref p) H'
theorem scLab : FnScope ["state", "some"] ["state"] (defScope sLab) := ⟨rfl, rfl, rfl, by decide +kernel, rfl, by decide +kernel, by decide +kernel⟩
def b40 : Str := ⟨(List.replicate 40 (Str.ofString "b").cps).foldl (· ++ ·) #[]⟩
def b41 : Str := ⟨(List.replicate 41 (Str.ofString "b").cps).foldl (· ++ ·) #[]⟩
theorem pickL {H : Hp} {p0 p1 p2 p3 p4 p5 p6 p7 p8 p9 q8 q9 : Addr} (e0 : H p0 = some (.tup [.str "a", .bl true])) (e1 : H p1 = some (.tup [.str "", .bl true])) (e2 : H p2 = some (.tup [.str "a b~", .bl true])) (e3 : H p3 = some (.tup [.str b40, .bl true])) (e4 : H p4 = some (.tup [.str b41, .bl false])) (e5 : H p5 = some (.tup [.str "a\n", .bl false]))
    (e6 : H p6 = some (.tup [.non, .bl false])) (e7 : H p7 = some (.tup [.int 5, .bl false])) (f8 : H q8 = some (.tup [.str "a"])) (e8 : H p8 = some (.tup [.ref q8, .bl false])) (f9 : H q9 = some (.lst [.str "a"])) (e9 : H p9 = some (.tup [.ref q9, .bl false])) (n : Nat) (h : n < 10) :
    ∃ (p : Addr) (v : V) (t : PT), ([V.ref p0, .ref p1, .ref p2, .ref p3, .ref p4, .ref p5, .ref p6, .ref p7, .ref p8, .ref p9] : List V)[n]? = some (.ref p) ∧ H p = some (.tup [v, .bl t.okText]) ∧ RT K H v t := by
  match n, h with
  | 0, _ => exact ⟨_, _, .str "a", rfl, e0, .str _ (by decide +kernel)⟩
  | 1, _ => exact ⟨_, _, .str "", rfl, e1, .str _ (by decide +kernel)⟩
  | 2, _ => exact ⟨_, _, .str "a b~", rfl, e2, .str _ (by decide +kernel)⟩
  | 3, _ => exact ⟨_, _, .str b40, rfl, e3, .str _ (by decide +kernel)⟩
  | 4, _ => exact ⟨_, _, .str b41, rfl, e4, .str _ (by decide +kernel)⟩
  | 5, _ => exact ⟨_, _, .str "a\n", rfl, e5, .str _ (by decide +kernel)⟩
  | 6, _ => exact ⟨_, _, .non, rfl, e6, .non⟩
  | 7, _ => exact ⟨_, _, .int 5, rfl, e7, .int _⟩
  | 8, _ => exact ⟨_, _, .tup [.str "a"], rfl, e8, .tup f8 (.cons (.str _ (by decide +kernel)) .nil) (by show 1 ≤ 1000; decide)⟩
  | 9, _ => exact ⟨_, _, .oth, rfl, e9, .lst f9⟩
theorem ok_lab {f f1 : Addr} {fd fd1 : FuncData} (D : Df K mg "_law_label" "_law_label" sLab ["state"] f fd) (D1 : Df K mg "_law_digit" "_law_digit" sDigit ["state", "size"] f1 fd1) (G1 : FnOk P w K mg base CX0 2 f1 fd1 ["state", "size"] spDigit) :
    FnOk P w K mg base CX0 3 f fd ["state"] (spLab K) := by
  refine D.F.ok scLab (fun vs H Q E h => ?_) (fun cdv A outer s H vs Q E hr h => ?_)
  · obtain ⟨s, n, rfl, _⟩ := h
    rfl
  · obtain ⟨s, n, rfl, hs, hn, k⟩ := h
    refine ⟨_, pss_cons (ps_set (i := 1) scLab.nd rfl (Or.inl rfl) (pe_lst (pa_cons (pe_tup (pa_cons pe_str (pa_cons pe_bl pa_nil))) (pa_cons (pe_tup (pa_cons pe_str (pa_cons pe_bl pa_nil))) (pa_cons (pe_tup (pa_cons pe_str (pa_cons pe_bl pa_nil))) (pa_cons (pe_tup (pa_cons (pe_op Sr.op_repS pe_str pe_int) (pa_cons pe_bl pa_nil)))
        (pa_cons (pe_tup (pa_cons (pe_op Sr.op_repS pe_str pe_int) (pa_cons pe_bl pa_nil))) (pa_cons (pe_tup (pa_cons pe_str (pa_cons pe_bl pa_nil))) (pa_cons (pe_tup (pa_cons pe_non (pa_cons pe_bl pa_nil))) pa_nil)))))))))
      (pss_one (ps_ret (pe_ix ix_list (pe_op op_cat (pv 1) (pe_lst (pa_cons (pe_tup (pa_cons pe_int (pa_cons pe_bl pa_nil))) (pa_cons (pe_tup (pa_cons (pe_tup (pa_cons pe_str pa_nil)) (pa_cons pe_bl pa_nil))) (pa_cons (pe_tup (pa_cons (pe_lst (pa_cons pe_str pa_nil)) (pa_cons pe_bl pa_nil))) pa_nil))))) (pe_call G1 hr rfl D1.g D1.F.kp D1.b .nil pass0 (pa_cons (pv 0) (pa_cons pe_int pa_nil))) (fun _ _ => rfl)))), ?_⟩
    refine ⟨by show 2 ≤ sizeLine; decide, fun p0 hp0 => ?_⟩
    have yp0 := same_new (o := .tup [.str "a", .bl true]) hp0
    refine ⟨by show 2 ≤ sizeLine; decide, fun p1 hp1 => ?_⟩
    have yp1 := same_new (o := .tup [.str "", .bl true]) hp1
    refine ⟨by show 2 ≤ sizeLine; decide, fun p2 hp2 => ?_⟩
    have yp2 := same_new (o := .tup [.str "a b~", .bl true]) hp2
    refine ⟨(Str.ofString "b"), 40, rfl, rfl, by decide, by decide, by decide +kernel, by decide +kernel, by decide +kernel, by show 2 ≤ sizeLine; decide, fun p3 hp3 => ?_⟩
    have yp3 := same_new (o := .tup [.str ⟨(List.replicate 40 (Str.ofString "b").cps).foldl (· ++ ·) #[]⟩, .bl true]) hp3
    refine ⟨(Str.ofString "b"), 41, rfl, rfl, by decide, by decide, by decide +kernel, by decide +kernel, by decide +kernel, by show 2 ≤ sizeLine; decide, fun p4 hp4 => ?_⟩
    have yp4 := same_new (o := .tup [.str ⟨(List.replicate 41 (Str.ofString "b").cps).foldl (· ++ ·) #[]⟩, .bl false]) hp4
    refine ⟨by show 2 ≤ sizeLine; decide, fun p5 hp5 => ?_⟩
    have yp5 := same_new (o := .tup [.str "a\n", .bl false]) hp5
    refine ⟨by show 2 ≤ sizeLine; decide, fun p6 hp6 => ?_⟩
    have yp6 := same_new (o := .tup [.non, .bl false]) hp6
    refine ⟨by show 7 ≤ sizeLine; decide, fun l0 hl0 => ?_⟩
    have yl0 := same_new (o := .lst [.ref p0, .ref p1, .ref p2, .ref p3, .ref p4, .ref p5, .ref p6]) hl0
    have fp0 := yl0 _ _ (yp6 _ _ (yp5 _ _ (yp4 _ _ (yp3 _ _ (yp2 _ _ (yp1 _ _ ((upd_same (H := H) (a := p0) (o := .tup [.str "a", .bl true])))))))))
    have fp1 := yl0 _ _ (yp6 _ _ (yp5 _ _ (yp4 _ _ (yp3 _ _ (yp2 _ _ ((upd_same (H := (upd H p0 (.tup [.str "a", .bl true]))) (a := p1) (o := .tup [.str "", .bl true]))))))))
    have fp2 := yl0 _ _ (yp6 _ _ (yp5 _ _ (yp4 _ _ (yp3 _ _ ((upd_same (H := (upd (upd H p0 (.tup [.str "a", .bl true])) p1 (.tup [.str "", .bl true]))) (a := p2) (o := .tup [.str "a b~", .bl true])))))))
    have fp3 := yl0 _ _ (yp6 _ _ (yp5 _ _ (yp4 _ _ ((upd_same (H := (upd (upd (upd H p0 (.tup [.str "a", .bl true])) p1 (.tup [.str "", .bl true])) p2 (.tup [.str "a b~", .bl true]))) (a := p3) (o := .tup [.str ⟨(List.replicate 40 (Str.ofString "b").cps).foldl (· ++ ·) #[]⟩, .bl true]))))))
    have fp4 := yl0 _ _ (yp6 _ _ (yp5 _ _ ((upd_same (H := (upd (upd (upd (upd H p0 (.tup [.str "a", .bl true])) p1 (.tup [.str "", .bl true])) p2 (.tup [.str "a b~", .bl true])) p3 (.tup [.str ⟨(List.replicate 40 (Str.ofString "b").cps).foldl (· ++ ·) #[]⟩, .bl true]))) (a := p4) (o := .tup [.str ⟨(List.replicate 41 (Str.ofString "b").cps).foldl (· ++ ·) #[]⟩, .bl false])))))
    have fp5 := yl0 _ _ (yp6 _ _ ((upd_same (H := (upd (upd (upd (upd (upd H p0 (.tup [.str "a", .bl true])) p1 (.tup [.str "", .bl true])) p2 (.tup [.str "a b~", .bl true])) p3 (.tup [.str ⟨(List.replicate 40 (Str.ofString "b").cps).foldl (· ++ ·) #[]⟩, .bl true])) p4 (.tup [.str ⟨(List.replicate 41 (Str.ofString "b").cps).foldl (· ++ ·) #[]⟩, .bl false]))) (a := p5) (o := .tup [.str "a\n", .bl false]))))
    have fp6 := yl0 _ _ ((upd_same (H := (upd (upd (upd (upd (upd (upd H p0 (.tup [.str "a", .bl true])) p1 (.tup [.str "", .bl true])) p2 (.tup [.str "a b~", .bl true])) p3 (.tup [.str ⟨(List.replicate 40 (Str.ofString "b").cps).foldl (· ++ ·) #[]⟩, .bl true])) p4 (.tup [.str ⟨(List.replicate 41 (Str.ofString "b").cps).foldl (· ++ ·) #[]⟩, .bl false])) p5 (.tup [.str "a\n", .bl false]))) (a := p6) (o := .tup [.non, .bl false])))
    have fl0 := (upd_same (H := (upd (upd (upd (upd (upd (upd (upd H p0 (.tup [.str "a", .bl true])) p1 (.tup [.str "", .bl true])) p2 (.tup [.str "a b~", .bl true])) p3 (.tup [.str ⟨(List.replicate 40 (Str.ofString "b").cps).foldl (· ++ ·) #[]⟩, .bl true])) p4 (.tup [.str ⟨(List.replicate 41 (Str.ofString "b").cps).foldl (· ++ ·) #[]⟩, .bl false])) p5 (.tup [.str "a\n", .bl false])) p6 (.tup [.non, .bl false]))) (a := l0) (o := .lst [.ref p0, .ref p1, .ref p2, .ref p3, .ref p4, .ref p5, .ref p6]))
    have yHa := yp0.trans (yp1.trans (yp2.trans (yp3.trans (yp4.trans (yp5.trans (yp6.trans (yl0)))))))
    generalize (upd (upd (upd (upd (upd (upd (upd (upd H p0 (.tup [.str "a", .bl true])) p1 (.tup [.str "", .bl true])) p2 (.tup [.str "a b~", .bl true])) p3 (.tup [.str ⟨(List.replicate 40 (Str.ofString "b").cps).foldl (· ++ ·) #[]⟩, .bl true])) p4 (.tup [.str ⟨(List.replicate 41 (Str.ofString "b").cps).foldl (· ++ ·) #[]⟩, .bl false])) p5 (.tup [.str "a\n", .bl false])) p6 (.tup [.non, .bl false])) l0 (.lst [.ref p0, .ref p1, .ref p2, .ref p3, .ref p4, .ref p5, .ref p6])) = Ha at yHa fp0 fp1 fp2 fp3 fp4 fp5 fp6 fl0 ⊢
    refine ⟨_, rfl, ?_⟩
    refine ⟨by show 2 ≤ sizeLine; decide, fun p7 hp7 => ?_⟩
    have yp7 := same_new (o := .tup [.int 5, .bl false]) hp7
    refine ⟨by show 1 ≤ sizeLine; decide, fun q8 hq8 => ?_⟩
    have yq8 := same_new (o := .tup [.str "a"]) hq8
    refine ⟨by show 2 ≤ sizeLine; decide, fun p8 hp8 => ?_⟩
    have yp8 := same_new (o := .tup [.ref q8, .bl false]) hp8
    refine ⟨by show 1 ≤ sizeLine; decide, fun q9 hq9 => ?_⟩
    have yq9 := same_new (o := .lst [.str "a"]) hq9
    refine ⟨by show 2 ≤ sizeLine; decide, fun p9 hp9 => ?_⟩
    have yp9 := same_new (o := .tup [.ref q9, .bl false]) hp9
    refine ⟨by show 3 ≤ sizeLine; decide, fun l1 hl1 => ?_⟩
    have yl1 := same_new (o := .lst [.ref p7, .ref p8, .ref p9]) hl1
    have fp7 := yl1 _ _ (yp9 _ _ (yq9 _ _ (yp8 _ _ (yq8 _ _ ((upd_same (H := Ha) (a := p7) (o := .tup [.int 5, .bl false])))))))
    have fq8 := yl1 _ _ (yp9 _ _ (yq9 _ _ (yp8 _ _ ((upd_same (H := (upd Ha p7 (.tup [.int 5, .bl false]))) (a := q8) (o := .tup [.str "a"]))))))
    have fp8 := yl1 _ _ (yp9 _ _ (yq9 _ _ ((upd_same (H := (upd (upd Ha p7 (.tup [.int 5, .bl false])) q8 (.tup [.str "a"]))) (a := p8) (o := .tup [.ref q8, .bl false])))))
    have fq9 := yl1 _ _ (yp9 _ _ ((upd_same (H := (upd (upd (upd Ha p7 (.tup [.int 5, .bl false])) q8 (.tup [.str "a"])) p8 (.tup [.ref q8, .bl false]))) (a := q9) (o := .lst [.str "a"]))))
    have fp9 := yl1 _ _ ((upd_same (H := (upd (upd (upd (upd Ha p7 (.tup [.int 5, .bl false])) q8 (.tup [.str "a"])) p8 (.tup [.ref q8, .bl false])) q9 (.lst [.str "a"]))) (a := p9) (o := .tup [.ref q9, .bl false])))
    have fl1 := (upd_same (H := (upd (upd (upd (upd (upd Ha p7 (.tup [.int 5, .bl false])) q8 (.tup [.str "a"])) p8 (.tup [.ref q8, .bl false])) q9 (.lst [.str "a"])) p9 (.tup [.ref q9, .bl false]))) (a := l1) (o := .lst [.ref p7, .ref p8, .ref p9]))
    have yHb := yp7.trans (yq8.trans (yp8.trans (yq9.trans (yp9.trans (yl1)))))
    generalize (upd (upd (upd (upd (upd (upd Ha p7 (.tup [.int 5, .bl false])) q8 (.tup [.str "a"])) p8 (.tup [.ref q8, .bl false])) q9 (.lst [.str "a"])) p9 (.tup [.ref q9, .bl false])) l1 (.lst [.ref p7, .ref p8, .ref p9])) = Hb at yHb fp7 fq8 fp8 fq9 fp9 fl1 ⊢
    refine ⟨l0, l1, _, _, rfl, rfl, yHb _ _ fl0, fl1, by show 7 + 3 ≤ sizeLine; decide, fun L hL => ?_⟩
    have yL := same_new (o := .lst [.ref p0, .ref p1, .ref p2, .ref p3, .ref p4, .ref p5, .ref p6, .ref p7, .ref p8, .ref p9]) hL
    have ya := yHa.trans (yHb.trans yL)
    have eL := upd_same (H := Hb) (a := L) (o := .lst [.ref p0, .ref p1, .ref p2, .ref p3, .ref p4, .ref p5, .ref p6, .ref p7, .ref p8, .ref p9])
    obtain ⟨kvs, es⟩ := hs.at
    have nL : L ≠ s := (ne_of_none (yHb _ _ (yHa _ _ es)) hL).symm
    have pk := pickL (K := K) (yL _ _ (yHb _ _ fp0)) (yL _ _ (yHb _ _ fp1)) (yL _ _ (yHb _ _ fp2)) (yL _ _ (yHb _ _ fp3)) (yL _ _ (yHb _ _ fp4)) (yL _ _ (yHb _ _ fp5)) (yL _ _ (yHb _ _ fp6)) (yL _ _ fp7) (yL _ _ fq8) (yL _ _ fp8) (yL _ _ fq9) (yL _ _ fp9)
    have hs2 := hs.same ya
    show tCall _ _ _ _ _ (upd Hb L (.lst [.ref p0, .ref p1, .ref p2, .ref p3, .ref p4, .ref p5, .ref p6, .ref p7, .ref p8, .ref p9])) _
    generalize upd Hb L (.lst [.ref p0, .ref p1, .ref p2, .ref p3, .ref p4, .ref p5, .ref p6, .ref p7, .ref p8, .ref p9]) = Hc at ya eL pk hs2 ⊢
    refine ⟨_, rfl, s, 10, n, rfl, hs2, by omega, by decide, by decide, fun m H3 hm s3 kp3 => ?_⟩
    obtain ⟨p, v, t, ev, et, rt⟩ := pk m hm
    refine ⟨L, _, (m : Int), _, rfl, rfl, SqL.of (kp3 L _ eL nL), atI_nat ev, ?_⟩
    exact k p v t H3 (kp3 p _ et (ne_of et hs2.at.choose_spec (by intro z; cases z))) (rt.kept hs2.at s3 kp3) s3 ((KeptS.of ya).trans kp3)
/-- a drawn code: as PT, and as data -/
inductive Cd (K : PySem.W.Frag) (H : Hp) : V → PT → PyData → Prop
  | int (z : Int) : Cd K H (.int z) (.int z) (.int z)
  | bl (b : Bool) : Cd K H (.bl b) (.bl b) (.bool b)
  | non : Cd K H .non .non .none
  | str : Cd K H (.str "1") (.str "1") (.str "1")
  | tup {a : Addr} (h : H a = some (.tup [.int 1])) : Cd K H (.ref a) (.tup [.int 1]) (.tuple [.int 1])
theorem Cd.rt {K : PySem.W.Frag} {H : Hp} {v : V} {t : PT} {d : PyData} (h : Cd K H v t d) : RT K H v t := by
  cases h with
  | int z => exact .int z
  | bl b => exact .bl b
  | non => exact .non
  | str => exact .str _ (by decide +kernel)
  | tup h => exact .tup h (.cons (.int _) .nil) (by show 1 ≤ 1000; decide)
theorem Cd.dp {K : PySem.W.Frag} {H : Hp} {v : V} {t : PT} {d : PyData} (h : Cd K H v t d) : Dp K H v d := by
  cases h with
  | int z => exact .int z
  | bl b => exact .bl b
  | non => exact .non
  | str => exact .str _
  | tup h => exact .tup (SqT.of h) (.cons (.int _) .nil)
theorem Cd.lay {K : PySem.W.Frag} {H : Hp} {v : V} {t : PT} {d : PyData} (h : Cd K H v t d) : PyData.canLay0 d = true ∧ PyData.depth d ≤ 1 := by
  cases h with
  | int z => exact ⟨by simp [PyData.canLay0], by simp [PyData.depth]⟩
  | bl b => exact ⟨by simp [PyData.canLay0], by simp [PyData.depth]⟩
  | non => exact ⟨by simp [PyData.canLay0], by simp [PyData.depth]⟩
  | str => exact ⟨by decide +kernel, by decide +kernel⟩
  | tup h => exact ⟨by decide +kernel, by decide +kernel⟩
theorem Cd.same {K : PySem.W.Frag} {H H' : Hp} {v : V} {t : PT} {d : PyData} (h : Cd K H v t d) (s : Same H H') : Cd K H' v t d := by
  cases h with
  | int z => exact .int z
  | bl b => exact .bl b
  | non => exact .non
  | str => exact .str
  | tup h => exact .tup (s _ _ h)
theorem Cd.ext {K : PySem.W.Frag} {H H' : Hp} {v : V} {t : PT} {d : PyData} (h : Cd K H v t d) (s : ExtN H H') : Cd K H' v t d := by
  cases h with
  | int z => exact .int z
  | bl b => exact .bl b
  | non => exact .non
  | str => exact .str
  | tup h => exact .tup (s _ _ h fun ps z => by cases z)
theorem Cd.kept {K : PySem.W.Frag} {H H' : Hp} {s : Addr} {v : V} {t : PT} {d : PyData} (h : Cd K H v t d) (hs0 : ∃ kvs, H s = some (.dK kvs)) (kp : KeptS H H' s) : Cd K H' v t d := by
  obtain ⟨kvs, e0⟩ := hs0
  cases h with
  | int z => exact .int z
  | bl b => exact .bl b
  | non => exact .non
  | str => exact .str
  | tup h => exact .tup (kp _ _ h (ne_of h e0 (by intro z; cases z)))
def spNum (K : PySem.W.Frag) : Sp := fun vs H Q _ => ∃ (s : Addr) (n : Nat), vs = [.ref s] ∧ Src H s n ∧ n + 4 < 2 ^ 40 ∧ ∀ (p : Addr) (v : V) (t : PT) (d : PyData) H', H' p = some (.tup [v, .bl t.isCode]) → Cd K H' v t d → Src H' s (n + 4) → KeptS H H' s → Q (.ref p) H'
theorem scNum : FnScope ["state", "some"] ["state"] (defScope sNum) := ⟨rfl, rfl, rfl, by decide +kernel, rfl, by decide +kernel, by decide +kernel⟩
theorem pickN {H : Hp} {p0 p1 p2 p3 p4 p5 p6 p7 p8 p9 q8 : Addr} (e0 : H p0 = some (.tup [.int 0, .bl true])) (e1 : H p1 = some (.tup [.int 1, .bl true])) (e2 : H p2 = some (.tup [.int 4294967295, .bl true])) (e3 : H p3 = some (.tup [.int 4294967296, .bl false])) (e4 : H p4 = some (.tup [.int (-1), .bl false])) (e5 : H p5 = some (.tup [.bl true, .bl false]))
    (e6 : H p6 = some (.tup [.non, .bl false])) (e7 : H p7 = some (.tup [.str "1", .bl false])) (f8 : H q8 = some (.tup [.int 1])) (e8 : H p8 = some (.tup [.ref q8, .bl false])) (e9 : H p9 = some (.tup [.int ((10 : Int) ^ (30 : Int).toNat), .bl false])) (n : Nat) (h : n < 10) :
    ∃ (p : Addr) (v : V) (t : PT) (d : PyData), ([V.ref p0, .ref p1, .ref p2, .ref p3, .ref p4, .ref p5, .ref p6, .ref p7, .ref p8, .ref p9] : List V)[n]? = some (.ref p) ∧ H p = some (.tup [v, .bl t.isCode]) ∧ Cd K H v t d := by
  match n, h with
  | 0, _ => exact ⟨_, _, .int 0, _, rfl, e0, .int _⟩
  | 1, _ => exact ⟨_, _, .int 1, _, rfl, e1, .int _⟩
  | 2, _ => exact ⟨_, _, .int 4294967295, _, rfl, e2, .int _⟩
  | 3, _ => exact ⟨_, _, .int 4294967296, _, rfl, e3, .int _⟩
  | 4, _ => exact ⟨_, _, .int (-1), _, rfl, e4, .int _⟩
  | 5, _ => exact ⟨_, _, .bl true, _, rfl, e5, .bl _⟩
  | 6, _ => exact ⟨_, _, .non, _, rfl, e6, .non⟩
  | 7, _ => exact ⟨_, _, .str "1", _, rfl, e7, .str⟩
  | 8, _ => exact ⟨_, _, .tup [.int 1], _, rfl, e8, .tup f8⟩
  | 9, _ => exact ⟨_, _, .int ((10 : Int) ^ (30 : Int).toNat), _, rfl, e9, .int _⟩
theorem ok_num {f f1 : Addr} {fd fd1 : FuncData} (D : Df K mg "_law_number" "_law_number" sNum ["state"] f fd) (D1 : Df K mg "_law_digit" "_law_digit" sDigit ["state", "size"] f1 fd1) (G1 : FnOk P w K mg base CX0 2 f1 fd1 ["state", "size"] spDigit) :
    FnOk P w K mg base CX0 3 f fd ["state"] (spNum K) := by
  refine D.F.ok scNum (fun vs H Q E h => ?_) (fun cdv A outer s H vs Q E hr h => ?_)
  · obtain ⟨s, n, rfl, _⟩ := h
    rfl
  · obtain ⟨s, n, rfl, hs, hn, k⟩ := h
    refine ⟨_, pss_cons (ps_set (i := 1) scNum.nd rfl (Or.inl rfl) (pe_lst (pa_cons (pe_tup (pa_cons pe_int (pa_cons pe_bl pa_nil))) (pa_cons (pe_tup (pa_cons pe_int (pa_cons pe_bl pa_nil))) (pa_cons (pe_tup (pa_cons pe_int (pa_cons pe_bl pa_nil))) (pa_cons (pe_tup (pa_cons pe_int (pa_cons pe_bl pa_nil)))
        (pa_cons (pe_tup (pa_cons (pe_un un_neg pe_int) (pa_cons pe_bl pa_nil))) (pa_cons (pe_tup (pa_cons pe_bl (pa_cons pe_bl pa_nil))) (pa_cons (pe_tup (pa_cons pe_non (pa_cons pe_bl pa_nil))) pa_nil)))))))))
      (pss_one (ps_ret (pe_ix ix_list (pe_op op_cat (pv 1) (pe_lst (pa_cons (pe_tup (pa_cons pe_str (pa_cons pe_bl pa_nil))) (pa_cons (pe_tup (pa_cons (pe_tup (pa_cons pe_int pa_nil)) (pa_cons pe_bl pa_nil))) (pa_cons (pe_tup (pa_cons (pe_op op_pow pe_int pe_int) (pa_cons pe_bl pa_nil))) pa_nil))))) (pe_call G1 hr rfl D1.g D1.F.kp D1.b .nil pass0 (pa_cons (pv 0) (pa_cons pe_int pa_nil))) (fun _ _ => rfl)))), ?_⟩
    refine ⟨by show 2 ≤ sizeLine; decide, fun p0 hp0 => ?_⟩
    have yp0 := same_new (o := .tup [.int 0, .bl true]) hp0
    refine ⟨by show 2 ≤ sizeLine; decide, fun p1 hp1 => ?_⟩
    have yp1 := same_new (o := .tup [.int 1, .bl true]) hp1
    refine ⟨by show 2 ≤ sizeLine; decide, fun p2 hp2 => ?_⟩
    have yp2 := same_new (o := .tup [.int 4294967295, .bl true]) hp2
    refine ⟨by show 2 ≤ sizeLine; decide, fun p3 hp3 => ?_⟩
    have yp3 := same_new (o := .tup [.int 4294967296, .bl false]) hp3
    refine ⟨_, rfl, by show 2 ≤ sizeLine; decide, fun p4 hp4 => ?_⟩
    have yp4 := same_new (o := .tup [.int (-1), .bl false]) hp4
    refine ⟨by show 2 ≤ sizeLine; decide, fun p5 hp5 => ?_⟩
    have yp5 := same_new (o := .tup [.bl true, .bl false]) hp5
    refine ⟨by show 2 ≤ sizeLine; decide, fun p6 hp6 => ?_⟩
    have yp6 := same_new (o := .tup [.non, .bl false]) hp6
    refine ⟨by show 7 ≤ sizeLine; decide, fun l0 hl0 => ?_⟩
    have yl0 := same_new (o := .lst [.ref p0, .ref p1, .ref p2, .ref p3, .ref p4, .ref p5, .ref p6]) hl0
    have fp0 := yl0 _ _ (yp6 _ _ (yp5 _ _ (yp4 _ _ (yp3 _ _ (yp2 _ _ (yp1 _ _ ((upd_same (H := H) (a := p0) (o := .tup [.int 0, .bl true])))))))))
    have fp1 := yl0 _ _ (yp6 _ _ (yp5 _ _ (yp4 _ _ (yp3 _ _ (yp2 _ _ ((upd_same (H := (upd H p0 (.tup [.int 0, .bl true]))) (a := p1) (o := .tup [.int 1, .bl true]))))))))
    have fp2 := yl0 _ _ (yp6 _ _ (yp5 _ _ (yp4 _ _ (yp3 _ _ ((upd_same (H := (upd (upd H p0 (.tup [.int 0, .bl true])) p1 (.tup [.int 1, .bl true]))) (a := p2) (o := .tup [.int 4294967295, .bl true])))))))
    have fp3 := yl0 _ _ (yp6 _ _ (yp5 _ _ (yp4 _ _ ((upd_same (H := (upd (upd (upd H p0 (.tup [.int 0, .bl true])) p1 (.tup [.int 1, .bl true])) p2 (.tup [.int 4294967295, .bl true]))) (a := p3) (o := .tup [.int 4294967296, .bl false]))))))
    have fp4 := yl0 _ _ (yp6 _ _ (yp5 _ _ ((upd_same (H := (upd (upd (upd (upd H p0 (.tup [.int 0, .bl true])) p1 (.tup [.int 1, .bl true])) p2 (.tup [.int 4294967295, .bl true])) p3 (.tup [.int 4294967296, .bl false]))) (a := p4) (o := .tup [.int (-1), .bl false])))))
    have fp5 := yl0 _ _ (yp6 _ _ ((upd_same (H := (upd (upd (upd (upd (upd H p0 (.tup [.int 0, .bl true])) p1 (.tup [.int 1, .bl true])) p2 (.tup [.int 4294967295, .bl true])) p3 (.tup [.int 4294967296, .bl false])) p4 (.tup [.int (-1), .bl false]))) (a := p5) (o := .tup [.bl true, .bl false]))))
    have fp6 := yl0 _ _ ((upd_same (H := (upd (upd (upd (upd (upd (upd H p0 (.tup [.int 0, .bl true])) p1 (.tup [.int 1, .bl true])) p2 (.tup [.int 4294967295, .bl true])) p3 (.tup [.int 4294967296, .bl false])) p4 (.tup [.int (-1), .bl false])) p5 (.tup [.bl true, .bl false]))) (a := p6) (o := .tup [.non, .bl false])))
    have fl0 := (upd_same (H := (upd (upd (upd (upd (upd (upd (upd H p0 (.tup [.int 0, .bl true])) p1 (.tup [.int 1, .bl true])) p2 (.tup [.int 4294967295, .bl true])) p3 (.tup [.int 4294967296, .bl false])) p4 (.tup [.int (-1), .bl false])) p5 (.tup [.bl true, .bl false])) p6 (.tup [.non, .bl false]))) (a := l0) (o := .lst [.ref p0, .ref p1, .ref p2, .ref p3, .ref p4, .ref p5, .ref p6]))
    have yHa := yp0.trans (yp1.trans (yp2.trans (yp3.trans (yp4.trans (yp5.trans (yp6.trans (yl0)))))))
    generalize (upd (upd (upd (upd (upd (upd (upd (upd H p0 (.tup [.int 0, .bl true])) p1 (.tup [.int 1, .bl true])) p2 (.tup [.int 4294967295, .bl true])) p3 (.tup [.int 4294967296, .bl false])) p4 (.tup [.int (-1), .bl false])) p5 (.tup [.bl true, .bl false])) p6 (.tup [.non, .bl false])) l0 (.lst [.ref p0, .ref p1, .ref p2, .ref p3, .ref p4, .ref p5, .ref p6])) = Ha at yHa fp0 fp1 fp2 fp3 fp4 fp5 fp6 fl0 ⊢
    refine ⟨_, rfl, ?_⟩
    refine ⟨by show 2 ≤ sizeLine; decide, fun p7 hp7 => ?_⟩
    have yp7 := same_new (o := .tup [.str "1", .bl false]) hp7
    refine ⟨by show 1 ≤ sizeLine; decide, fun q8 hq8 => ?_⟩
    have yq8 := same_new (o := .tup [.int 1]) hq8
    refine ⟨by show 2 ≤ sizeLine; decide, fun p8 hp8 => ?_⟩
    have yp8 := same_new (o := .tup [.ref q8, .bl false]) hp8
    refine ⟨_, _, rfl, rfl, ⟨by decide, by decide, by decide⟩, by show 2 ≤ sizeLine; decide, fun p9 hp9 => ?_⟩
    have yp9 := same_new (o := .tup [.int ((10 : Int) ^ (30 : Int).toNat), .bl false]) hp9
    refine ⟨by show 3 ≤ sizeLine; decide, fun l1 hl1 => ?_⟩
    have yl1 := same_new (o := .lst [.ref p7, .ref p8, .ref p9]) hl1
    have fp7 := yl1 _ _ (yp9 _ _ (yp8 _ _ (yq8 _ _ ((upd_same (H := Ha) (a := p7) (o := .tup [.str "1", .bl false]))))))
    have fq8 := yl1 _ _ (yp9 _ _ (yp8 _ _ ((upd_same (H := (upd Ha p7 (.tup [.str "1", .bl false]))) (a := q8) (o := .tup [.int 1])))))
    have fp8 := yl1 _ _ (yp9 _ _ ((upd_same (H := (upd (upd Ha p7 (.tup [.str "1", .bl false])) q8 (.tup [.int 1]))) (a := p8) (o := .tup [.ref q8, .bl false]))))
    have fp9 := yl1 _ _ ((upd_same (H := (upd (upd (upd Ha p7 (.tup [.str "1", .bl false])) q8 (.tup [.int 1])) p8 (.tup [.ref q8, .bl false]))) (a := p9) (o := .tup [.int ((10 : Int) ^ (30 : Int).toNat), .bl false])))
    have fl1 := (upd_same (H := (upd (upd (upd (upd Ha p7 (.tup [.str "1", .bl false])) q8 (.tup [.int 1])) p8 (.tup [.ref q8, .bl false])) p9 (.tup [.int ((10 : Int) ^ (30 : Int).toNat), .bl false]))) (a := l1) (o := .lst [.ref p7, .ref p8, .ref p9]))
    have yHb := yp7.trans (yq8.trans (yp8.trans (yp9.trans (yl1))))
    generalize (upd (upd (upd (upd (upd Ha p7 (.tup [.str "1", .bl false])) q8 (.tup [.int 1])) p8 (.tup [.ref q8, .bl false])) p9 (.tup [.int ((10 : Int) ^ (30 : Int).toNat), .bl false])) l1 (.lst [.ref p7, .ref p8, .ref p9])) = Hb at yHb fp7 fq8 fp8 fp9 fl1 ⊢
    refine ⟨l0, l1, _, _, rfl, rfl, yHb _ _ fl0, fl1, by show 7 + 3 ≤ sizeLine; decide, fun L hL => ?_⟩
    have yL := same_new (o := .lst [.ref p0, .ref p1, .ref p2, .ref p3, .ref p4, .ref p5, .ref p6, .ref p7, .ref p8, .ref p9]) hL
    have ya := yHa.trans (yHb.trans yL)
    have eL := upd_same (H := Hb) (a := L) (o := .lst [.ref p0, .ref p1, .ref p2, .ref p3, .ref p4, .ref p5, .ref p6, .ref p7, .ref p8, .ref p9])
    obtain ⟨kvs, es⟩ := hs.at
    have nL : L ≠ s := (ne_of_none (yHb _ _ (yHa _ _ es)) hL).symm
    have pk := pickN (K := K) (yL _ _ (yHb _ _ fp0)) (yL _ _ (yHb _ _ fp1)) (yL _ _ (yHb _ _ fp2)) (yL _ _ (yHb _ _ fp3)) (yL _ _ (yHb _ _ fp4)) (yL _ _ (yHb _ _ fp5)) (yL _ _ (yHb _ _ fp6)) (yL _ _ fp7) (yL _ _ fq8) (yL _ _ fp8) (yL _ _ fp9)
    have hs2 := hs.same ya
    show tCall _ _ _ _ _ (upd Hb L (.lst [.ref p0, .ref p1, .ref p2, .ref p3, .ref p4, .ref p5, .ref p6, .ref p7, .ref p8, .ref p9])) _
    generalize upd Hb L (.lst [.ref p0, .ref p1, .ref p2, .ref p3, .ref p4, .ref p5, .ref p6, .ref p7, .ref p8, .ref p9]) = Hc at ya eL pk hs2 ⊢
    refine ⟨_, rfl, s, 10, n, rfl, hs2, by omega, by decide, by decide, fun m H3 hm s3 kp3 => ?_⟩
    obtain ⟨p, v, t, d, ev, et, rt⟩ := pk m hm
    refine ⟨L, _, (m : Int), _, rfl, rfl, SqL.of (kp3 L _ eL nL), atI_nat ev, ?_⟩
    exact k p v t d H3 (kp3 p _ et (ne_of et hs2.at.choose_spec (by intro z; cases z))) (rt.kept hs2.at kp3) s3 ((KeptS.of ya).trans kp3)

def spGood (K : PySem.W.Frag) : Sp := fun vs H Q _ => ∃ (v : V) (t : PT), vs = [v] ∧ RT K H v t ∧ Q (.bl t.isCode) H
theorem scGood : FnScope ["code"] ["code"] (defScope sGood) := ⟨rfl, rfl, rfl, by decide +kernel, rfl, by decide +kernel, by decide +kernel⟩
theorem ok_good {f : Addr} {fd : FuncData} (D : Df K mg "_law_good" "_law_good" sGood ["code"] f fd) (B : Bl mg) : FnOk P w K mg base CX0 1 f fd ["code"] (spGood K) := by
  refine D.F.ok scGood (fun vs H Q E h => ?_) (fun cdv A outer s H vs Q E hr h => ?_)
  · obtain ⟨v, t, rfl, _⟩ := h
    rfl
  · obtain ⟨v, t, rfl, o, k⟩ := h
    obtain ⟨tv, ty, e1, e2, _⟩ := rt_ty o
    refine ⟨_, pss_one (ps_ret (pe_and (pe_callB call_isi (by rfl) B.isinstance (by decide +kernel) (pa_cons (pv 0) (pa_cons (pInt (by rfl) B.int) pa_nil)))
      (pe_and (pe_not (pe_callB call_isi (by rfl) B.isinstance (by decide +kernel) (pa_cons (pv 0) (pa_cons (pBool (by rfl) B.bool) pa_nil)))) (pe_one (pe_chain op_le op_lt pe_int (pv 0) pe_int))))), ?_⟩
    refine ⟨_, rfl, _, _, _, _, _, rfl, .ty _, ty, e1, _, rfl, ?_⟩
    cases o with
    | int z =>
      refine iteYes rfl ⟨_, rfl, _, _, _, _, _, rfl, .ty _, ty, e2, _, rfl, _, rfl, iteYes rfl ⟨_, rfl, _, _, rfl, rfl, _, rfl, ite2 (fun e => ?_) (fun e => ?_)⟩⟩
      · refine ⟨_, _, rfl, rfl, ?_⟩
        have ee : decide (z < 4294967296) = PT.isCode (.int z) := by
          show _ = (decide (0 ≤ z) && decide (z ≤ 4294967295))
          rw [e, Bool.true_and]
          exact decide_eq_decide.mpr (by omega)
        have k : Q (.bl (PT.isCode (.int z))) H := k
        rw [← ee] at k
        exact k
      · have ee : PT.isCode (.int z) = false := by
          show (decide (0 ≤ z) && decide (z ≤ 4294967295)) = false
          rw [Bool.eq_false_iff.mpr e, Bool.false_and]
        rw [ee] at k
        exact k
    | bl b => exact iteYes rfl ⟨_, rfl, _, _, _, _, _, rfl, .ty _, ty, e2, _, rfl, _, rfl, iteNo rfl k⟩
    | non => exact iteNo rfl k
    | str x hx => exact iteNo rfl k
    | tup h r hl => exact iteNo rfl k
    | lst h => exact iteNo rfl k
    | dk h => exact iteNo rfl k
    | ins h b => exact iteNo rfl k
/-! ### the first error -/
def spFirst : Sp := fun vs H Q _ => ∃ (a : Addr) (rs : List V) (es : List Er), vs = [.ref a] ∧ H a = some (.lst rs) ∧ Ers H rs es ∧ rs.length ≤ 100 ∧ ∀ v H', Same H H' → ErAt H' v (firstE es) → Q v H'
abbrev NFi : List Str := ["some", "found", "one"]
theorem scFirst : FnScope NFi ["some"] (defScope sFirst) := ⟨rfl, rfl, rfl, by decide +kernel, rfl, by decide +kernel, by decide +kernel⟩
def noV (H : Hp) (v : V) : Bool := match v with
  | .ref a => match H a with
    | some (.lst (_ :: _)) => true
    | _ => false
  | _ => false
theorem noV_er {H : Hp} {v : V} {e : Er} (h : ErAt H v e) : noV H v = !e.isNo := by
  obtain ⟨a, rfl, h⟩ := h
  unfold noV
  dsimp only
  rw [h]
  cases e <;> rfl
theorem ers_filter {H : Hp} : ∀ {vs : List V} {es : List Er}, Ers H vs es → Ers H (vs.filter (noV H)) (es.filter fun e => !e.isNo)
  | _, _, .nil => .nil
  | _, _, .cons (v := v) (e := e) h r => by
    have hv := noV_er h
    cases hb : (!e.isNo) with
    | true =>
      rw [hb] at hv
      rw [List.filter_cons_of_pos hv, List.filter_cons_of_pos (p := fun e : Er => !e.isNo) hb]
      exact .cons h (ers_filter r)
    | false =>
      rw [hb] at hv
      rw [List.filter_cons_of_neg (by rw [hv]; exact Bool.false_ne_true), List.filter_cons_of_neg (p := fun e : Er => !e.isNo) (by rw [hb]; exact Bool.false_ne_true)]
      exact ers_filter r
theorem ok_first {f : Addr} {fd : FuncData} (D : Df K mg "_law_first" "_law_first" sFirst ["some"] f fd) : FnOk P w K mg base CX0 1 f fd ["some"] spFirst := by
  refine D.F.ok scFirst (fun vs H Q E h => ?_) (fun cdv A outer s H vs Q E hr h => ?_)
  · obtain ⟨a, rs, es, rfl, _⟩ := h
    rfl
  · obtain ⟨a, rs, es, rfl, ha, hE, hl, k⟩ := h
    have hu64 := hr.units
    refine ⟨_, pss_cons (ps_setLc (i := 1) (own := [("one", 2)]) (g := gName 2) rfl scFirst.nd rfl rfl (sw_true rfl rfl rfl (by decide +kernel)) (pi_list (pv 0)) (blkOk_by (own := [("one", 2)]) (N := NFi) (sc := defScope sFirst) (by decide +kernel)) (fun _ _ _ _ _ => pg_name (i := 2) scFirst.nd rfl (Or.inl rfl)) (fun _ _ _ _ _ => pts_one (pt_cmpR (show OpR _ (compareOp .NotEq) (rNeD K) from op_neD (by exact hu64)) (pv 2) (pe_lst pa_nil) (nomark _)))
        (fun _ _ _ _ _ => pv 2))
      (pss_one (ps_ret (pe_ifExp (pt_cmpR (op_neD hu64) (pv 1) (pe_lst pa_nil) (nomark _)) (pe_ix ix_list (pv 1) pe_int (fun _ _ => rfl)) (pe_lst pa_nil)))), ?_⟩
    refine ⟨_, rfl, a, rfl, ⟨_, SqL.of ha⟩, fun Dl hD => ?_⟩
    refine Cm.lc_filt (walk_list (K := K) (a := a) (xs := rs)) rs (noV H) rfl (Nat.le_trans hl (by decide)) hD (fun _ sm => SqL.of (sm _ _ ha)) (fun i y x H2 H3 Qk N hy sm hw hQ hN => ?_) (fun H2 sm hl2 => ?_)
    · obtain ⟨rfl, hx⟩ := hw
      rw [hy] at hx
      cases hx
      obtain ⟨e, he, hat⟩ := hE.get hy
      have hat2 := hat.same sm
      have hp := noV_er hat
      refine ⟨rfl, ?_⟩
      refine ⟨_, rfl, by show 0 ≤ sizeLine; decide, fun L hL => ?_⟩
      have y1 := same_new (o := .lst []) hL
      refine ⟨.list e.dt, .list [], (hat2.same y1).dp, .lst (SqL.of upd_same) .nil, er_shaped e, by decide +kernel, _, rfl, ?_⟩
      rw [er_nil]
      cases hb : e.isNo with
      | true => exact iteNo rfl (hN (by rw [hp, hb]; rfl) _ y1)
      | false => exact iteYes rfl ⟨_, rfl, hQ (by rw [hp, hb]; rfl) _ fun b o z => y1 _ _ z⟩
    · have hF := (ers_filter hE).same sm
      generalize hes : (es.filter fun e => !e.isNo) = fs at hF
      refine ⟨_, rfl, by show 0 ≤ sizeLine; decide, fun L hL => ?_⟩
      have y1 := same_new (o := .lst []) hL
      have hF1 := hF.same y1
      refine ⟨ersD fs, .list [], .lst (SqL.of (y1 _ _ hl2)) hF1.dp, .lst (SqL.of upd_same) .nil, ers_shaped fs, by decide +kernel, _, rfl, ?_⟩
      rw [ers_nil]
      have kf : firstE es = fs.headD .no := by unfold firstE; rw [hes]
      generalize rs.filter (noV H) = ys at hl2 hF1 hF
      cases hF1 with
      | nil =>
        refine iteNo rfl ⟨by show 0 ≤ sizeLine; decide, fun L2 hL2 => ?_⟩
        have y2 := same_new (o := .lst []) hL2
        refine k _ _ (sm.trans (y1.trans y2)) ⟨L2, rfl, ?_⟩
        rw [kf]
        exact upd_same
      | @cons v e vs' es' h r =>
        refine iteYes rfl ⟨_, rfl, Dl, _, (0 : Int), _, rfl, rfl, SqL.of (y1 _ _ hl2), atI_nat (j := 0) rfl, ?_⟩
        refine k _ _ (sm.trans y1) ?_
        rw [kf]
        exact h
end
end K03
set_option Elab.async false
set_option linter.all false
set_option maxRecDepth 100000
set_option maxHeartbeats 4000000
namespace K03
open PySem L2 Xo Lm LamX
abbrev sSteps : Stmt := top 44
section
variable {P : Program} {w : World} {K : PySem.W.Frag} {mg : Str → Option Value} {base : Heap}
theorem RT.updL {H : Hp} {a : Addr} {xs ys : List V} (ha : H a = some (.lst xs)) {v : V} {t : PT} (h : RT K H v t) : RT K (upd H a (.lst ys)) v t := by
  refine RT.rec (motive_1 := fun v t _ => RT K (upd H a (.lst ys)) v t) (motive_2 := fun vs ts _ => RTs K (upd H a (.lst ys)) vs ts) .non .bl .int .str (fun h r hl ih => ?_) (fun {b vs} h => ?_) (fun {b kvs} h => ?_) (fun {b C dx fs} h i => ?_) .nil (fun h r ih1 ih2 => .cons ih1 ih2) h
  · exact .tup (by rw [upd_ne (ne_of h ha (by intro z; cases z))]; exact h) ih hl
  · by_cases z : b = a
    · subst z
      exact .lst upd_same
    · exact .lst (by rw [upd_ne z]; exact h)
  · exact .dk (by rw [upd_ne (ne_of h ha (by intro z; cases z))]; exact h)
  · exact .ins (by rw [upd_ne (ne_of h ha (by intro z; cases z))]; exact h) i
theorem RTs.updL {H : Hp} {a : Addr} {xs ys : List V} (ha : H a = some (.lst xs)) : ∀ {vs : List V} {ts : List PT}, RTs K H vs ts → RTs K (upd H a (.lst ys)) vs ts
  | _, _, .nil => .nil
  | _, _, .cons h r => .cons (h.updL ha) (r.updL ha)
theorem Src.updL {H : Hp} {s a : Addr} {n : Nat} {xs ys : List V} (ha : H a = some (.lst xs)) (h : Src H s n) : Src (upd H a (.lst ys)) s n := by
  obtain ⟨l, c, t, e, r⟩ := h
  exact ⟨l, c, t, by rw [upd_ne (ne_of e ha (by intro z; cases z))]; exact e, r⟩
def goodT : List PT := [.tup [.str "put", .non, .oth], .tup [.str "drop", .oth], .tup [.str "clear"], .tup [.str "compact"], .tup [.str "shrink"], .tup [.str "reserve", .str "x"]]
def wrongT : List PT := [.tup [.str "put", .int 1], .tup [.str "drop"], .tup [.str "clear", .int 1], .tup [.str "drop", .int 1, .int 2], .tup [.str "grow"], .tup [], .non, .oth, .str "clear", .tup [.int 5], .tup [.str "take", .int 1]]
theorem good_all : (goodT.all fun t => t.fits && t.seen) = true := by decide +kernel
theorem wrong_all : (wrongT.all fun t => !t.fits && t.seen) = true := by decide +kernel
theorem none_of {H H1 : Hp} {a : Addr} (s : Same H H1) (h : H1 a = none) : H a = none := by
  cases z : H a with
  | none => rfl
  | some o => rw [s _ _ z] at h; cases h
def erOf : Option Nat → Er
  | none => .no
  | some i => .step i
def spSteps (K : PySem.W.Frag) : Sp := fun vs H Q _ => ∃ (s : Addr) (n : Nat), vs = [.ref s] ∧ Src H s n ∧ n + 60 < 2 ^ 40 ∧ ∀ (p : Addr) (v e : V) (t : PT) H', H' p = some (.tup [v, e]) → ErAt H' e (erOf t.stepBad) → RT K H' v t → t.seenAll = true → Src H' s (n + 60) → KeptS H H' s → Q (.ref p) H'
abbrev NSt : List Str := ["state", "good", "wrong", "many", "rows", "j", "way"]
theorem scSteps : FnScope NSt ["state"] (defScope sSteps) := ⟨rfl, rfl, rfl, by decide +kernel, rfl, by decide +kernel, by decide +kernel⟩
theorem ok_steps {f f1 : Addr} {fd fd1 : FuncData} (D : Df K mg "_law_steps" "_law_steps" sSteps ["state"] f fd) (B : Bl mg) (D1 : Df K mg "_law_digit" "_law_digit" sDigit ["state", "size"] f1 fd1) (G1 : FnOk P w K mg base CX0 2 f1 fd1 ["state", "size"] spDigit) :
    FnOk P w K mg base CX0 3 f fd ["state"] (spSteps K) := by
  refine D.F.ok scSteps (fun vs H Q E h => ?_) (fun cdv A outer sh H vs Q E hr h => ?_)
  · obtain ⟨s, n, rfl, _⟩ := h
    rfl
  · obtain ⟨s, n, rfl, hs, hn, k⟩ := h
    refine ⟨_, pss_cons (ps_set (i := 1) scSteps.nd rfl (Or.inr rfl) (pe_lst (pa_cons (pe_tup (pa_cons pe_str (pa_cons pe_non (pa_cons (pe_lst pa_nil) pa_nil)))) (pa_cons (pe_tup (pa_cons pe_str (pa_cons pe_dnewK pa_nil))) (pa_cons (pe_tup (pa_cons pe_str pa_nil)) (pa_cons (pe_tup (pa_cons pe_str pa_nil)) (pa_cons (pe_tup (pa_cons pe_str pa_nil)) (pa_cons (pe_tup (pa_cons pe_str (pa_cons pe_str pa_nil))) pa_nil))))))))
      (pss_cons (ps_set (i := 2) scSteps.nd rfl (Or.inl rfl) (pe_lst (pa_cons (pe_tup (pa_cons pe_str (pa_cons pe_int pa_nil))) (pa_cons (pe_tup (pa_cons pe_str pa_nil)) (pa_cons (pe_tup (pa_cons pe_str (pa_cons pe_int pa_nil))) (pa_cons (pe_tup (pa_cons pe_str (pa_cons pe_int (pa_cons pe_int pa_nil)))) (pa_cons (pe_tup (pa_cons pe_str pa_nil)) (pa_cons (pe_tup pa_nil) (pa_cons pe_non (pa_cons (pe_lst (pa_cons pe_str pa_nil)) (pa_cons pe_str (pa_cons (pe_tup (pa_cons pe_int pa_nil)) pa_nil))))))))))))
      (pss_cons (ps_expr (pe_bm PySem.F.plainAttrs_list PySem.F.slot_list_append PySem.F.type_list_append mt_append (pv 2) (pa_cons (pe_tup (pa_cons pe_str (pa_cons pe_int pa_nil))) pa_nil)))
      (pss_cons (ps_set (i := 3) scSteps.nd rfl (Or.inl rfl) (pe_call G1 hr rfl D1.g D1.F.kp D1.b .nil pass0 (pa_cons (pv 0) (pa_cons pe_int pa_nil))))
      (pss_cons (ps_setLc (i := 4) (own := [("j", 5)]) (g := gName 5) (tt := tYes) rfl scSteps.nd rfl rfl (sw_true rfl rfl rfl (by decide +kernel)) (pi_range1 rfl B.range (pa_cons (pv 3) pa_nil)) (blkOk_by (own := [("j", 5)]) (N := NSt) (sc := defScope sSteps) (by decide +kernel)) (fun _ _ _ _ _ => pg_name (i := 5) scSteps.nd rfl (Or.inl rfl)) (fun _ _ _ _ _ => pts_nil)
        (fun _ _ _ _ _ => pe_ix (show IxR _ (rIxL K) from ix_list) (pv 1) (pe_call G1 hr rfl D1.g D1.F.kp D1.b .nil pass0 (pa_cons (pv 0) (pa_cons pe_int pa_nil))) (fun _ _ => rfl)))
      (pss_cons (ps_set (i := 6) scSteps.nd rfl (Or.inl rfl) (pe_call G1 hr rfl D1.g D1.F.kp D1.b .nil pass0 (pa_cons (pv 0) (pa_cons pe_int pa_nil))))
      (pss_cons (ps_if (pt_cmpR op_eq (pv 6) pe_int (nomark _)) (pss_one (ps_ret (pe_tup (pa_cons (pe_ix ix_list (pe_lst (pa_cons (pe_callTy call_list_of (by rfl) B.list (by decide +kernel) (pa_cons (pv 4) pa_nil)) (pa_cons pe_non (pa_cons pe_str (pa_cons pe_int pa_nil))))) (pe_call G1 hr rfl D1.g D1.F.kp D1.b .nil pass0 (pa_cons (pv 0) (pa_cons pe_int pa_nil))) (fun _ _ => rfl)) (pa_cons (pe_lst (pa_cons pe_str (pa_cons pe_int pa_nil))) pa_nil))))) pss_nil)
      (pss_cons (ps_if (pt_cmpR op_eq (pv 6) pe_int (nomark _)) (pss_cons (ps_set (i := 4) scSteps.nd rfl (Or.inl rfl) (pe_op op_cat (pv 4) (pe_lst (pa_cons (pe_ix ix_list (pv 2) (pe_call G1 hr rfl D1.g D1.F.kp D1.b .nil pass0 (pa_cons (pv 0) (pa_cons pe_int pa_nil))) (fun _ _ => rfl)) (pa_cons (pe_ix ix_list (pv 1) (pe_call G1 hr rfl D1.g D1.F.kp D1.b .nil pass0 (pa_cons (pv 0) (pa_cons pe_int pa_nil))) (fun _ _ => rfl)) (pa_cons pe_non pa_nil))))))
        (pss_one (ps_ret (pe_tup (pa_cons (pe_callTy call_tuple_of (by rfl) B.tuple (by decide +kernel) (pa_cons (pv 4) pa_nil)) (pa_cons (pe_lst (pa_cons pe_str (pa_cons (pv 3) pa_nil))) pa_nil)))))) pss_nil)
      (pss_one (ps_ret (pe_tup (pa_cons (pe_callTy call_tuple_of (by rfl) B.tuple (by decide +kernel) (pa_cons (pv 4) pa_nil)) (pa_cons (pe_lst pa_nil) pa_nil)))))))))))), ?_⟩
    refine ⟨by show 0 ≤ sizeLine; decide, fun i0 hi0 => ?_⟩
    have yi0 := same_new (o := .lst []) hi0
    refine ⟨by show 3 ≤ sizeLine; decide, fun g0 hg0 => ?_⟩
    have yg0 := same_new (o := .tup [.str "put", .non, .ref i0]) hg0
    intro d1 hd1
    have yd1 := same_new (o := .dK []) hd1
    refine ⟨by show 2 ≤ sizeLine; decide, fun g1 hg1 => ?_⟩
    have yg1 := same_new (o := .tup [.str "drop", .ref d1]) hg1
    refine ⟨by show 1 ≤ sizeLine; decide, fun g2 hg2 => ?_⟩
    have yg2 := same_new (o := .tup [.str "clear"]) hg2
    refine ⟨by show 1 ≤ sizeLine; decide, fun g3 hg3 => ?_⟩
    have yg3 := same_new (o := .tup [.str "compact"]) hg3
    refine ⟨by show 1 ≤ sizeLine; decide, fun g4 hg4 => ?_⟩
    have yg4 := same_new (o := .tup [.str "shrink"]) hg4
    refine ⟨by show 2 ≤ sizeLine; decide, fun g5 hg5 => ?_⟩
    have yg5 := same_new (o := .tup [.str "reserve", .str "x"]) hg5
    refine ⟨by show 6 ≤ sizeLine; decide, fun lg hlg => ?_⟩
    have ylg := same_new (o := .lst [.ref g0, .ref g1, .ref g2, .ref g3, .ref g4, .ref g5]) hlg
    have fi0 := ylg _ _ (yg5 _ _ (yg4 _ _ (yg3 _ _ (yg2 _ _ (yg1 _ _ (yd1 _ _ (yg0 _ _ ((upd_same (H := H) (a := i0) (o := .lst []))))))))))
    have fg0 := ylg _ _ (yg5 _ _ (yg4 _ _ (yg3 _ _ (yg2 _ _ (yg1 _ _ (yd1 _ _ ((upd_same (H := (upd H i0 (.lst []))) (a := g0) (o := .tup [.str "put", .non, .ref i0])))))))))
    have fd1 := ylg _ _ (yg5 _ _ (yg4 _ _ (yg3 _ _ (yg2 _ _ (yg1 _ _ ((upd_same (H := (upd (upd H i0 (.lst [])) g0 (.tup [.str "put", .non, .ref i0]))) (a := d1) (o := .dK []))))))))
    have fg1 := ylg _ _ (yg5 _ _ (yg4 _ _ (yg3 _ _ (yg2 _ _ ((upd_same (H := (upd (upd (upd H i0 (.lst [])) g0 (.tup [.str "put", .non, .ref i0])) d1 (.dK []))) (a := g1) (o := .tup [.str "drop", .ref d1])))))))
    have fg2 := ylg _ _ (yg5 _ _ (yg4 _ _ (yg3 _ _ ((upd_same (H := (upd (upd (upd (upd H i0 (.lst [])) g0 (.tup [.str "put", .non, .ref i0])) d1 (.dK [])) g1 (.tup [.str "drop", .ref d1]))) (a := g2) (o := .tup [.str "clear"]))))))
    have fg3 := ylg _ _ (yg5 _ _ (yg4 _ _ ((upd_same (H := (upd (upd (upd (upd (upd H i0 (.lst [])) g0 (.tup [.str "put", .non, .ref i0])) d1 (.dK [])) g1 (.tup [.str "drop", .ref d1])) g2 (.tup [.str "clear"]))) (a := g3) (o := .tup [.str "compact"])))))
    have fg4 := ylg _ _ (yg5 _ _ ((upd_same (H := (upd (upd (upd (upd (upd (upd H i0 (.lst [])) g0 (.tup [.str "put", .non, .ref i0])) d1 (.dK [])) g1 (.tup [.str "drop", .ref d1])) g2 (.tup [.str "clear"])) g3 (.tup [.str "compact"]))) (a := g4) (o := .tup [.str "shrink"]))))
    have fg5 := ylg _ _ ((upd_same (H := (upd (upd (upd (upd (upd (upd (upd H i0 (.lst [])) g0 (.tup [.str "put", .non, .ref i0])) d1 (.dK [])) g1 (.tup [.str "drop", .ref d1])) g2 (.tup [.str "clear"])) g3 (.tup [.str "compact"])) g4 (.tup [.str "shrink"]))) (a := g5) (o := .tup [.str "reserve", .str "x"])))
    have flg := (upd_same (H := (upd (upd (upd (upd (upd (upd (upd (upd H i0 (.lst [])) g0 (.tup [.str "put", .non, .ref i0])) d1 (.dK [])) g1 (.tup [.str "drop", .ref d1])) g2 (.tup [.str "clear"])) g3 (.tup [.str "compact"])) g4 (.tup [.str "shrink"])) g5 (.tup [.str "reserve", .str "x"]))) (a := lg) (o := .lst [.ref g0, .ref g1, .ref g2, .ref g3, .ref g4, .ref g5]))
    have yHa := yi0.trans (yg0.trans (yd1.trans (yg1.trans (yg2.trans (yg3.trans (yg4.trans (yg5.trans (ylg))))))))
    have nHa := none_of (yi0.trans (yg0.trans (yd1.trans (yg1.trans (yg2.trans (yg3.trans (yg4.trans (yg5)))))))) hlg
    generalize (upd (upd (upd (upd (upd (upd (upd (upd (upd H i0 (.lst [])) g0 (.tup [.str "put", .non, .ref i0])) d1 (.dK [])) g1 (.tup [.str "drop", .ref d1])) g2 (.tup [.str "clear"])) g3 (.tup [.str "compact"])) g4 (.tup [.str "shrink"])) g5 (.tup [.str "reserve", .str "x"])) lg (.lst [.ref g0, .ref g1, .ref g2, .ref g3, .ref g4, .ref g5])) = Ha at yHa fi0 fg0 fd1 fg1 fg2 fg3 fg4 fg5 flg ⊢
    refine ⟨by show 2 ≤ sizeLine; decide, fun w0 hw0 => ?_⟩
    have yw0 := same_new (o := .tup [.str "put", .int 1]) hw0
    refine ⟨by show 1 ≤ sizeLine; decide, fun w1 hw1 => ?_⟩
    have yw1 := same_new (o := .tup [.str "drop"]) hw1
    refine ⟨by show 2 ≤ sizeLine; decide, fun w2 hw2 => ?_⟩
    have yw2 := same_new (o := .tup [.str "clear", .int 1]) hw2
    refine ⟨by show 3 ≤ sizeLine; decide, fun w3 hw3 => ?_⟩
    have yw3 := same_new (o := .tup [.str "drop", .int 1, .int 2]) hw3
    refine ⟨by show 1 ≤ sizeLine; decide, fun w4 hw4 => ?_⟩
    have yw4 := same_new (o := .tup [.str "grow"]) hw4
    refine ⟨by show 0 ≤ sizeLine; decide, fun w5 hw5 => ?_⟩
    have yw5 := same_new (o := .tup []) hw5
    refine ⟨by show 1 ≤ sizeLine; decide, fun w7 hw7 => ?_⟩
    have yw7 := same_new (o := .lst [.str "clear"]) hw7
    refine ⟨by show 1 ≤ sizeLine; decide, fun w9 hw9 => ?_⟩
    have yw9 := same_new (o := .tup [.int 5]) hw9
    refine ⟨by show 10 ≤ sizeLine; decide, fun lw hlw => ?_⟩
    have ylw := same_new (o := .lst [.ref w0, .ref w1, .ref w2, .ref w3, .ref w4, .ref w5, .non, .ref w7, .str "clear", .ref w9]) hlw
    have fw0 := ylw _ _ (yw9 _ _ (yw7 _ _ (yw5 _ _ (yw4 _ _ (yw3 _ _ (yw2 _ _ (yw1 _ _ ((upd_same (H := Ha) (a := w0) (o := .tup [.str "put", .int 1]))))))))))
    have fw1 := ylw _ _ (yw9 _ _ (yw7 _ _ (yw5 _ _ (yw4 _ _ (yw3 _ _ (yw2 _ _ ((upd_same (H := (upd Ha w0 (.tup [.str "put", .int 1]))) (a := w1) (o := .tup [.str "drop"])))))))))
    have fw2 := ylw _ _ (yw9 _ _ (yw7 _ _ (yw5 _ _ (yw4 _ _ (yw3 _ _ ((upd_same (H := (upd (upd Ha w0 (.tup [.str "put", .int 1])) w1 (.tup [.str "drop"]))) (a := w2) (o := .tup [.str "clear", .int 1]))))))))
    have fw3 := ylw _ _ (yw9 _ _ (yw7 _ _ (yw5 _ _ (yw4 _ _ ((upd_same (H := (upd (upd (upd Ha w0 (.tup [.str "put", .int 1])) w1 (.tup [.str "drop"])) w2 (.tup [.str "clear", .int 1]))) (a := w3) (o := .tup [.str "drop", .int 1, .int 2])))))))
    have fw4 := ylw _ _ (yw9 _ _ (yw7 _ _ (yw5 _ _ ((upd_same (H := (upd (upd (upd (upd Ha w0 (.tup [.str "put", .int 1])) w1 (.tup [.str "drop"])) w2 (.tup [.str "clear", .int 1])) w3 (.tup [.str "drop", .int 1, .int 2]))) (a := w4) (o := .tup [.str "grow"]))))))
    have fw5 := ylw _ _ (yw9 _ _ (yw7 _ _ ((upd_same (H := (upd (upd (upd (upd (upd Ha w0 (.tup [.str "put", .int 1])) w1 (.tup [.str "drop"])) w2 (.tup [.str "clear", .int 1])) w3 (.tup [.str "drop", .int 1, .int 2])) w4 (.tup [.str "grow"]))) (a := w5) (o := .tup [])))))
    have fw7 := ylw _ _ (yw9 _ _ ((upd_same (H := (upd (upd (upd (upd (upd (upd Ha w0 (.tup [.str "put", .int 1])) w1 (.tup [.str "drop"])) w2 (.tup [.str "clear", .int 1])) w3 (.tup [.str "drop", .int 1, .int 2])) w4 (.tup [.str "grow"])) w5 (.tup []))) (a := w7) (o := .lst [.str "clear"]))))
    have fw9 := ylw _ _ ((upd_same (H := (upd (upd (upd (upd (upd (upd (upd Ha w0 (.tup [.str "put", .int 1])) w1 (.tup [.str "drop"])) w2 (.tup [.str "clear", .int 1])) w3 (.tup [.str "drop", .int 1, .int 2])) w4 (.tup [.str "grow"])) w5 (.tup [])) w7 (.lst [.str "clear"]))) (a := w9) (o := .tup [.int 5])))
    have flw := (upd_same (H := (upd (upd (upd (upd (upd (upd (upd (upd Ha w0 (.tup [.str "put", .int 1])) w1 (.tup [.str "drop"])) w2 (.tup [.str "clear", .int 1])) w3 (.tup [.str "drop", .int 1, .int 2])) w4 (.tup [.str "grow"])) w5 (.tup [])) w7 (.lst [.str "clear"])) w9 (.tup [.int 5]))) (a := lw) (o := .lst [.ref w0, .ref w1, .ref w2, .ref w3, .ref w4, .ref w5, .non, .ref w7, .str "clear", .ref w9]))
    have yHb := yw0.trans (yw1.trans (yw2.trans (yw3.trans (yw4.trans (yw5.trans (yw7.trans (yw9.trans (ylw))))))))
    have nHb := none_of (yw0.trans (yw1.trans (yw2.trans (yw3.trans (yw4.trans (yw5.trans (yw7.trans (yw9)))))))) hlw
    generalize (upd (upd (upd (upd (upd (upd (upd (upd (upd Ha w0 (.tup [.str "put", .int 1])) w1 (.tup [.str "drop"])) w2 (.tup [.str "clear", .int 1])) w3 (.tup [.str "drop", .int 1, .int 2])) w4 (.tup [.str "grow"])) w5 (.tup [])) w7 (.lst [.str "clear"])) w9 (.tup [.int 5])) lw (.lst [.ref w0, .ref w1, .ref w2, .ref w3, .ref w4, .ref w5, .non, .ref w7, .str "clear", .ref w9])) = Hb at yHb fw0 fw1 fw2 fw3 fw4 fw5 fw7 fw9 flw ⊢
    refine ⟨_, rfl, .inl ⟨rfl, _, SqL.of flw⟩, by show 2 ≤ sizeLine; decide, fun wa hwa => ?_⟩
    have ywa := same_new (o := .tup [.str "take", .int 1]) hwa
    have flw2 := ywa _ _ flw
    refine ⟨lw, _, _, rfl, rfl, flw2, by show 10 < sizeLine; decide, ?_⟩
    have hlw0 : H lw = none := none_of yHa nHb
    have yc := Cm.same_upd (o := .lst ([.ref w0, .ref w1, .ref w2, .ref w3, .ref w4, .ref w5, .non, .ref w7, .str "clear", .ref w9] ++ [.ref wa])) (yHa.trans (yHb.trans ywa)) hlw0
    have rg : RTs K (upd Hb wa (.tup [.str "take", .int 1])) [.ref g0, .ref g1, .ref g2, .ref g3, .ref g4, .ref g5] goodT := (.cons (.tup (ywa _ _ (yHb _ _ fg0)) (.cons (.str _ (by decide +kernel)) (.cons .non (.cons (.lst (ywa _ _ (yHb _ _ fi0))) .nil))) (by show 3 ≤ 1000; decide)) (.cons (.tup (ywa _ _ (yHb _ _ fg1)) (.cons (.str _ (by decide +kernel)) (.cons (.dk (ywa _ _ (yHb _ _ fd1))) .nil)) (by show 2 ≤ 1000; decide)) (.cons (.tup (ywa _ _ (yHb _ _ fg2)) (.cons (.str _ (by decide +kernel)) .nil) (by show 1 ≤ 1000; decide)) (.cons (.tup (ywa _ _ (yHb _ _ fg3)) (.cons (.str _ (by decide +kernel)) .nil) (by show 1 ≤ 1000; decide)) (.cons (.tup (ywa _ _ (yHb _ _ fg4)) (.cons (.str _ (by decide +kernel)) .nil) (by show 1 ≤ 1000; decide)) (.cons (.tup (ywa _ _ (yHb _ _ fg5)) (.cons (.str _ (by decide +kernel)) (.cons (.str _ (by decide +kernel)) .nil)) (by show 2 ≤ 1000; decide)) .nil))))))
    have rw : RTs K (upd Hb wa (.tup [.str "take", .int 1])) ([.ref w0, .ref w1, .ref w2, .ref w3, .ref w4, .ref w5, .non, .ref w7, .str "clear", .ref w9] ++ [.ref wa]) wrongT := (.cons (.tup (ywa _ _ fw0) (.cons (.str _ (by decide +kernel)) (.cons (.int _) .nil)) (by show 2 ≤ 1000; decide)) (.cons (.tup (ywa _ _ fw1) (.cons (.str _ (by decide +kernel)) .nil) (by show 1 ≤ 1000; decide)) (.cons (.tup (ywa _ _ fw2) (.cons (.str _ (by decide +kernel)) (.cons (.int _) .nil)) (by show 2 ≤ 1000; decide)) (.cons (.tup (ywa _ _ fw3) (.cons (.str _ (by decide +kernel)) (.cons (.int _) (.cons (.int _) .nil))) (by show 3 ≤ 1000; decide)) (.cons (.tup (ywa _ _ fw4) (.cons (.str _ (by decide +kernel)) .nil) (by show 1 ≤ 1000; decide)) (.cons (.tup (ywa _ _ fw5) .nil (by show 0 ≤ 1000; decide)) (.cons .non (.cons (.lst (ywa _ _ fw7)) (.cons (.str _ (by decide +kernel)) (.cons (.tup (ywa _ _ fw9) (.cons (.int _) .nil) (by show 1 ≤ 1000; decide)) (.cons (.tup upd_same (.cons (.str _ (by decide +kernel)) (.cons (.int _) .nil)) (by show 2 ≤ 1000; decide)) .nil)))))))))))
    have rg := rg.updL (ys := ([.ref w0, .ref w1, .ref w2, .ref w3, .ref w4, .ref w5, .non, .ref w7, .str "clear", .ref w9] ++ [.ref wa])) flw2
    have rw := rw.updL (ys := ([.ref w0, .ref w1, .ref w2, .ref w3, .ref w4, .ref w5, .non, .ref w7, .str "clear", .ref w9] ++ [.ref wa])) flw2
    have elw : upd (upd Hb wa (.tup [.str "take", .int 1])) lw (.lst ([.ref w0, .ref w1, .ref w2, .ref w3, .ref w4, .ref w5, .non, .ref w7, .str "clear", .ref w9] ++ [.ref wa])) lw = some (.lst ([.ref w0, .ref w1, .ref w2, .ref w3, .ref w4, .ref w5, .non, .ref w7, .str "clear", .ref w9] ++ [.ref wa])) := upd_same
    have nlg : lg ≠ lw := fun z => by
      have h1 := yHb _ _ flg
      rw [z, flw] at h1
      cases h1
    have elg : upd (upd Hb wa (.tup [.str "take", .int 1])) lw (.lst ([.ref w0, .ref w1, .ref w2, .ref w3, .ref w4, .ref w5, .non, .ref w7, .str "clear", .ref w9] ++ [.ref wa])) lg = some (.lst [.ref g0, .ref g1, .ref g2, .ref g3, .ref g4, .ref g5]) := by
      rw [upd_ne nlg]
      exact ywa _ _ (yHb _ _ flg)
    have hsc := hs.same yc
    obtain ⟨kvs, es⟩ := hs.at
    have nls : lw ≠ s := fun z => by
      rw [z, es] at hlw0
      cases hlw0
    have ngs : lg ≠ s := fun z => by
      have h1 := yHb _ _ (yHa _ _ es)
      have h2 := yHb _ _ flg
      rw [← z, h2] at h1
      cases h1
    show tSeq _ _ _ _ (upd (upd Hb wa (.tup [.str "take", .int 1])) lw (.lst ([.ref w0, .ref w1, .ref w2, .ref w3, .ref w4, .ref w5, .non, .ref w7, .str "clear", .ref w9] ++ [.ref wa])))
    generalize upd (upd Hb wa (.tup [.str "take", .int 1])) lw (.lst ([.ref w0, .ref w1, .ref w2, .ref w3, .ref w4, .ref w5, .non, .ref w7, .str "clear", .ref w9] ++ [.ref wa])) = Hc at yc rg rw elw elg hsc ⊢
    generalize (([.ref w0, .ref w1, .ref w2, .ref w3, .ref w4, .ref w5, .non, .ref w7, .str "clear", .ref w9] ++ [.ref wa]) : List V) = ws at rw elw ⊢
    generalize ([.ref g0, .ref g1, .ref g2, .ref g3, .ref g4, .ref g5] : List V) = gs at rg elg ⊢
    have lenG : gs.length = 6 := rg.length
    have lenW : ws.length = 11 := rw.length
    have pickGood : ∀ (H' : Hp) (m : Nat), m < 6 → RTs K H' gs goodT → ∃ v t, gs[m]? = some v ∧ RT K H' v t ∧ t.fits = true ∧ t.seen = true := fun H' m hm r => by
      have e : gs[m]? = some (gs[m]'(by omega)) := List.getElem?_eq_getElem (by omega)
      obtain ⟨t, ht, rt⟩ := r.get e
      have := List.all_eq_true.mp good_all t (List.mem_of_getElem? ht)
      rw [Bool.and_eq_true] at this
      exact ⟨_, t, e, rt, this.1, this.2⟩
    have pickWrong : ∀ (H' : Hp) (m : Nat), m < 11 → RTs K H' ws wrongT → ∃ v t, ws[m]? = some v ∧ RT K H' v t ∧ t.fits = false ∧ t.seen = true := fun H' m hm r => by
      have e : ws[m]? = some (ws[m]'(by omega)) := List.getElem?_eq_getElem (by omega)
      obtain ⟨t, ht, rt⟩ := r.get e
      have := List.all_eq_true.mp wrong_all t (List.mem_of_getElem? ht)
      rw [Bool.and_eq_true, Bool.not_eq_true'] at this
      exact ⟨_, t, e, rt, this.1, this.2⟩
    -- many
    refine ⟨_, rfl, s, 4, n, rfl, hsc, by omega, by decide, by decide, fun mm H1 hmm s1 k1 => ?_⟩
    have elg1 := k1 _ _ elg ngs
    have elw1 := k1 _ _ elw nls
    have rg1 := rg.kept hsc.at s1 k1
    have rw1 := rw.kept hsc.at s1 k1
    have kk1 : KeptS H H1 s := (KeptS.of yc).trans k1
    refine ⟨_, rfl, _, rfl, by omega, by omega, fun Dl hD => ?_⟩
    obtain ⟨kvs1, e1⟩ := s1.at
    have nD : Dl ≠ s := (ne_of_none e1 hD).symm
    have nDg : lg ≠ Dl := ne_of_none elg1 hD
    refine lc_range (lo := 0) (fun i H' => ∃ (us : List V) (ts : List PT), us.length = i ∧ H' Dl = some (.lst us) ∧ RTs K H' us ts ∧ (∀ t ∈ ts, t.fits = true ∧ t.seen = true) ∧ Src H' s (n + 4 + i * 4) ∧ KeptS H1 H' s ∧ RTs K H' gs goodT ∧ RTs K H' ws wrongT) ?_ ?_ ?_
    · have y := same_new (o := .lst []) hD
      exact ⟨[], [], rfl, upd_same, .nil, (fun t z => nomatch z), (s1.same y).mono (by omega), KeptS.of y, rg1.same y, rw1.same y⟩
    · rintro i H3 hi ⟨us, ts, hl, eD, r, hb, s3, k3, rg3, rw3⟩
      have hi : i < mm := by omega
      refine ⟨rfl, ?_⟩
      refine ⟨_, rfl, _, rfl, s, 6, n + 4 + i * 4, rfl, s3, by omega, by decide, by decide, fun m H4 hm s4 k4 => ?_⟩
      have rg4 := rg3.kept s3.at s4 k4
      have rw4 := rw3.kept s3.at s4 k4
      obtain ⟨v, t, ev, rt, hf, hse⟩ := pickGood H4 m hm rg4
      have e4 := k4 _ _ eD nD
      refine ⟨lg, _, (m : Int), _, rfl, rfl, SqL.of (k4 _ _ (k3 _ _ elg1 ngs) ngs), atI_nat ev, ?_⟩
      refine ⟨us, e4, by rw [hl]; exact Nat.lt_of_lt_of_le (show i < 100 by omega) (by decide), us ++ [v], ts ++ [t], by rw [List.length_append, hl]; rfl, upd_same, ?_, ?_, ?_, ?_, rg4.updL e4, rw4.updL e4⟩
      · exact ((r.kept s3.at s4 k4).updL e4).app (rt.updL e4)
      · intro t' ht'
        rcases List.mem_append.mp ht' with z | z
        · exact hb t' z
        · rw [List.mem_singleton.mp z]
          exact ⟨hf, hse⟩
      · refine (s4.updL e4).mono ?_
        rw [Nat.add_mul]
        omega
      · intro b o e hb
        have e5 := (k3.trans k4) b o e hb
        rw [upd_ne (ne_of_none e hD)]
        exact e5
    · rintro H3 ⟨us, ts, hl, eD, r, hb, s3, k3, rg3, rw3⟩
      have hb3 : mm ≤ 3 := by omega
      have e0 : ((mm : Int)).toNat * 4 = mm * 4 := by rw [Int.toNat_natCast]
      have s3 : Src H3 s (n + 16) := s3.mono (by omega)
      have hlu : us.length = mm := by
        rw [hl]
        omega
      have hlt : ts.length = mm := by rw [← r.length, hlu]
      have kk3 := kk1.trans k3
      have fits_none : ∀ l : List PT, (∀ t ∈ l, t.fits = true ∧ t.seen = true) → PT.stepBad (.tup l) = none ∧ PT.seenAll (.tup l) = true := fun l h => ⟨bad_none fun t ht => (h t ht).1, List.all_eq_true.mpr fun t ht => (h t ht).2⟩
      have fin : ∀ (p : Addr) (v e : V) (t : PT) (er : Er) H' m, H' p = some (.tup [v, e]) → ErAt H' e er → er = erOf t.stepBad → RT K H' v t → t.seenAll = true → Src H' s m → m ≤ n + 60 → KeptS H H' s → Q (.ref p) H' := fun p v e t er H' m a b c d e1 f g i => by
        subst c
        exact k p v e t H' a b d e1 (f.mono g) i
      refine ⟨_, rfl, s, 4, n + 16, rfl, s3, by omega, by decide, by decide, fun way H4 hway s4 k4 => ?_⟩
      have eD4 := k4 _ _ eD nD
      have r4 := r.kept s3.at s4 k4
      have rg4 := rg3.kept s3.at s4 k4
      have rw4 := rw3.kept s3.at s4 k4
      have kk4 := kk3.trans k4
      have elg4 := k4 _ _ (k3 _ _ elg1 ngs) ngs
      have elw4 := k4 _ _ (k3 _ _ elw1 nls) nls
      obtain ⟨kvs4, es4⟩ := s4.at
      refine ⟨_, rfl, rfl, _, rfl, ite2 (fun e => ?_) (fun e => ?_)⟩
      · -- no tuple
        refine ⟨_, rfl, Dl, us, rfl, .inl (SqL.of eD4), fun lr hlr => ⟨by show 4 ≤ sizeLine; decide, fun L hL => ?_⟩⟩
        have y1 := same_new (o := .lst us) hlr
        have y2 := same_new (o := .lst [.ref lr, .non, .str "clear", .int 5]) hL
        have elr := y2 _ _ (upd_same (H := H4) (a := lr) (o := .lst us))
        have eL := upd_same (H := upd H4 lr (.lst us)) (a := L) (o := .lst [.ref lr, .non, .str "clear", .int 5])
        have nL : L ≠ s := (ne_of_none (y1 _ _ es4) hL).symm
        have nlr : lr ≠ s := (ne_of_none es4 hlr).symm
        have yy := y1.trans y2
        have s5 := s4.same yy
        refine ⟨_, rfl, s, 4, n + 16 + 4, rfl, s5, by omega, by decide, by decide, fun m H6 hm s6 k6 => ?_⟩
        have elr6 := k6 _ _ elr nlr
        have eL6 := k6 _ _ eL nL
        obtain ⟨v, t, ev, rt, hb1, hs1⟩ : ∃ (v : V) (t : PT), ([.ref lr, .non, .str "clear", .int 5] : List V)[m]? = some v ∧ RT K H6 v t ∧ t.stepBad = some 0 ∧ t.seenAll = true := by
          match m, hm with
          | 0, _ => exact ⟨_, .oth, rfl, .lst elr6, rfl, rfl⟩
          | 1, _ => exact ⟨_, .non, rfl, .non, rfl, rfl⟩
          | 2, _ => exact ⟨_, .str "clear", rfl, .str _ (by decide +kernel), rfl, rfl⟩
          | 3, _ => exact ⟨_, .int 5, rfl, .int _, rfl, rfl⟩
        refine ⟨L, _, (m : Int), _, rfl, rfl, SqL.of eL6, atI_nat ev, by show 2 ≤ sizeLine; decide, fun le hle => ⟨by show 2 ≤ sizeLine; decide, fun p hp => ?_⟩⟩
        have y3 := same_new (o := .lst [.str "step", .int 0]) hle
        have y4 := same_new (o := .tup [v, .ref le]) hp
        exact fin p v (.ref le) t (.step 0) _ _ upd_same ⟨le, rfl, y4 _ _ upd_same⟩ (by rw [hb1]; rfl) (rt.same (y3.trans y4)) hs1 (s6.same (y3.trans y4)) (by omega) (kk4.trans ((KeptS.of yy).trans (k6.trans (KeptS.of (y3.trans y4)))))
      refine ⟨_, rfl, rfl, _, rfl, ite2 (fun e => ?_) (fun e => ?_)⟩
      · refine ⟨_, rfl, _, rfl, _, rfl, s, 11, n + 16 + 4, rfl, s4, by omega, by decide, by decide, fun m H5 hm s5 k5 => ?_⟩
        have rw5 := rw4.kept s4.at s5 k5
        have rg5 := rg4.kept s4.at s5 k5
        have r5 := r4.kept s4.at s5 k5
        obtain ⟨vw, tw, ew, rtw, hfw, hsw⟩ := pickWrong H5 m hm rw5
        refine ⟨lw, _, (m : Int), _, rfl, rfl, SqL.of (k5 _ _ elw4 nls), atI_nat ew, _, rfl, _, rfl, s, 6, n + 16 + 4 + 4, rfl, s5, by omega, by decide, by decide, fun m2 H6 hm2 s6 k6 => ?_⟩
        have rg6 := rg5.kept s5.at s6 k6
        have r6 := r5.kept s5.at s6 k6
        obtain ⟨vg, tg, eg, rtg, hfg, hsg⟩ := pickGood H6 m2 hm2 rg6
        have rtw6 := rtw.kept s5.at s6 k6
        have eD6 := k6 _ _ (k5 _ _ eD4 nD) nD
        refine ⟨lg, _, (m2 : Int), _, rfl, rfl, SqL.of (k6 _ _ (k5 _ _ elg4 ngs) ngs), atI_nat eg, by show 3 ≤ sizeLine; decide, fun le hle => ?_⟩
        have y1 := same_new (o := .lst [vw, vg, .non]) hle
        refine ⟨Dl, le, us, _, rfl, rfl, y1 _ _ eD6, upd_same, by rw [hlu]; show mm + 3 ≤ sizeLine; exact Nat.le_trans (show mm + 3 ≤ 100 by omega) (by decide), fun q hq => ?_⟩
        have y2 := same_new (o := .lst (us ++ [vw, vg, .non])) hq
        refine ⟨_, rfl, q, us ++ [vw, vg, .non], rfl, .inl ⟨SqL.of upd_same, fun tt htt => ?_⟩⟩
        have y3 := same_new (o := .tup (us ++ [vw, vg, .non])) htt
        refine ⟨_, rfl, by show 2 ≤ sizeLine; decide, fun le2 hle2 => ⟨by show 2 ≤ sizeLine; decide, fun p hp => ?_⟩⟩
        have y4 := same_new (o := .lst [.str "step", .int (mm : Int)]) hle2
        have y5 := same_new (o := .tup [.ref tt, .ref le2]) hp
        have yy := y1.trans (y2.trans (y3.trans (y4.trans y5)))
        have hR : RTs K H6 (us ++ [vw, vg, .non]) (ts ++ [tw, tg, .non]) := by
          have := ((r6.app rtw6).app rtg).app .non
          simpa using this
        have hbad : PT.stepBad (.tup (ts ++ [tw, tg, .non])) = some mm := bad_first (t := tw) (by rw [List.getElem?_append_right (by omega), hlt, Nat.sub_self]; rfl) hfw fun j t' hj ht' => by
          rw [List.getElem?_append_left (by omega)] at ht'
          exact (hb t' (List.mem_of_getElem? ht')).1
        have hseen : PT.seenAll (.tup (ts ++ [tw, tg, .non])) = true := List.all_eq_true.mpr fun t' ht' => by
          rcases List.mem_append.mp ht' with z | z
          · exact (hb t' z).2
          · rcases List.mem_cons.mp z with rfl | z
            · exact hsw
            · rcases List.mem_cons.mp z with rfl | z
              · exact hsg
              · rw [List.mem_singleton.mp z]
                rfl
        refine fin p (.ref tt) (.ref le2) (.tup (ts ++ [tw, tg, .non])) (.step mm) _ _ upd_same ⟨le2, rfl, y5 _ _ upd_same⟩ (by rw [hbad]; rfl) (.tup (y5 _ _ (y4 _ _ upd_same)) (hR.same yy) ?_) hseen (s6.same yy) (by omega) (kk4.trans (k5.trans (k6.trans (KeptS.of yy))))
        rw [List.length_append, hlu]
        show mm + 3 ≤ 1000
        omega
      · refine ⟨_, rfl, Dl, us, rfl, .inl ⟨SqL.of eD4, fun tt htt => ?_⟩⟩
        have y3 := same_new (o := .tup us) htt
        refine ⟨by show 0 ≤ sizeLine; decide, fun le2 hle2 => ⟨by show 2 ≤ sizeLine; decide, fun p hp => ?_⟩⟩
        have y4 := same_new (o := .lst []) hle2
        have y5 := same_new (o := .tup [.ref tt, .ref le2]) hp
        have yy := y3.trans (y4.trans y5)
        obtain ⟨hn1, hn2⟩ := fits_none ts hb
        refine fin p (.ref tt) (.ref le2) (.tup ts) .no _ _ upd_same ⟨le2, rfl, y5 _ _ upd_same⟩ (by rw [hn1]; rfl) (.tup (y5 _ _ (y4 _ _ upd_same)) (r4.same yy) ?_) hn2 (s4.same yy) (by omega) (kk4.trans (KeptS.of yy))
        rw [hlu]
        omega
end
end K03
set_option Elab.async false
set_option linter.all false
set_option maxRecDepth 100000
set_option maxHeartbeats 4000000
namespace K03
open PySem L2 Xo Lm LamX
abbrev sLaw : Stmt := top 46
abbrev tabs (P1 : Addr) : List (Addr × Str) := [(P1, qOf "law")]
abbrev NL : List Str := ["script", "k", "cell", "state", "is_label", "is_good", "due", "told", "is_fine", "wrong", "worse", "answers", "code", "codes", "label", "more", "steps", "trace", "one"]
theorem scLaw : FnScope NL ["script"] (defScope sLaw) := ⟨rfl, rfl, rfl, by decide +kernel, rfl, by decide +kernel, by decide +kernel⟩
/-- a class of keys and its making -/
structure Kc (P : Program) (w : World) (K : PySem.W.Frag) (mg : Str → Option Value) (base : Heap) (name : Str) (C f : Addr) (fd : FuncData) (ps : List Str) (k : Nat) (sp : Sp) : Prop where
  M : Mk K C f
  g : mg name = some (.ref C)
  b : Binds K fd ps []
  G : FnOk P w K mg base (L2.CX P w) k f fd ps sp
theorem seqT_same {K : PySem.W.Frag} {H H' : Hp} {a : Addr} {xs : List V} (e : Same H H') (h : SqT K H a xs) : SqT K H' a xs := by
  rcases h with (h | ⟨o, h⟩) | h
  · exact .inl (.inl (e _ _ h))
  · exact .inl (.inr ⟨o, e _ _ h⟩)
  · exact .inr h
mutual
theorem dp_same {K : PySem.W.Frag} {H H' : Hp} (e : Same H H') : ∀ {v : V} {d : PyData}, Dp K H v d → Dp K H' v d
  | _, _, .non => .non
  | _, _, .bl b => .bl b
  | _, _, .int z => .int z
  | _, _, .str x => .str x
  | _, _, .lst h r => .lst (e.seq h) (dps_same e r)
  | _, _, .tup h r => .tup (seqT_same e h) (dps_same e r)
theorem dps_same {K : PySem.W.Frag} {H H' : Hp} (e : Same H H') : ∀ {vs : List V} {ds : List PyData}, DpAll K H vs ds → DpAll K H' vs ds
  | _, _, .nil => .nil
  | _, _, .cons h r => .cons (dp_same e h) (dps_same e r)
end
def ek (t : PT) : Er := if t.okText = true then .no else .key
def ec (t : PT) : Er := if t.isCode = true then .no else .code
def eb (b : Bool) : Er := if b = true then .no else .code
theorem two_new {H : Hp} {x dx : Addr} {o1 o2 : HO} (hx : H x = none) (hdx : H dx = none) : Same H (upd (upd H dx o1) x o2) := Cm.same_upd (same_new hdx) hx
theorem first_cons (e : Er) (es : List Er) : firstE (e :: es) = if e.isNo = true then firstE es else e := by
  unfold firstE
  cases h : e.isNo with
  | true => rw [List.filter_cons_of_neg (p := fun e : Er => !e.isNo) (by rw [h]; decide), if_pos rfl]
  | false => rw [List.filter_cons_of_pos (p := fun e : Er => !e.isNo) (by rw [h]; decide), if_neg Bool.false_ne_true]; rfl
theorem first_nil : firstE [] = .no := rfl
section
variable {P : Program} {w : World} {K : PySem.W.Frag} {mg : Str → Option Value} {base : Heap}
variable {TT : List (Addr × Str)} {H : Hp} {Q : VK} {C CK CC CS : Addr} {v1 v2 v3 v4 v5 : V} {t1 t2 t3 t4 t5 : PT}
theorem tell_of {H1 : Hp} {e e' : Er} (k : ∀ v H', ExtN H H' → Tabs TT H' → ErAt H' v e' → Q v H') (he : e' = e) (s : Same H H1) (hT : Tabs TT H) : TellQ Q H1 e := by
  subst he
  intro L hL
  have y := s.trans (same_new (o := .lst e'.vs) hL)
  exact k (.ref L) _ (ExtN.of y) (hT.ext y) ⟨L, rfl, upd_same⟩
theorem make_ki {n : Nat} {fs : FsT} {ws : List V} (hw : ws.length = n) (r1 : RT K H v1 t1) (r2 : RT K H v2 t2) (hT : Tabs TT H) (k : ∀ v H', ExtN H H' → Tabs TT H' → ErAt H' v (firstE [ek t1, ec t2]) → Q v H') :
    ∀ x dx, H x = none → H dx = none → dx ≠ x → spKI K C CK CC n fs (.ref x :: v1 :: v2 :: ws) (upd (upd H dx (.own x)) x (.ins C dx [])) (fun v H2 => v = .non ∧ 0 ≤ sizeLine ∧ TellQ Q H2 .no) (ToldE CK CC CS Q) := by
  intro x dx hx hdx hn
  refine ⟨H, x, dx, v1, v2, t1, t2, ws, rfl, hw, two_new hx hdx, hx, upd_same, r1, r2, fun h1 h2 H' sm _ => ⟨rfl, by decide, tell_of k ?_ sm hT⟩, fun h1 H' sm d y hd => ⟨d, _, rfl, upd_same, .inl ⟨rfl, tell_of k ?_ (sm.trans (same_new hd)) hT⟩⟩, fun h1 h2 H' sm d y hd => ⟨d, _, rfl, upd_same, .inr (.inl ⟨rfl, tell_of k ?_ (sm.trans (same_new hd)) hT⟩)⟩⟩
  · simp [first_cons, first_nil, ek, ec, h1, h2, Er.isNo]
  · simp [first_cons, first_nil, ek, ec, h1, Er.isNo]
  · simp [first_cons, first_nil, ek, ec, h1, h2, Er.isNo]
theorem make_di (r1 : RT K H v1 t1) (r2 : RT K H v2 t2) (hT : Tabs TT H) (k : ∀ v H', ExtN H H' → Tabs TT H' → ErAt H' v (firstE [ek t1, eb t2.codesOk]) → Q v H') :
    ∀ x dx, H x = none → H dx = none → dx ≠ x → spDI K C CK CC (.ref x :: [v1, v2]) (upd (upd H dx (.own x)) x (.ins C dx [])) (fun v H2 => v = .non ∧ 0 ≤ sizeLine ∧ TellQ Q H2 .no) (ToldE CK CC CS Q) := by
  intro x dx hx hdx hn
  refine ⟨H, x, dx, v1, v2, t1, t2, rfl, two_new hx hdx, hx, upd_same, r1, r2, fun h1 h2 H' _ _ _ _ _ sm _ => ⟨rfl, by decide, tell_of k ?_ sm hT⟩, fun h1 H' sm d y hd => ⟨d, _, rfl, upd_same, .inl ⟨rfl, tell_of k ?_ (sm.trans (same_new hd)) hT⟩⟩, fun h1 h2 H' sm d y hd => ⟨d, _, rfl, upd_same, .inr (.inl ⟨rfl, tell_of k ?_ (sm.trans (same_new hd)) hT⟩)⟩⟩
  · simp [first_cons, first_nil, ek, eb, h1, h2, Er.isNo]
  · simp [first_cons, first_nil, ek, h1, Er.isNo]
  · simp [first_cons, first_nil, ek, eb, h1, h2, Er.isNo]
theorem make_li (r1 : RT K H v1 t1) (r2 : RT K H v2 t2) (r3 : RT K H v3 t3) (hT : Tabs TT H) (k : ∀ v H', ExtN H H' → Tabs TT H' → ErAt H' v (firstE [ek t1, ec t2, eb t3.filled]) → Q v H') :
    ∀ x dx, H x = none → H dx = none → dx ≠ x → spLI K C CK CC (.ref x :: [v1, v2, v3]) (upd (upd H dx (.own x)) x (.ins C dx [])) (fun v H2 => v = .non ∧ 0 ≤ sizeLine ∧ TellQ Q H2 .no) (ToldE CK CC CS Q) := by
  intro x dx hx hdx hn
  refine ⟨H, x, dx, v1, v2, v3, t1, t2, t3, rfl, two_new hx hdx, hx, upd_same, r1, r2, r3, fun h1 h2 h3 H' sm _ => ⟨rfl, by decide, tell_of k ?_ sm hT⟩, fun h1 H' sm d y hd => ⟨d, _, rfl, upd_same, .inl ⟨rfl, tell_of k ?_ (sm.trans (same_new hd)) hT⟩⟩, fun h1 h2 H' sm d y hd => ⟨d, _, rfl, upd_same, .inr (.inl ⟨rfl, tell_of k ?_ (sm.trans (same_new hd)) hT⟩)⟩⟩
  · simp [first_cons, first_nil, ek, ec, eb, h1, h2, h3, Er.isNo]
  · simp [first_cons, first_nil, ek, h1, Er.isNo]
  · cases h : t2.isCode with
    | true =>
      rw [h, Bool.true_and] at h2
      simp [first_cons, first_nil, ek, ec, eb, h1, h, h2, Er.isNo]
    | false => simp [first_cons, first_nil, ek, ec, eb, h1, h, Er.isNo]
theorem make_mi (r1 : RT K H v1 t1) (r2 : RT K H v2 t2) (r4 : RT K H v4 t4) (r5 : RT K H v5 t5) (n4 : t4.seenAll = true) (n5 : t5.seenAll = true) (hT : Tabs TT H) (k : ∀ v H', ExtN H H' → Tabs TT H' → ErAt H' v (firstE [ek t1, ec t2, erOf t4.stepBad, erOf t5.stepBad]) → Q v H') :
    ∀ x dx, H x = none → H dx = none → dx ≠ x → spMI K C CK CC CS (.ref x :: [v1, v2, v3, v4, v5]) (upd (upd H dx (.own x)) x (.ins C dx [])) (fun v H2 => v = .non ∧ 0 ≤ sizeLine ∧ TellQ Q H2 .no) (ToldE CK CC CS Q) := by
  intro x dx hx hdx hn
  refine ⟨H, x, dx, v1, v2, v3, v4, v5, t1, t2, t4, t5, rfl, two_new hx hdx, hx, upd_same, r1, r2, r4, r5, n4, n5, fun h1 h2 h4 h5 H' _ _ _ _ _ _ _ _ _ _ _ _ _ _ _ sm _ => ⟨rfl, by decide, tell_of k ?_ sm hT⟩, fun h1 H' sm d y hd => ⟨d, _, rfl, upd_same, .inl ⟨rfl, tell_of k ?_ (sm.trans (same_new hd)) hT⟩⟩,
    fun h1 h2 H' sm d y hd => ⟨d, _, rfl, upd_same, .inr (.inl ⟨rfl, tell_of k ?_ (sm.trans (same_new hd)) hT⟩)⟩, fun h1 h2 i h4 H' sm d hd => ⟨d, _, rfl, upd_same, .inr (.inr ⟨rfl, i, rfl, tell_of k ?_ (sm.trans (same_new hd)) hT⟩)⟩, fun h1 h2 h4 i h5 H' sm d hd => ⟨d, _, rfl, upd_same, .inr (.inr ⟨rfl, i, rfl, tell_of k ?_ (sm.trans (same_new hd)) hT⟩)⟩⟩
  · simp [first_cons, first_nil, ek, ec, h1, h2, h4, h5, erOf, Er.isNo]
  · simp [first_cons, first_nil, ek, h1, Er.isNo]
  · simp [first_cons, first_nil, ek, ec, h1, h2, Er.isNo]
  · simp [first_cons, first_nil, ek, ec, h1, h2, h4, erOf, Er.isNo]
  · simp [first_cons, first_nil, ek, ec, h1, h2, h4, h5, erOf, Er.isNo]
/-- where the law stands in a turn -/
structure Sg (K : PySem.W.Frag) (TT : List (Addr × Str)) (H0 H : Hp) (s : Addr) (n : Nat) (vl vc vd : V) (tl tc : PT) (dc : PyData) : Prop where
  kn : KN H0 H s
  ts : Tabs TT H
  sr : Src H s n
  rl : RT K H vl tl
  cd : Cd K H vc tc dc
  du : ∃ d a b, vd = .ref d ∧ H d = some (.lst [.ref a, .ref b]) ∧ ErAt H (.ref a) (ek tl) ∧ ErAt H (.ref b) (ec tc)
theorem Sg.ext {H0 H1 : Hp} {s : Addr} {n : Nat} {vl vc vd : V} {tl tc : PT} {dc : PyData} (S : Sg K TT H0 H s n vl vc vd tl tc dc) (e : ExtN H H1) (T : Tabs TT H1) : Sg K TT H0 H1 s n vl vc vd tl tc dc := by
  obtain ⟨d, a, b, h1, h2, h3, h4⟩ := S.du
  exact ⟨S.kn.trans (KN.ofE e), T, S.sr.ext e, S.rl.ext e, S.cd.ext e, d, a, b, h1, e _ _ h2 (fun ps z => by cases z), h3.ext e, h4.ext e⟩
theorem Sg.same {H0 H1 : Hp} {s : Addr} {n : Nat} {vl vc vd : V} {tl tc : PT} {dc : PyData} (S : Sg K TT H0 H s n vl vc vd tl tc dc) (e : Same H H1) : Sg K TT H0 H1 s n vl vc vd tl tc dc := S.ext (ExtN.of e) (S.ts.ext e)
theorem Sg.draw {H0 H1 : Hp} {s : Addr} {n m : Nat} {vl vc vd : V} {tl tc : PT} {dc : PyData} (S : Sg K TT H0 H s n vl vc vd tl tc dc) (kp : KeptS H H1 s) (sr : Src H1 s m) : Sg K TT H0 H1 s m vl vc vd tl tc dc := by
  obtain ⟨d, a, b, h1, h2, h3, h4⟩ := S.du
  obtain ⟨kvs, e0⟩ := S.sr.at
  exact ⟨S.kn.trans (KN.ofK kp), tabS S.sr S.ts kp, sr, S.rl.kept S.sr.at sr kp, S.cd.kept S.sr.at kp, d, a, b, h1, kp _ _ h2 (ne_of h2 e0 (by intro z; cases z)), h3.kept S.sr.at kp, h4.kept S.sr.at kp⟩
end
end K03
set_option Elab.async false
set_option linter.all false
set_option maxRecDepth 100000
set_option maxHeartbeats 4000000
namespace K03
open PySem L2 Xo Lm LamX
abbrev bLaw : List Stmt := forBody ((defBody sLaw).getD 0 (.Pass ⟨0, 0, 0, 0⟩))
def Shp (a : Addr) (σ : L2.St) : Prop := ∃ v1 v2 v3 v4 v5 v6 v7 v8 v9 v10 v11 v12 v13 v14 v15 v16 v17 v18, σ = [some (.ref a), v1, v2, v3, v4, v5, v6, v7, v8, v9, v10, v11, v12, v13, v14, v15, v16, v17, v18]
section
variable {P : Program} {w : World} {K : PySem.W.Frag} {mg : Str → Option Value} {base : Heap}
/-- a tuple as data -/
def TupD (K : PySem.W.Frag) (H : Hp) (v : V) (t : PT) : Prop := t.isTup = true → ∃ d, Dp K H v d ∧ SeqAt.shaped d = true ∧ PyData.eqv d (.tuple []) = !t.filled
theorem filled_tup {t : PT} (h : t.isTup = false) : t.filled = false := by
  cases t with
  | tup l => cases h
  | non => rfl
  | bl b => rfl
  | int z => rfl
  | str z => rfl
  | oth => rfl
theorem part_d {f cA P1 gs fs fd_ ff CK CC CS CT CM fM : Addr} {fds fdd fdf fdM : FuncData} (B : Bl mg) (S : Dz K mg "_law_told" sTold "call" gs) (N : Nms mg CK CC CS CT) (Bd : Bad K CK CC CS CT) (TB : TabB base mg cA P1)
    (Ds : Df K mg "_law_steps" "_law_steps" sSteps ["state"] fs fds) (Gs : FnOk P w K mg base CX0 3 fs fds ["state"] (spSteps K)) (Dd : Df K mg "_law_digit" "_law_digit" sDigit ["state", "size"] fd_ fdd) (Gd : FnOk P w K mg base CX0 2 fd_ fdd ["state", "size"] spDigit) (Df0 : Df K mg "_law_first" "_law_first" sFirst ["some"] ff fdf) (Gf : FnOk P w K mg base CX0 1 ff fdf ["some"] spFirst)
    (X7 : Kc P w K mg base "MeddlingKey" CM fM fdM ["self", "label", "code", "table", "steps", "code_steps"] 6 (spMI K CM CK CC CS)) {A : Around} {outer : List Env} {sh : Shared} {H9 : Hp} {E9 : L2.XK}
    (hr : Room 12 (A.deeper (PyProof.Rows.envOfC "law" (defScope sLaw) sh.heap.objs.size f (.ref cA)))) :
    ∃ t, PSs (cxOf C8.CX0 P w K mg base NL "law" (defScope sLaw) f (.ref cA) A outer sh H9 E9).nox (bLaw.drop 15) t ∧ ∀ D a v1 v2 s v4 v5 vd v7 v8 v9 v10 v11 vc v13 vl v15 v16 v17 v18 tl tc dc H0 H n, Sg K (tabs P1) H0 H s n vl vc vd tl tc dc → n + 200 < 2 ^ 40 → (∀ σ' H', Shp a σ' → KN H0 H' s → Tabs (tabs P1) H' → D.nx σ' H') →
      t D [some (.ref a), v1, v2, some (.ref s), v4, v5, some vd, v7, v8, v9, v10, v11, some vc, v13, some vl, v15, v16, v17, v18] H := by
  obtain ⟨oc, od, dV, kV, doc, pmm, an, cdv, ct, osl, lk, hcg, hb⟩ := S.ex
  have hu64 := hr.units
  have hmT : (P1, qOf "law") ∈ tabs P1 := List.mem_cons_self ..
  have huT : ∀ p ∈ tabs P1, p.1 = P1 → p.2 = qOf "law" := fun p hp e => by rw [List.mem_singleton.mp hp]
  refine ⟨_, pss_cons (ps_asg (pe_call Gs (hr.mono (by decide)) rfl Ds.g Ds.F.kp Ds.b .nil pass0 (pa_cons (pv 3) pa_nil)) (pg_tup rfl (pgs_cons (pg_name (i := 16) scLaw.nd rfl (Or.inr rfl)) (pgs_cons (pg_name (i := 9) scLaw.nd rfl (Or.inl rfl)) pgs_nil))))
    (pss_cons (ps_asg (pe_call Gs (hr.mono (by decide)) rfl Ds.g Ds.F.kp Ds.b .nil pass0 (pa_cons (pv 3) pa_nil)) (pg_tup rfl (pgs_cons (pg_name (i := 15) scLaw.nd rfl (Or.inr rfl)) (pgs_cons (pg_name (i := 10) scLaw.nd rfl (Or.inl rfl)) pgs_nil))))
    (pss_one (ps_if (pt_cmpR (op_neD hu64) (pe_lamD (k := 9) (T := tabs P1) (own := []) (t := fun E => tMake CM (spMI K CM CK CC CS) [] E (tCons (tVar 14) (tCons (tVar 12) (tCons (tC .non) (tCons (tVar 16) (tCons (tVar 15) tNil)))))) rfl S.g S.kp lk hcg hb scTold rfl (Or.inl rfl) (told_gives N B.isinstance Bd) (hr.mono (by decide)) (lm_by (N := NL) (sc := defScope sLaw) (by decide +kernel))
          (fun pins σ H s E Q I hT h => lm_make0 I TB rfl hmT huT hT (lm_by (N := NL) (sc := defScope sLaw) (by decide +kernel)) rfl (fun _ _ _ _ _ _ => rfl) h) (fun A outer s H E f c' hr2 => pe_make (E := E) X7.M X7.G (hr2.mono (by decide)) rfl X7.g X7.b .nil (passes_call (takes_of rfl rfl rfl rfl) fun _ _ _ _ z => z) (pa_cons (pv 14) (pa_cons (pv 12) (pa_cons pe_non (pa_cons (pv 16) (pa_cons (pv 15) pa_nil)))))))
      (pe_call Gf (hr.mono (by decide)) rfl Df0.g Df0.F.kp Df0.b .nil pass0 (pa_cons (pe_op op_cat (pv 6) (pe_lst (pa_cons (pv 9) (pa_cons (pv 10) pa_nil)))) pa_nil)) (nomark _)) (pss_one (ps_ret pe_bl)) pss_nil))), ?_⟩
  intro D a v1 v2 s v4 v5 vd v7 v8 v9 v10 v11 vc v13 vl v15 v16 v17 v18 tl tc dc H0 H n Sg0 hn kk
  refine ⟨_, rfl, s, n, rfl, Sg0.sr, by omega, fun p4 w4 e4 t4 H1 hp4 he4 rt4 sa4 s1 k1 => ⟨p4, _, rfl, SqT.of hp4, rfl, _, _, rfl, _, _, rfl, rfl, ?_⟩⟩
  have Sg1 := Sg0.draw k1 s1
  refine ⟨_, rfl, s, n + 60, rfl, s1, by omega, fun p5 w5 e5 t5 H2 hp5 he5 rt5 sa5 s2 k2 => ⟨p5, _, rfl, SqT.of hp5, rfl, _, _, rfl, _, _, rfl, rfl, ?_⟩⟩
  have Sg2 := Sg1.draw k2 s2
  have rt4 := rt4.kept s1.at s2 k2
  have he4 := he4.kept s1.at k2
  refine ⟨Sg2.ts, fun H5 x5 T5 => ⟨_, rfl, _, rfl, _, rfl, _, rfl, make_mi (Sg2.rl.ext x5) (Sg2.cd.rt.ext x5) (rt4.ext x5) (rt5.ext x5) sa4 sa5 T5 (fun v H6 x6 T6 at6 => ?_)⟩⟩
  have x56 := x5.trans x6
  have Sg6 := Sg2.ext x56 T6
  obtain ⟨d, da, db, rfl, hd, hda, hdb⟩ := Sg6.du
  refine ⟨_, rfl, _, rfl, _, rfl, by show 2 ≤ sizeLine; decide, fun l1 hl1 => ?_⟩
  have y1 := same_new (o := .lst [e4, e5]) hl1
  refine ⟨d, l1, _, _, rfl, rfl, y1 _ _ hd, upd_same, by show 2 + 2 ≤ sizeLine; decide, fun q hq => ?_⟩
  have y2 := same_new (o := .lst ([.ref da, .ref db] ++ [e4, e5])) hq
  have y12 := y1.trans y2
  have hE : Ers (upd (upd H6 l1 (.lst [e4, e5])) q (.lst ([.ref da, .ref db] ++ [e4, e5]))) ([.ref da, .ref db] ++ [e4, e5]) [ek tl, ec tc, erOf t4.stepBad, erOf t5.stepBad] := .cons (hda.same y12) (.cons (hdb.same y12) (.cons ((he4.ext x56).same y12) (.cons ((he5.ext x56).same y12) .nil)))
  refine ⟨q, _, _, rfl, upd_same, hE, by show 4 ≤ 100; decide, fun v2 H7 s7 at7 => ?_⟩
  have y17 := y12.trans s7
  refine ⟨_, _, (at6.same y17).dp, at7.dp, er_shaped _, er_shaped _, _, rfl, iteNo (by rw [er_eqv]; rfl) ?_⟩
  have Sg7 := Sg6.same y17
  exact kk _ _ ⟨_, _, _, _, _, _, _, _, _, _, _, _, _, _, _, _, _, _, rfl⟩ Sg7.kn Sg7.ts
theorem part_c2 {f cA P1 gs fs fd_ ff CK CC CS CT CM fM CL fL : Addr} {fds fdd fdf fdM fdL : FuncData} (B : Bl mg) (S : Dz K mg "_law_told" sTold "call" gs) (N : Nms mg CK CC CS CT) (Bd : Bad K CK CC CS CT) (TB : TabB base mg cA P1)
    (Ds : Df K mg "_law_steps" "_law_steps" sSteps ["state"] fs fds) (Gs : FnOk P w K mg base CX0 3 fs fds ["state"] (spSteps K)) (Dd : Df K mg "_law_digit" "_law_digit" sDigit ["state", "size"] fd_ fdd) (Gd : FnOk P w K mg base CX0 2 fd_ fdd ["state", "size"] spDigit) (Df0 : Df K mg "_law_first" "_law_first" sFirst ["some"] ff fdf) (Gf : FnOk P w K mg base CX0 1 ff fdf ["some"] spFirst)
    (X7 : Kc P w K mg base "MeddlingKey" CM fM fdM ["self", "label", "code", "table", "steps", "code_steps"] 6 (spMI K CM CK CC CS)) (X6 : Kc P w K mg base "LopsidedKey" CL fL fdL ["self", "label", "code", "answers"] 6 (spLI K CL CK CC)) {A : Around} {outer : List Env} {sh : Shared} {H9 : Hp} {E9 : L2.XK}
    (hr : Room 12 (A.deeper (PyProof.Rows.envOfC "law" (defScope sLaw) sh.heap.objs.size f (.ref cA)))) :
    ∃ t, PSs (cxOf C8.CX0 P w K mg base NL "law" (defScope sLaw) f (.ref cA) A outer sh H9 E9).nox (bLaw.drop 14) t ∧ ∀ D a v1 v2 s v4 v5 vd v7 b v9 v10 v3 vc v13 vl v15 v16 v17 v18 tl tc dc H0 H n t3, b = PT.filled t3 → RT K H v3 t3 → Sg K (tabs P1) H0 H s n vl vc vd tl tc dc → n + 200 < 2 ^ 40 → (∀ σ' H', Shp a σ' → KN H0 H' s → Tabs (tabs P1) H' → D.nx σ' H') →
      t D [some (.ref a), v1, v2, some (.ref s), v4, v5, some vd, v7, some (.bl b), v9, v10, some v3, some vc, v13, some vl, v15, v16, v17, v18] H := by
  obtain ⟨tl4, hsT, qT⟩ := part_d (H9 := H9) (E9 := E9) (sh := sh) (outer := outer) B S N Bd TB Ds Gs Dd Gd Df0 Gf X7 hr
  obtain ⟨oc, od, dV, kV, doc, pmm, an, cdv, ct, osl, lk, hcg, hb⟩ := S.ex
  have hu64 := hr.units
  have hmT : (P1, qOf "law") ∈ tabs P1 := List.mem_cons_self ..
  have huT : ∀ p ∈ tabs P1, p.1 = P1 → p.2 = qOf "law" := fun p hp e => by rw [List.mem_singleton.mp hp]
  refine ⟨_, pss_cons (ps_if (pt_cmpR (op_neD hu64) (pe_lamD (k := 9) (T := tabs P1) (own := []) (t := fun E => tMake CL (spLI K CL CK CC) [] E (tCons (tVar 14) (tCons (tVar 12) (tCons (tVar 11) tNil)))) rfl S.g S.kp lk hcg hb scTold rfl (Or.inl rfl) (told_gives N B.isinstance Bd) (hr.mono (by decide)) (lm_by (N := NL) (sc := defScope sLaw) (by decide +kernel))
          (fun pins σ H s E Q I hT h => lm_make0 I TB rfl hmT huT hT (lm_by (N := NL) (sc := defScope sLaw) (by decide +kernel)) rfl (fun _ _ _ _ _ _ => rfl) h) (fun A outer s H E f c' hr2 => pe_make (E := E) X6.M X6.G (hr2.mono (by decide)) rfl X6.g X6.b .nil (passes_call (takes_of rfl rfl rfl rfl) fun _ _ _ _ z => z) (pa_cons (pv 14) (pa_cons (pv 12) (pa_cons (pv 11) pa_nil)))))
      (pe_call Gf (hr.mono (by decide)) rfl Df0.g Df0.F.kp Df0.b .nil pass0 (pa_cons (pe_op op_cat (pv 6) (pe_lst (pa_cons (pe_ifExp (pt_val (pv 8)) (pe_lst pa_nil) (pe_lst (pa_cons pe_str pa_nil))) pa_nil))) pa_nil)) (nomark _)) (pss_one (ps_ret pe_bl)) pss_nil)
    hsT, ?_⟩
  intro D a v1 v2 s v4 v5 vd v7 b v9 v10 v3 vc v13 vl v15 v16 v17 v18 tl tc dc H0 H n t3 hb rt Sg2 hn kk
  refine ⟨Sg2.ts, fun H5 x5 T5 => ⟨_, rfl, _, rfl, _, rfl, make_li (Sg2.rl.ext x5) (Sg2.cd.rt.ext x5) (rt.ext x5) T5 (fun v H6 x6 T6 at6 => ?_)⟩⟩
  have x56 := x5.trans x6
  have Sg6 := Sg2.ext x56 T6
  obtain ⟨d, da, db, rfl, hd, hda, hdb⟩ := Sg6.du
  refine ⟨_, rfl, _, rfl, _, rfl, ?_⟩
  cases b with
  | true =>
    refine iteYes rfl ⟨by show 0 ≤ sizeLine; decide, fun le hle => ⟨by show 1 ≤ sizeLine; decide, fun l1 hl1 => ?_⟩⟩
    have y0 := same_new (o := .lst []) hle
    have y1 := same_new (o := .lst [.ref le]) hl1
    have hle2 : ErAt (upd (upd H6 le (.lst [])) l1 (.lst [.ref le])) (.ref le) (eb t3.filled) := by
      rw [← hb]
      exact ⟨le, rfl, y1 _ _ upd_same⟩
    have y01 := y0.trans y1
    refine ⟨d, l1, _, _, rfl, rfl, y01 _ _ hd, upd_same, by show 2 + 1 ≤ sizeLine; decide, fun q hq => ?_⟩
    have y2 := same_new (o := .lst ([.ref da, .ref db] ++ [.ref le])) hq
    have y12 := y01.trans y2
    refine ⟨q, _, [ek tl, ec tc, eb t3.filled], rfl, upd_same, .cons (hda.same y12) (.cons (hdb.same y12) (.cons (hle2.same y2) .nil)), by show 3 ≤ 100; decide, fun v2 H7 s7 at7 => ?_⟩
    have y17 := y12.trans s7
    refine ⟨_, _, (at6.same y17).dp, at7.dp, er_shaped _, er_shaped _, _, rfl, iteNo (by rw [er_eqv]; rfl) ?_⟩
    exact qT _ _ _ _ _ _ _ _ _ _ _ _ _ _ _ _ _ _ _ _ tl tc dc H0 H7 n (Sg6.same y17) hn kk
  | false =>
    refine iteNo (by decide) ⟨by show 1 ≤ sizeLine; decide, fun le hle => ⟨by show 1 ≤ sizeLine; decide, fun l1 hl1 => ?_⟩⟩
    have y0 := same_new (o := .lst [.str "code"]) hle
    have y1 := same_new (o := .lst [.ref le]) hl1
    have hle2 : ErAt (upd (upd H6 le (.lst [.str "code"])) l1 (.lst [.ref le])) (.ref le) (eb t3.filled) := by
      rw [← hb]
      exact ⟨le, rfl, y1 _ _ upd_same⟩
    have y01 := y0.trans y1
    refine ⟨d, l1, _, _, rfl, rfl, y01 _ _ hd, upd_same, by show 2 + 1 ≤ sizeLine; decide, fun q hq => ?_⟩
    have y2 := same_new (o := .lst ([.ref da, .ref db] ++ [.ref le])) hq
    have y12 := y01.trans y2
    refine ⟨q, _, [ek tl, ec tc, eb t3.filled], rfl, upd_same, .cons (hda.same y12) (.cons (hdb.same y12) (.cons (hle2.same y2) .nil)), by show 3 ≤ 100; decide, fun v2 H7 s7 at7 => ?_⟩
    have y17 := y12.trans s7
    refine ⟨_, _, (at6.same y17).dp, at7.dp, er_shaped _, er_shaped _, _, rfl, iteNo (by rw [er_eqv]; rfl) ?_⟩
    exact qT _ _ _ _ _ _ _ _ _ _ _ _ _ _ _ _ _ _ _ _ tl tc dc H0 H7 n (Sg6.same y17) hn kk
theorem pickA {H : Hp} {x0 x1 x2 x3 : Addr} (e0 : H x0 = some (.tup [.bl true])) (e1 : H x1 = some (.tup [.non, .int 1])) (e2 : H x2 = some (.tup [])) (e3 : H x3 = some (.lst [.bl true])) (n : Nat) (h : n < 6) :
    ∃ (v : V) (t : PT), ([.ref x0, .ref x1, .ref x2, .ref x3, .non, .str "yes"] : List V)[n]? = some v ∧ RT K H v t ∧ TupD K H v t := by
  match n, h with
  | 0, _ => exact ⟨_, .tup [.bl true], rfl, .tup e0 (.cons (.bl _) .nil) (by show 1 ≤ 1000; decide), fun _ => ⟨.tuple [.bool true], .tup (SqT.of e0) (.cons (.bl _) .nil), by decide +kernel, by decide +kernel⟩⟩
  | 1, _ => exact ⟨_, .tup [.non, .int 1], rfl, .tup e1 (.cons .non (.cons (.int _) .nil)) (by show 2 ≤ 1000; decide), fun _ => ⟨.tuple [.none, .int 1], .tup (SqT.of e1) (.cons .non (.cons (.int _) .nil)), by decide +kernel, by decide +kernel⟩⟩
  | 2, _ => exact ⟨_, .tup [], rfl, .tup e2 .nil (by show 0 ≤ 1000; decide), fun _ => ⟨.tuple [], .tup (SqT.of e2) .nil, by decide +kernel, by decide +kernel⟩⟩
  | 3, _ => exact ⟨_, .oth, rfl, .lst e3, fun z => nomatch z⟩
  | 4, _ => exact ⟨_, .non, rfl, .non, fun z => nomatch z⟩
  | 5, _ => exact ⟨_, .str "yes", rfl, .str _ (by decide +kernel), fun z => nomatch z⟩
theorem part_c {f cA P1 gs fs fd_ ff CK CC CS CT CM fM CL fL : Addr} {fds fdd fdf fdM fdL : FuncData} (B : Bl mg) (S : Dz K mg "_law_told" sTold "call" gs) (N : Nms mg CK CC CS CT) (Bd : Bad K CK CC CS CT) (TB : TabB base mg cA P1)
    (Ds : Df K mg "_law_steps" "_law_steps" sSteps ["state"] fs fds) (Gs : FnOk P w K mg base CX0 3 fs fds ["state"] (spSteps K)) (Dd : Df K mg "_law_digit" "_law_digit" sDigit ["state", "size"] fd_ fdd) (Gd : FnOk P w K mg base CX0 2 fd_ fdd ["state", "size"] spDigit) (Df0 : Df K mg "_law_first" "_law_first" sFirst ["some"] ff fdf) (Gf : FnOk P w K mg base CX0 1 ff fdf ["some"] spFirst)
    (X7 : Kc P w K mg base "MeddlingKey" CM fM fdM ["self", "label", "code", "table", "steps", "code_steps"] 6 (spMI K CM CK CC CS)) (X6 : Kc P w K mg base "LopsidedKey" CL fL fdL ["self", "label", "code", "answers"] 6 (spLI K CL CK CC)) {A : Around} {outer : List Env} {sh : Shared} {H9 : Hp} {E9 : L2.XK}
    (hr : Room 12 (A.deeper (PyProof.Rows.envOfC "law" (defScope sLaw) sh.heap.objs.size f (.ref cA)))) :
    ∃ t, PSs (cxOf C8.CX0 P w K mg base NL "law" (defScope sLaw) f (.ref cA) A outer sh H9 E9).nox (bLaw.drop 12) t ∧ ∀ D a v1 v2 s v4 v5 vd v7 v8 v9 v10 v11 vc v13 vl v15 v16 v17 v18 tl tc dc H0 H n, Sg K (tabs P1) H0 H s n vl vc vd tl tc dc → n + 300 < 2 ^ 40 → (∀ σ' H', Shp a σ' → KN H0 H' s → Tabs (tabs P1) H' → D.nx σ' H') →
      t D [some (.ref a), v1, v2, some (.ref s), v4, v5, some vd, v7, v8, v9, v10, v11, some vc, v13, some vl, v15, v16, v17, v18] H := by
  obtain ⟨tl4, hsT, qT⟩ := part_c2 (H9 := H9) (E9 := E9) (sh := sh) (outer := outer) B S N Bd TB Ds Gs Dd Gd Df0 Gf X7 X6 hr
  obtain ⟨oc, od, dV, kV, doc, pmm, an, cdv, ct, osl, lk, hcg, hb⟩ := S.ex
  have hu64 := hr.units
  have hmT : (P1, qOf "law") ∈ tabs P1 := List.mem_cons_self ..
  have huT : ∀ p ∈ tabs P1, p.1 = P1 → p.2 = qOf "law" := fun p hp e => by rw [List.mem_singleton.mp hp]
  refine ⟨_, pss_cons (ps_set (i := 11) scLaw.nd rfl (Or.inr rfl) (pe_ix ix_list (pe_lst (pa_cons (pe_tup (pa_cons pe_bl pa_nil)) (pa_cons (pe_tup (pa_cons pe_non (pa_cons pe_int pa_nil))) (pa_cons (pe_tup pa_nil) (pa_cons (pe_lst (pa_cons pe_bl pa_nil)) (pa_cons pe_non (pa_cons pe_str pa_nil))))))) (pe_call Gd (hr.mono (by decide)) rfl Dd.g Dd.F.kp Dd.b .nil pass0 (pa_cons (pv 3) (pa_cons pe_int pa_nil))) (fun _ _ => rfl)))
    (pss_cons (ps_set (i := 8) scLaw.nd rfl (Or.inl rfl) (pe_and (pe_callB call_isi (by rfl) B.isinstance (by decide +kernel) (pa_cons (pv 11) (pa_cons (pTy (t := "tuple") (by rfl) B.tuple (by decide +kernel)) pa_nil))) (pe_one (pe_cmpR (op_neD hu64) (pv 11) (pe_tup pa_nil) (nomark _)))))
    hsT), ?_⟩
  intro D a v1 v2 s v4 v5 vd v7 v8 v9 v10 v11 vc v13 vl v15 v16 v17 v18 tl tc dc H0 H n Sg0 hn kk
  refine ⟨by show 1 ≤ sizeLine; decide, fun x0 hx0 => ?_⟩
  have yx0 := same_new (o := .tup [.bl true]) hx0
  refine ⟨by show 2 ≤ sizeLine; decide, fun x1 hx1 => ?_⟩
  have yx1 := same_new (o := .tup [.non, .int 1]) hx1
  refine ⟨by show 0 ≤ sizeLine; decide, fun x2 hx2 => ?_⟩
  have yx2 := same_new (o := .tup []) hx2
  refine ⟨by show 1 ≤ sizeLine; decide, fun x3 hx3 => ?_⟩
  have yx3 := same_new (o := .lst [.bl true]) hx3
  refine ⟨by show 6 ≤ sizeLine; decide, fun lx hlx => ?_⟩
  have ylx := same_new (o := .lst [.ref x0, .ref x1, .ref x2, .ref x3, .non, .str "yes"]) hlx
  have fx0 := ylx _ _ (yx3 _ _ (yx2 _ _ (yx1 _ _ ((upd_same (H := H) (a := x0) (o := .tup [.bl true]))))))
  have fx1 := ylx _ _ (yx3 _ _ (yx2 _ _ ((upd_same (H := (upd H x0 (.tup [.bl true]))) (a := x1) (o := .tup [.non, .int 1])))))
  have fx2 := ylx _ _ (yx3 _ _ ((upd_same (H := (upd (upd H x0 (.tup [.bl true])) x1 (.tup [.non, .int 1]))) (a := x2) (o := .tup []))))
  have fx3 := ylx _ _ ((upd_same (H := (upd (upd (upd H x0 (.tup [.bl true])) x1 (.tup [.non, .int 1])) x2 (.tup []))) (a := x3) (o := .lst [.bl true])))
  have flx := (upd_same (H := (upd (upd (upd (upd H x0 (.tup [.bl true])) x1 (.tup [.non, .int 1])) x2 (.tup [])) x3 (.lst [.bl true]))) (a := lx) (o := .lst [.ref x0, .ref x1, .ref x2, .ref x3, .non, .str "yes"]))
  have yHa := yx0.trans (yx1.trans (yx2.trans (yx3.trans (ylx))))
  have nHa := none_of (yx0.trans (yx1.trans (yx2.trans (yx3)))) hlx
  generalize (upd (upd (upd (upd (upd H x0 (.tup [.bl true])) x1 (.tup [.non, .int 1])) x2 (.tup [])) x3 (.lst [.bl true])) lx (.lst [.ref x0, .ref x1, .ref x2, .ref x3, .non, .str "yes"])) = Ha at yHa fx0 fx1 fx2 fx3 flx ⊢
  have Sg1 := Sg0.same yHa
  obtain ⟨kvs, es⟩ := Sg1.sr.at
  refine ⟨_, rfl, s, 6, n, rfl, Sg1.sr, by omega, by decide, by decide, fun m H1 hm s1 k1 => ?_⟩
  have Sg2 := Sg1.draw k1 s1
  obtain ⟨v, t, ev, rt, td⟩ := pickA (K := K) (k1 _ _ fx0 (ne_of fx0 es (by intro z; cases z))) (k1 _ _ fx1 (ne_of fx1 es (by intro z; cases z))) (k1 _ _ fx2 (ne_of fx2 es (by intro z; cases z))) (k1 _ _ fx3 (ne_of fx3 es (by intro z; cases z))) m hm
  refine ⟨lx, _, (m : Int), _, rfl, rfl, SqL.of (k1 _ _ flx (ne_of flx es (by intro z; cases z))), atI_nat ev, ?_⟩
  obtain ⟨tv, ty, e1, e2, e3, e4⟩ := rt_ty rt
  refine ⟨_, rfl, _, _, _, _, _, rfl, .ty _, ty, e4, _, rfl, ite2 (fun e => ?_) (fun e => ?_)⟩
  · obtain ⟨dt, hdp, hsh, heq⟩ := td e
    refine ⟨_, rfl, by show 0 ≤ sizeLine; decide, fun lt hlt => ?_⟩
    have y := same_new (o := .tup []) hlt
    have hdp2 : Dp K (upd H1 lt (.tup [])) v dt := dp_same y hdp
    refine ⟨dt, .tuple [], hdp2, .tup (SqT.of upd_same) .nil, hsh, by decide +kernel, ?_⟩
    exact qT _ _ _ _ _ _ _ _ _ _ _ _ _ _ _ _ _ _ _ _ tl tc dc H0 _ (n + 4) t (by rw [heq, Bool.not_not]) (rt.same y) (Sg2.same y) (by omega) kk
  · exact qT _ _ _ _ _ _ _ _ _ _ _ _ _ _ _ _ _ _ _ _ tl tc dc H0 _ (n + 4) t (filled_tup (Bool.eq_false_iff.mpr e)).symm rt Sg2 (by omega) kk
theorem part_b2 {f cA P1 gs fs fd_ ff CK CC CS CT CM fM CL fL CD fD : Addr} {fds fdd fdf fdM fdL fdD : FuncData} (B : Bl mg) (S : Dz K mg "_law_told" sTold "call" gs) (N : Nms mg CK CC CS CT) (Bd : Bad K CK CC CS CT) (TB : TabB base mg cA P1)
    (Ds : Df K mg "_law_steps" "_law_steps" sSteps ["state"] fs fds) (Gs : FnOk P w K mg base CX0 3 fs fds ["state"] (spSteps K)) (Dd : Df K mg "_law_digit" "_law_digit" sDigit ["state", "size"] fd_ fdd) (Gd : FnOk P w K mg base CX0 2 fd_ fdd ["state", "size"] spDigit) (Df0 : Df K mg "_law_first" "_law_first" sFirst ["some"] ff fdf) (Gf : FnOk P w K mg base CX0 1 ff fdf ["some"] spFirst)
    (X7 : Kc P w K mg base "MeddlingKey" CM fM fdM ["self", "label", "code", "table", "steps", "code_steps"] 6 (spMI K CM CK CC CS)) (X6 : Kc P w K mg base "LopsidedKey" CL fL fdL ["self", "label", "code", "answers"] 6 (spLI K CL CK CC)) (X5 : Kc P w K mg base "DriftingKey" CD fD fdD ["self", "label", "codes"] 6 (spDI K CD CK CC)) {A : Around} {outer : List Env} {sh : Shared} {H9 : Hp} {E9 : L2.XK}
    (hr : Room 12 (A.deeper (PyProof.Rows.envOfC "law" (defScope sLaw) sh.heap.objs.size f (.ref cA)))) :
    ∃ t, PSs (cxOf C8.CX0 P w K mg base NL "law" (defScope sLaw) f (.ref cA) A outer sh H9 E9).nox (bLaw.drop 11) t ∧ ∀ D a v1 v2 s v4 v5 vd v7 b v9 v10 v11 vc v3 vl v15 v16 v17 v18 tl tc dc H0 H n t3, b = PT.codesOk t3 → RT K H v3 t3 → Sg K (tabs P1) H0 H s n vl vc vd tl tc dc → n + 300 < 2 ^ 40 → (∀ σ' H', Shp a σ' → KN H0 H' s → Tabs (tabs P1) H' → D.nx σ' H') →
      t D [some (.ref a), v1, v2, some (.ref s), v4, v5, some vd, v7, some (.bl b), v9, v10, v11, some vc, some v3, some vl, v15, v16, v17, v18] H := by
  obtain ⟨tl4, hsT, qT⟩ := part_c (H9 := H9) (E9 := E9) (sh := sh) (outer := outer) B S N Bd TB Ds Gs Dd Gd Df0 Gf X7 X6 hr
  obtain ⟨oc, od, dV, kV, doc, pmm, an, cdv, ct, osl, lk, hcg, hb⟩ := S.ex
  have hu64 := hr.units
  have hmT : (P1, qOf "law") ∈ tabs P1 := List.mem_cons_self ..
  have huT : ∀ p ∈ tabs P1, p.1 = P1 → p.2 = qOf "law" := fun p hp e => by rw [List.mem_singleton.mp hp]
  refine ⟨_, pss_cons (ps_if (pt_cmpR (op_neD hu64) (pe_lamD (k := 9) (T := tabs P1) (own := []) (t := fun E => tMake CD (spDI K CD CK CC) [] E (tCons (tVar 14) (tCons (tVar 13) tNil))) rfl S.g S.kp lk hcg hb scTold rfl (Or.inl rfl) (told_gives N B.isinstance Bd) (hr.mono (by decide)) (lm_by (N := NL) (sc := defScope sLaw) (by decide +kernel))
          (fun pins σ H s E Q I hT h => lm_make0 I TB rfl hmT huT hT (lm_by (N := NL) (sc := defScope sLaw) (by decide +kernel)) rfl (fun _ _ _ _ _ _ => rfl) h) (fun A outer s H E f c' hr2 => pe_make (E := E) X5.M X5.G (hr2.mono (by decide)) rfl X5.g X5.b .nil (passes_call (takes_of rfl rfl rfl rfl) fun _ _ _ _ z => z) (pa_cons (pv 14) (pa_cons (pv 13) pa_nil))))
      (pe_call Gf (hr.mono (by decide)) rfl Df0.g Df0.F.kp Df0.b .nil pass0 (pa_cons (pe_lst (pa_cons (pe_ix ix_list (pv 6) pe_int (fun _ _ => rfl)) (pa_cons (pe_ifExp (pt_val (pv 8)) (pe_lst pa_nil) (pe_lst (pa_cons pe_str pa_nil))) pa_nil))) pa_nil)) (nomark _)) (pss_one (ps_ret pe_bl)) pss_nil)
    hsT, ?_⟩
  intro D a v1 v2 s v4 v5 vd v7 b v9 v10 v11 vc v3 vl v15 v16 v17 v18 tl tc dc H0 H n t3 hb rt Sg2 hn kk
  refine ⟨Sg2.ts, fun H5 x5 T5 => ⟨_, rfl, _, rfl, make_di (Sg2.rl.ext x5) (rt.ext x5) T5 (fun v H6 x6 T6 at6 => ?_)⟩⟩
  have x56 := x5.trans x6
  have Sg6 := Sg2.ext x56 T6
  obtain ⟨d, da, db, rfl, hd, hda, hdb⟩ := Sg6.du
  refine ⟨_, rfl, d, _, (0 : Int), _, rfl, rfl, SqL.of hd, atI_nat (j := 0) rfl, _, rfl, _, rfl, ?_⟩
  cases b with
  | true =>
    refine iteYes rfl ⟨by show 0 ≤ sizeLine; decide, fun le hle => ⟨by show 2 ≤ sizeLine; decide, fun l1 hl1 => ?_⟩⟩
    have y0 := same_new (o := .lst []) hle
    have y1 := same_new (o := .lst [.ref da, .ref le]) hl1
    have hle2 : ErAt (upd (upd H6 le (.lst [])) l1 (.lst [.ref da, .ref le])) (.ref le) (eb t3.codesOk) := by
      rw [← hb]
      exact ⟨le, rfl, y1 _ _ upd_same⟩
    have y01 := y0.trans y1
    refine ⟨l1, _, [ek tl, eb t3.codesOk], rfl, upd_same, .cons (hda.same y01) (.cons hle2 .nil), by show 2 ≤ 100; decide, fun v2 H7 s7 at7 => ?_⟩
    have y17 := y01.trans s7
    refine ⟨_, _, dp_same y17 at6.dp, at7.dp, er_shaped _, er_shaped _, _, rfl, iteNo (by rw [er_eqv]; rfl) ?_⟩
    exact qT _ _ _ _ _ _ _ _ _ _ _ _ _ _ _ _ _ _ _ _ tl tc dc H0 H7 n (Sg6.same y17) hn kk
  | false =>
    refine iteNo (by decide) ⟨by show 1 ≤ sizeLine; decide, fun le hle => ⟨by show 2 ≤ sizeLine; decide, fun l1 hl1 => ?_⟩⟩
    have y0 := same_new (o := .lst [.str "code"]) hle
    have y1 := same_new (o := .lst [.ref da, .ref le]) hl1
    have hle2 : ErAt (upd (upd H6 le (.lst [.str "code"])) l1 (.lst [.ref da, .ref le])) (.ref le) (eb t3.codesOk) := by
      rw [← hb]
      exact ⟨le, rfl, y1 _ _ upd_same⟩
    have y01 := y0.trans y1
    refine ⟨l1, _, [ek tl, eb t3.codesOk], rfl, upd_same, .cons (hda.same y01) (.cons hle2 .nil), by show 2 ≤ 100; decide, fun v2 H7 s7 at7 => ?_⟩
    have y17 := y01.trans s7
    refine ⟨_, _, dp_same y17 at6.dp, at7.dp, er_shaped _, er_shaped _, _, rfl, iteNo (by rw [er_eqv]; rfl) ?_⟩
    exact qT _ _ _ _ _ _ _ _ _ _ _ _ _ _ _ _ _ _ _ _ tl tc dc H0 H7 n (Sg6.same y17) hn kk
theorem Cd.tupd {H : Hp} {v : V} {t : PT} {d : PyData} (h : Cd K H v t d) : TupD K H v t := fun e => by
  cases h with
  | tup h => exact ⟨.tuple [.int 1], .tup (SqT.of h) (.cons (.int _) .nil), by decide +kernel, by decide +kernel⟩
  | int z => cases e
  | bl b => cases e
  | non => cases e
  | str => cases e
theorem sh_tup {ds : List PyData} (h : PyData.canLayAll0 ds = true) (hd : PyData.depthAll ds ≤ 4) : SeqAt.shaped (.tuple ds) = true := by
  unfold SeqAt.shaped
  rw [PyData.canLay0, h, PyData.depth, Bool.true_and, decide_eq_true_iff]
  omega
theorem pickC {H : Hp} {x0 x1 x2 x3 x4 : Addr} {vc : V} {tc : PT} {dc : PyData} (c : Cd K H vc tc dc) (e0 : H x0 = some (.tup [vc])) (e1 : H x1 = some (.tup [.int 0, vc])) (e2 : H x2 = some (.tup [vc, .int 5, .non])) (e3 : H x3 = some (.tup [])) (e4 : H x4 = some (.lst [vc])) (n : Nat) (h : n < 6) :
    ∃ (v : V) (t : PT), ([.ref x0, .ref x1, .ref x2, .ref x3, .ref x4, vc] : List V)[n]? = some v ∧ RT K H v t ∧ TupD K H v t := by
  obtain ⟨l1, l2⟩ := c.lay
  match n, h with
  | 0, _ => exact ⟨_, .tup [tc], rfl, .tup e0 (.cons c.rt .nil) (by show 1 ≤ 1000; decide), fun _ => ⟨.tuple [dc], .tup (SqT.of e0) (.cons c.dp .nil), sh_tup (by simp [PyData.canLayAll0, l1]) (by simp [PyData.depthAll]; omega), by simp [PyData.eqv, PyData.eqvAll, PT.filled]⟩⟩
  | 1, _ => exact ⟨_, .tup [.int 0, tc], rfl, .tup e1 (.cons (.int _) (.cons c.rt .nil)) (by show 2 ≤ 1000; decide), fun _ => ⟨.tuple [.int 0, dc], .tup (SqT.of e1) (.cons (.int _) (.cons c.dp .nil)), sh_tup (by simp [PyData.canLayAll0, PyData.canLay0, l1]) (by simp [PyData.depthAll, PyData.depth]; omega), by simp [PyData.eqv, PyData.eqvAll, PT.filled]⟩⟩
  | 2, _ => exact ⟨_, .tup [tc, .int 5, .non], rfl, .tup e2 (.cons c.rt (.cons (.int _) (.cons .non .nil))) (by show 3 ≤ 1000; decide), fun _ => ⟨.tuple [dc, .int 5, .none], .tup (SqT.of e2) (.cons c.dp (.cons (.int _) (.cons .non .nil))), sh_tup (by simp [PyData.canLayAll0, PyData.canLay0, l1]) (by simp [PyData.depthAll, PyData.depth]; omega), by simp [PyData.eqv, PyData.eqvAll, PT.filled]⟩⟩
  | 3, _ => exact ⟨_, .tup [], rfl, .tup e3 .nil (by show 0 ≤ 1000; decide), fun _ => ⟨.tuple [], .tup (SqT.of e3) .nil, by decide +kernel, by decide +kernel⟩⟩
  | 4, _ => exact ⟨_, .oth, rfl, .lst e4, fun z => nomatch z⟩
  | 5, _ => exact ⟨_, tc, rfl, c.rt, c.tupd⟩
theorem tup_of {H : Hp} {v : V} {t : PT} (r : RT K H v t) (h : t.isTup = true) : ∃ a vs ts, v = .ref a ∧ t = .tup ts ∧ H a = some (.tup vs) ∧ RTs K H vs ts ∧ vs.length ≤ 1000 := by
  cases r with
  | tup ha r hl => exact ⟨_, _, _, rfl, rfl, ha, r, hl⟩
  | _ => cases h
theorem part_b {f cA P1 gs fs fd_ ff CK CC CS CT CM fM CL fL CD fD fg : Addr} {fds fdd fdf fdM fdL fdD fdg : FuncData} (B : Bl mg) (S : Dz K mg "_law_told" sTold "call" gs) (N : Nms mg CK CC CS CT) (Bd : Bad K CK CC CS CT) (TB : TabB base mg cA P1)
    (Ds : Df K mg "_law_steps" "_law_steps" sSteps ["state"] fs fds) (Gs : FnOk P w K mg base CX0 3 fs fds ["state"] (spSteps K)) (Dd : Df K mg "_law_digit" "_law_digit" sDigit ["state", "size"] fd_ fdd) (Gd : FnOk P w K mg base CX0 2 fd_ fdd ["state", "size"] spDigit) (Df0 : Df K mg "_law_first" "_law_first" sFirst ["some"] ff fdf) (Gf : FnOk P w K mg base CX0 1 ff fdf ["some"] spFirst) (Dg : Df K mg "_law_good" "_law_good" sGood ["code"] fg fdg) (Gg : FnOk P w K mg base CX0 1 fg fdg ["code"] (spGood K))
    (X7 : Kc P w K mg base "MeddlingKey" CM fM fdM ["self", "label", "code", "table", "steps", "code_steps"] 6 (spMI K CM CK CC CS)) (X6 : Kc P w K mg base "LopsidedKey" CL fL fdL ["self", "label", "code", "answers"] 6 (spLI K CL CK CC)) (X5 : Kc P w K mg base "DriftingKey" CD fD fdD ["self", "label", "codes"] 6 (spDI K CD CK CC)) {A : Around} {outer : List Env} {sh : Shared} {H9 : Hp} {E9 : L2.XK}
    (hr : Room 12 (A.deeper (PyProof.Rows.envOfC "law" (defScope sLaw) sh.heap.objs.size f (.ref cA)))) :
    ∃ t, PSs (cxOf C8.CX0 P w K mg base NL "law" (defScope sLaw) f (.ref cA) A outer sh H9 E9).nox (bLaw.drop 9) t ∧ ∀ D a v1 v2 s v4 v5 vd v7 v8 v9 v10 v11 vc v13 vl v15 v16 v17 v18 tl tc dc H0 H n, Sg K (tabs P1) H0 H s n vl vc vd tl tc dc → n + 400 < 2 ^ 40 → (∀ σ' H', Shp a σ' → KN H0 H' s → Tabs (tabs P1) H' → D.nx σ' H') →
      t D [some (.ref a), v1, v2, some (.ref s), v4, v5, some vd, v7, v8, v9, v10, v11, some vc, v13, some vl, v15, v16, v17, v18] H := by
  obtain ⟨tl4, hsT, qT⟩ := part_b2 (H9 := H9) (E9 := E9) (sh := sh) (outer := outer) B S N Bd TB Ds Gs Dd Gd Df0 Gf X7 X6 X5 hr
  obtain ⟨oc, od, dV, kV, doc, pmm, an, cdv, ct, osl, lk, hcg, hb⟩ := S.ex
  have hu64 := hr.units
  have hmT : (P1, qOf "law") ∈ tabs P1 := List.mem_cons_self ..
  have huT : ∀ p ∈ tabs P1, p.1 = P1 → p.2 = qOf "law" := fun p hp e => by rw [List.mem_singleton.mp hp]
  refine ⟨_, pss_cons (ps_set (i := 13) scLaw.nd rfl (Or.inr rfl) (pe_ix ix_list (pe_lst (pa_cons (pe_tup (pa_cons (pv 12) pa_nil)) (pa_cons (pe_tup (pa_cons pe_int (pa_cons (pv 12) pa_nil))) (pa_cons (pe_tup (pa_cons (pv 12) (pa_cons pe_int (pa_cons pe_non pa_nil)))) (pa_cons (pe_tup pa_nil) (pa_cons (pe_lst (pa_cons (pv 12) pa_nil)) (pa_cons (pv 12) pa_nil))))))) (pe_call Gd (hr.mono (by decide)) rfl Dd.g Dd.F.kp Dd.b .nil pass0 (pa_cons (pv 3) (pa_cons pe_int pa_nil))) (fun _ _ => rfl)))
    (pss_cons (ps_set (i := 8) scLaw.nd rfl (Or.inl rfl) (pe_and (pe_callB call_isi (by rfl) B.isinstance (by decide +kernel) (pa_cons (pv 13) (pa_cons (pTy (t := "tuple") (by rfl) B.tuple (by decide +kernel)) pa_nil))) (pe_and (pe_cmpR (op_neD hu64) (pv 13) (pe_tup pa_nil) (nomark _))
      (pe_one (pe_cmpR (Cm.op_eqE hu64) (pe_lc (own := [("one", 18)]) (g := gName 18) rfl scLaw.nd (pi_tup (pv 13)) (blkOk_by (own := [("one", 18)]) (N := NL) (sc := defScope sLaw) (by decide +kernel)) (fun _ _ _ _ _ => pg_name (i := 18) scLaw.nd rfl (Or.inl rfl))
        (fun _ _ _ _ _ => pts_one (pt_not (pt_val (pe_call Gg (hr.mono (by decide)) rfl Dg.g Dg.F.kp Dg.b .nil pass0 (pa_cons (pv 18) pa_nil))))) (fun _ _ _ _ _ => pv 18)) (pe_lst pa_nil) (nomark _))))))
    hsT), ?_⟩
  intro D a v1 v2 s v4 v5 vd v7 v8 v9 v10 v11 vc v13 vl v15 v16 v17 v18 tl tc dc H0 H n Sg0 hn kk
  refine ⟨_, rfl, by show 1 ≤ sizeLine; decide, fun x0 hx0 => ?_⟩
  have yx0 := same_new (o := .tup [vc]) hx0
  refine ⟨_, rfl, by show 2 ≤ sizeLine; decide, fun x1 hx1 => ?_⟩
  have yx1 := same_new (o := .tup [.int 0, vc]) hx1
  refine ⟨_, rfl, by show 3 ≤ sizeLine; decide, fun x2 hx2 => ?_⟩
  have yx2 := same_new (o := .tup [vc, .int 5, .non]) hx2
  refine ⟨by show 0 ≤ sizeLine; decide, fun x3 hx3 => ?_⟩
  have yx3 := same_new (o := .tup []) hx3
  refine ⟨_, rfl, by show 1 ≤ sizeLine; decide, fun x4 hx4 => ?_⟩
  have yx4 := same_new (o := .lst [vc]) hx4
  refine ⟨_, rfl, by show 6 ≤ sizeLine; decide, fun lx hlx => ?_⟩
  have ylx := same_new (o := .lst [.ref x0, .ref x1, .ref x2, .ref x3, .ref x4, vc]) hlx
  have fx0 := ylx _ _ (yx4 _ _ (yx3 _ _ (yx2 _ _ (yx1 _ _ ((upd_same (H := H) (a := x0) (o := .tup [vc])))))))
  have fx1 := ylx _ _ (yx4 _ _ (yx3 _ _ (yx2 _ _ ((upd_same (H := (upd H x0 (.tup [vc]))) (a := x1) (o := .tup [.int 0, vc]))))))
  have fx2 := ylx _ _ (yx4 _ _ (yx3 _ _ ((upd_same (H := (upd (upd H x0 (.tup [vc])) x1 (.tup [.int 0, vc]))) (a := x2) (o := .tup [vc, .int 5, .non])))))
  have fx3 := ylx _ _ (yx4 _ _ ((upd_same (H := (upd (upd (upd H x0 (.tup [vc])) x1 (.tup [.int 0, vc])) x2 (.tup [vc, .int 5, .non]))) (a := x3) (o := .tup []))))
  have fx4 := ylx _ _ ((upd_same (H := (upd (upd (upd (upd H x0 (.tup [vc])) x1 (.tup [.int 0, vc])) x2 (.tup [vc, .int 5, .non])) x3 (.tup []))) (a := x4) (o := .lst [vc])))
  have flx := (upd_same (H := (upd (upd (upd (upd (upd H x0 (.tup [vc])) x1 (.tup [.int 0, vc])) x2 (.tup [vc, .int 5, .non])) x3 (.tup [])) x4 (.lst [vc]))) (a := lx) (o := .lst [.ref x0, .ref x1, .ref x2, .ref x3, .ref x4, vc]))
  have yHa := yx0.trans (yx1.trans (yx2.trans (yx3.trans (yx4.trans (ylx)))))
  have nHa := none_of (yx0.trans (yx1.trans (yx2.trans (yx3.trans (yx4))))) hlx
  generalize (upd (upd (upd (upd (upd (upd H x0 (.tup [vc])) x1 (.tup [.int 0, vc])) x2 (.tup [vc, .int 5, .non])) x3 (.tup [])) x4 (.lst [vc])) lx (.lst [.ref x0, .ref x1, .ref x2, .ref x3, .ref x4, vc])) = Ha at yHa fx0 fx1 fx2 fx3 fx4 flx ⊢
  have Sg1 := Sg0.same yHa
  obtain ⟨kvs, es⟩ := Sg1.sr.at
  refine ⟨_, rfl, s, 6, n, rfl, Sg1.sr, by omega, by decide, by decide, fun m H1 hm s1 k1 => ?_⟩
  have Sg2 := Sg1.draw k1 s1
  obtain ⟨v, t, ev, rt, td⟩ := pickC (K := K) Sg2.cd (k1 _ _ fx0 (ne_of fx0 es (by intro z; cases z))) (k1 _ _ fx1 (ne_of fx1 es (by intro z; cases z))) (k1 _ _ fx2 (ne_of fx2 es (by intro z; cases z))) (k1 _ _ fx3 (ne_of fx3 es (by intro z; cases z))) (k1 _ _ fx4 (ne_of fx4 es (by intro z; cases z))) m hm
  refine ⟨lx, _, (m : Int), _, rfl, rfl, SqL.of (k1 _ _ flx (ne_of flx es (by intro z; cases z))), atI_nat ev, ?_⟩
  obtain ⟨tv, ty, e1, e2, e3, e4⟩ := rt_ty rt
  refine ⟨_, rfl, _, _, _, _, _, rfl, .ty _, ty, e4, _, rfl, ite2 (fun e => ?_) (fun e => ?_)⟩
  · obtain ⟨dt, hdp, hsh, heq⟩ := td e
    obtain ⟨ta, vs, ts, rfl, rfl, ha, r, hl⟩ := tup_of rt e
    refine ⟨_, rfl, by show 0 ≤ sizeLine; decide, fun lt hlt => ?_⟩
    have y := same_new (o := .tup []) hlt
    have Sg3 := Sg2.same y
    refine ⟨dt, .tuple [], dp_same y hdp, .tup (SqT.of upd_same) .nil, hsh, by decide +kernel, _, rfl, ?_⟩
    rw [heq, Bool.not_not]
    have ha2 := y _ _ ha
    have r2 := r.same y
    generalize upd H1 lt (.tup []) = H2 at y Sg3 ha2 r2 ⊢
    refine ite2 (fun e => ?_) (fun e => ?_)
    · refine ⟨_, rfl, ta, rfl, ⟨_, SqT.of ha2⟩, fun Dl hD => ?_⟩
      refine Cm.lc_none (walk_tup (K := K) (a := ta) (xs := vs)) (ts.map fun t => !t.isCode) (by rw [List.length_map, r.length]) (Nat.le_trans hl (by decide)) hD (fun _ sm => SqT.of (sm _ _ ha2)) (fun i b y H3 H4 Qk N hb sm hy hQ hN => ?_) (fun H3 ys sm hl2 em => ?_)
      · obtain ⟨rfl, hx⟩ := hy
        obtain ⟨t, ht, rt⟩ := r2.get hx
        have hb : b = !t.isCode := by
          rw [List.getElem?_map, ht] at hb
          exact (Option.some.inj hb).symm
        refine ⟨rfl, ?_⟩
        refine ⟨_, rfl, y, t, rfl, rt.same sm, _, rfl, ?_⟩
        cases hp : t.isCode with
        | true => exact iteNo rfl (hN (by rw [hb, hp]; rfl) _ fun _ _ z => z)
        | false => exact iteYes rfl ⟨_, rfl, hQ (by rw [hb, hp]; rfl) _ _ fun _ _ z => z⟩
      · refine ⟨by show 0 ≤ sizeLine; decide, fun L hL => ⟨Dl, L, ys, rfl, rfl, same_new hL _ _ hl2, upd_same, ?_⟩⟩
        have y5 := sm.trans (same_new (o := .lst []) hL)
        refine qT _ _ _ _ _ _ _ _ _ _ _ _ _ _ _ _ _ _ _ _ tl tc dc H0 _ (n + 4) (.tup ts) ?_ ((RT.tup ha2 r2 hl).same y5) (Sg3.same y5) (by omega) kk
        have e5 : (ts.map fun t => !t.isCode).all (fun b => !b) = ts.all PT.isCode := by
          rw [List.all_map]
          congr 1
          funext t
          show (!(!t.isCode)) = t.isCode
          rw [Bool.not_not]
        rw [em, e5]
        cases ts with
        | nil => cases e
        | cons t0 ts0 => rfl
    · exact qT _ _ _ _ _ _ _ _ _ _ _ _ _ _ _ _ _ _ _ _ tl tc dc H0 _ (n + 4) (.tup ts) (filled_no (Bool.eq_false_iff.mpr e)).symm (.tup ha2 r2 hl) Sg3 (by omega) kk
  · exact qT _ _ _ _ _ _ _ _ _ _ _ _ _ _ _ _ _ _ _ _ tl tc dc H0 _ (n + 4) t (filled_no (filled_tup (Bool.eq_false_iff.mpr e))).symm rt Sg2 (by omega) kk
end
end K03
set_option Elab.async false
set_option linter.all false
set_option maxRecDepth 100000
set_option maxHeartbeats 4000000
namespace K03
open PySem L2 Xo Lm LamX
abbrev cTrace : Stmt := top 35
abbrev sTrI : Stmt := inClass cTrace 0
section
variable {P : Program} {w : World} {K : PySem.W.Frag} {mg : Str → Option Value} {base : Heap}
def spTrI (C : Addr) : Sp := fun vs H Q _ => ∃ p dx, vs = [.ref p] ∧ H p = some (.ins C dx []) ∧ ∀ l H', H l = none → (∀ b o, b ≠ p → H b = some o → H' b = some o) → H' p = some (.ins C dx [("_events", .ref l)]) → H' l = some (.lst []) → Q .non H'
theorem scTrI : FnScope ["self"] ["self"] (defScope sTrI) := ⟨rfl, rfl, rfl, by decide +kernel, rfl, by decide +kernel, by decide +kernel⟩
theorem ok_trI {f C : Addr} {fd : FuncData} (F : Fun K "__init__" "Trace.__init__" sTrI f fd) (cl : Cls K C) (ne : NoAttr K C "_events") : FnOk P w K mg base CX0 1 f fd ["self"] (spTrI C) := by
  refine F.ok scTrI (fun vs H Q E h => ?_) (fun cdv A outer s H vs Q E hr h => ?_)
  · obtain ⟨p, dx, rfl, _⟩ := h
    rfl
  · obtain ⟨p, dx, rfl, hp, k⟩ := h
    refine ⟨_, pss_one (ps_fld (pv 0) (pe_lst pa_nil) rfl), ?_⟩
    refine ⟨by show 0 ≤ sizeLine; decide, fun l hl => ?_⟩
    have y := same_new (o := .lst []) hl
    refine ⟨_, rfl, p, C, dx, [], rfl, y _ _ hp, cl, ne, (by show 0 < 1000; decide), ?_⟩
    have np : l ≠ p := (ne_of_none hp hl).symm
    exact k l _ hl (fun b o hb e => by rw [upd_ne hb]; exact y _ _ e) upd_same (by rw [upd_ne np, upd_same])
/-- the answers so far, in the list at l -/
structure Acc (TT : List (Addr × Str)) (Ha H : Hp) (l : Addr) (vs : List V) (es : List Er) : Prop where
  ex : ExtN Ha H
  ts : Tabs TT H
  at_ : H l = some (.lst vs)
  er : Ers H vs es
  hd : ∃ x r, vs = V.ref x :: r
theorem er_upd {H : Hp} {l : Addr} {vs0 : List V} {o : HO} (hl : H l = some (.lst vs0)) (hv : ∃ x r, vs0 = V.ref x :: r) {v : V} {e : Er} (h : ErAt H v e) : ErAt (upd H l o) v e := by
  obtain ⟨a, rfl, h⟩ := h
  refine ⟨a, rfl, ?_⟩
  rw [upd_ne ?_]
  · exact h
  · rintro rfl
    obtain ⟨x, r, rfl⟩ := hv
    rw [hl] at h
    cases e <;> cases h
theorem ers_upd {H : Hp} {l : Addr} {vs0 : List V} {o : HO} (hl : H l = some (.lst vs0)) (hv : ∃ x r, vs0 = V.ref x :: r) : ∀ {vs : List V} {es : List Er}, Ers H vs es → Ers (upd H l o) vs es
  | _, _, .nil => .nil
  | _, _, .cons h r => .cons (er_upd hl hv h) (ers_upd hl hv r)
theorem Acc.app {TT : List (Addr × Str)} {Ha H H8 : Hp} {l : Addr} {vs : List V} {es : List Er} {v : V} {e : Er} (A : Acc TT Ha H l vs es) (hl : Ha l = none) (x : ExtN H H8) (T : Tabs TT H8) (h : ErAt H8 v e) : H8 l = some (.lst vs) ∧ Acc TT Ha (upd H8 l (.lst (vs ++ [v]))) l (vs ++ [v]) (es ++ [e]) := by
  have a8 := x _ _ A.at_ fun ps z => by cases z
  refine ⟨a8, ⟨fun b o hb n => ?_, tabs_updL T a8, upd_same, ers_upd a8 A.hd ((A.er.ext x).app h), ?_⟩⟩
  · rw [upd_ne (ne_of_none hb hl)]
    exact x _ _ (A.ex _ _ hb n) n
  · obtain ⟨x, r, rfl⟩ := A.hd
    exact ⟨x, r ++ [v], rfl⟩
theorem part_a {f cA P1 gs fs fd_ ff CK CC CS CT CM fM CL fL CD fD fg C1 f1 C2 f2 C3 f3 C4 f4 : Addr} {fds fdd fdf fdM fdL fdD fdg fd1 fd2 fd3 fd4 : FuncData} (B : Bl mg) (S : Dz K mg "_law_told" sTold "call" gs) (N : Nms mg CK CC CS CT) (Bd : Bad K CK CC CS CT) (TB : TabB base mg cA P1)
    (Ds : Df K mg "_law_steps" "_law_steps" sSteps ["state"] fs fds) (Gs : FnOk P w K mg base CX0 3 fs fds ["state"] (spSteps K)) (Dd : Df K mg "_law_digit" "_law_digit" sDigit ["state", "size"] fd_ fdd) (Gd : FnOk P w K mg base CX0 2 fd_ fdd ["state", "size"] spDigit) (Df0 : Df K mg "_law_first" "_law_first" sFirst ["some"] ff fdf) (Gf : FnOk P w K mg base CX0 1 ff fdf ["some"] spFirst)
    (X1 : Kc P w K mg base "Key" C1 f1 fd1 ["self", "label", "code"] 5 (spKI K C1 CK CC 0 fKey)) (X2 : Kc P w K mg base "TracedKey" C2 f2 fd2 ["self", "label", "code", "trace"] 6 (spKI K C2 CK CC 1 (fTr fKey []))) (X3 : Kc P w K mg base "FailingKey" C3 f3 fd3 ["self", "label", "code", "code_at", "match_at"] 6 (spKI K C3 CK CC 2 fFail)) (X4 : Kc P w K mg base "TracedFailingKey" C4 f4 fd4 ["self", "label", "code", "trace", "code_at", "match_at"] 8 (spKI K C4 CK CC 3 fTF))
    (Dg : Df K mg "_law_good" "_law_good" sGood ["code"] fg fdg) (Gg : FnOk P w K mg base CX0 1 fg fdg ["code"] (spGood K))
    (X7 : Kc P w K mg base "MeddlingKey" CM fM fdM ["self", "label", "code", "table", "steps", "code_steps"] 6 (spMI K CM CK CC CS)) (X6 : Kc P w K mg base "LopsidedKey" CL fL fdL ["self", "label", "code", "answers"] 6 (spLI K CL CK CC)) (X5 : Kc P w K mg base "DriftingKey" CD fD fdD ["self", "label", "codes"] 6 (spDI K CD CK CC)) {A : Around} {outer : List Env} {sh : Shared} {H9 : Hp} {E9 : L2.XK}
    (hr : Room 12 (A.deeper (PyProof.Rows.envOfC "law" (defScope sLaw) sh.heap.objs.size f (.ref cA)))) :
    ∃ t, PSs (cxOf C8.CX0 P w K mg base NL "law" (defScope sLaw) f (.ref cA) A outer sh H9 E9).nox (bLaw.drop 4) t ∧ ∀ D a v1 v2 s v4 v5 vd v7 v8 v9 v10 v11 vc v13 vl v15 v16 vt v18 tl tc dc H0 H n, Sg K (tabs P1) H0 H s n vl vc vd tl tc dc → n + 400 < 2 ^ 40 → (∀ σ' H', Shp a σ' → KN H0 H' s → Tabs (tabs P1) H' → D.nx σ' H') →
      t D [some (.ref a), v1, v2, some (.ref s), v4, v5, some vd, v7, v8, v9, v10, v11, some vc, v13, some vl, v15, v16, some vt, v18] H := by
  obtain ⟨tl4, hsT, qT⟩ := part_b (H9 := H9) (E9 := E9) (sh := sh) (outer := outer) B S N Bd TB Ds Gs Dd Gd Df0 Gf Dg Gg X7 X6 X5 hr
  obtain ⟨oc, od, dV, kV, doc, pmm, an, cdv, ct, osl, lk, hcg, hb⟩ := S.ex
  have hu64 := hr.units
  have hmT : (P1, qOf "law") ∈ tabs P1 := List.mem_cons_self ..
  have huT : ∀ p ∈ tabs P1, p.1 = P1 → p.2 = qOf "law" := fun p hp e => by rw [List.mem_singleton.mp hp]
  refine ⟨_, pss_cons (ps_set (i := 7) scLaw.nd rfl (Or.inl rfl) (pe_lst (pa_cons (pe_lamD (k := 9) (T := tabs P1) (own := []) (t := fun E => tMake C1 (spKI K C1 CK CC 0 fKey) [] E (tCons (tVar 14) (tCons (tVar 12) tNil))) rfl S.g S.kp lk hcg hb scTold rfl (Or.inl rfl) (told_gives N B.isinstance Bd) (hr.mono (by decide)) (lm_by (N := NL) (sc := defScope sLaw) (by decide +kernel))
          (fun pins σ H s E Q I hT h => lm_make0 I TB rfl hmT huT hT (lm_by (N := NL) (sc := defScope sLaw) (by decide +kernel)) rfl (fun _ _ _ _ _ _ => rfl) h) (fun A outer s H E f c' hr2 => pe_make (E := E) X1.M X1.G (hr2.mono (by decide)) rfl X1.g X1.b .nil (passes_call (takes_of rfl rfl rfl rfl) fun _ _ _ _ z => z) (pa_cons (pv 14) (pa_cons (pv 12) pa_nil)))) pa_nil)))
    (pss_cons (ps_expr (pe_bm PySem.F.plainAttrs_list PySem.F.slot_list_append PySem.F.type_list_append mt_append (pv 7) (pa_cons (pe_lamD (k := 9) (T := tabs P1) (own := []) (t := fun E => tMake C2 (spKI K C2 CK CC 1 (fTr fKey [])) [] E (tCons (tVar 14) (tCons (tVar 12) (tCons (tVar 17) tNil)))) rfl S.g S.kp lk hcg hb scTold rfl (Or.inl rfl) (told_gives N B.isinstance Bd) (hr.mono (by decide)) (lm_by (N := NL) (sc := defScope sLaw) (by decide +kernel))
          (fun pins σ H s E Q I hT h => lm_make0 I TB rfl hmT huT hT (lm_by (N := NL) (sc := defScope sLaw) (by decide +kernel)) rfl (fun _ _ _ _ _ _ => rfl) h) (fun A outer s H E f c' hr2 => pe_make (E := E) X2.M X2.G (hr2.mono (by decide)) rfl X2.g X2.b .nil (passes_call (takes_of rfl rfl rfl rfl) fun _ _ _ _ z => z) (pa_cons (pv 14) (pa_cons (pv 12) (pa_cons (pv 17) pa_nil))))) pa_nil)))
    (pss_cons (ps_expr (pe_bm PySem.F.plainAttrs_list PySem.F.slot_list_append PySem.F.type_list_append mt_append (pv 7) (pa_cons (pe_lamD (k := 9) (T := tabs P1) (own := []) (t := fun E => tMake C3 (spKI K C3 CK CC 2 fFail) [] E (tCons (tVar 14) (tCons (tVar 12) (tCons (tC (.int 1)) (tCons (tC (.int 2)) tNil))))) rfl S.g S.kp lk hcg hb scTold rfl (Or.inl rfl) (told_gives N B.isinstance Bd) (hr.mono (by decide)) (lm_by (N := NL) (sc := defScope sLaw) (by decide +kernel))
          (fun pins σ H s E Q I hT h => lm_make0 I TB rfl hmT huT hT (lm_by (N := NL) (sc := defScope sLaw) (by decide +kernel)) rfl (fun _ _ _ _ _ _ => rfl) h) (fun A outer s H E f c' hr2 => pe_make (E := E) X3.M X3.G (hr2.mono (by decide)) rfl X3.g X3.b .nil (passes_call (takes_of rfl rfl rfl rfl) fun _ _ _ _ z => z) (pa_cons (pv 14) (pa_cons (pv 12) (pa_cons pe_int (pa_cons pe_int pa_nil)))))) pa_nil)))
    (pss_cons (ps_expr (pe_bm PySem.F.plainAttrs_list PySem.F.slot_list_append PySem.F.type_list_append mt_append (pv 7) (pa_cons (pe_lamD (k := 9) (T := tabs P1) (own := []) (t := fun E => tMake C4 (spKI K C4 CK CC 3 fTF) [] E (tCons (tVar 14) (tCons (tVar 12) (tCons (tVar 17) (tCons (tC (.int 1)) (tCons (tC (.int 2)) tNil)))))) rfl S.g S.kp lk hcg hb scTold rfl (Or.inl rfl) (told_gives N B.isinstance Bd) (hr.mono (by decide)) (lm_by (N := NL) (sc := defScope sLaw) (by decide +kernel))
          (fun pins σ H s E Q I hT h => lm_make0 I TB rfl hmT huT hT (lm_by (N := NL) (sc := defScope sLaw) (by decide +kernel)) rfl (fun _ _ _ _ _ _ => rfl) h) (fun A outer s H E f c' hr2 => pe_make (E := E) X4.M X4.G (hr2.mono (by decide)) rfl X4.g X4.b .nil (passes_call (takes_of rfl rfl rfl rfl) fun _ _ _ _ z => z) (pa_cons (pv 14) (pa_cons (pv 12) (pa_cons (pv 17) (pa_cons pe_int (pa_cons pe_int pa_nil))))))) pa_nil)))
    (pss_cons (ps_if (pt_cmpR (op_neD hu64) (pv 7) (pe_op op_rep (pe_lst (pa_cons (pe_call Gf (hr.mono (by decide)) rfl Df0.g Df0.F.kp Df0.b .nil pass0 (pa_cons (pv 6) pa_nil)) pa_nil)) pe_int) (nomark _)) (pss_one (ps_ret pe_bl)) pss_nil)
    hsT)))), ?_⟩
  intro D a v1 v2 s v4 v5 vd v7 v8 v9 v10 v11 vc v13 vl v15 v16 vt v18 tl tc dc H0 H n Sg0 hn kk
  refine ⟨Sg0.ts, fun H5 x5 T5 => ⟨_, rfl, _, rfl, make_ki (ws := []) rfl (Sg0.rl.ext x5) (Sg0.cd.rt.ext x5) T5 (fun w1 Ha xa Ta a1 => ⟨by show 1 ≤ sizeLine; decide, fun l hl => ?_⟩)⟩⟩
  have SgA := Sg0.ext (x5.trans xa) Ta
  have y := same_new (o := .lst [w1]) hl
  have A1 : Acc (tabs P1) Ha (upd Ha l (.lst [w1])) l [w1] [firstE [ek tl, ec tc]] := ⟨ExtN.of y, Ta.ext y, upd_same, .cons (a1.same y) .nil, by
    obtain ⟨a, rfl, _⟩ := a1
    exact ⟨a, [], rfl⟩⟩
  generalize upd Ha l (.lst [w1]) = H6 at A1 ⊢
  refine ⟨_, rfl, .inl ⟨rfl, _, SqL.of A1.at_⟩, A1.ts, fun H5 x5 T5 => ⟨_, rfl, _, rfl, _, rfl, make_ki (ws := [vt]) rfl ((SgA.rl.ext A1.ex).ext x5) ((SgA.cd.rt.ext A1.ex).ext x5) T5 (fun w2 Hb xb Tb a2 => ?_)⟩⟩
  obtain ⟨e2, A2⟩ := A1.app hl (x5.trans xb) Tb a2
  refine ⟨l, _, w2, rfl, rfl, e2, by show 1 < sizeLine; decide, ?_⟩
  generalize upd Hb l (.lst ([w1] ++ [w2])) = H7 at A2 ⊢
  refine ⟨_, rfl, .inl ⟨rfl, _, SqL.of A2.at_⟩, A2.ts, fun H5 x5 T5 => ⟨_, rfl, _, rfl, make_ki (ws := [.int 1, .int 2]) rfl ((SgA.rl.ext A2.ex).ext x5) ((SgA.cd.rt.ext A2.ex).ext x5) T5 (fun w3 Hc xc Tc a3 => ?_)⟩⟩
  obtain ⟨e3, A3⟩ := A2.app hl (x5.trans xc) Tc a3
  refine ⟨l, _, w3, rfl, rfl, e3, by show 2 < sizeLine; decide, ?_⟩
  generalize upd Hc l (.lst ([w1] ++ [w2] ++ [w3])) = H8 at A3 ⊢
  refine ⟨_, rfl, .inl ⟨rfl, _, SqL.of A3.at_⟩, A3.ts, fun H5 x5 T5 => ⟨_, rfl, _, rfl, _, rfl, make_ki (ws := [vt, .int 1, .int 2]) rfl ((SgA.rl.ext A3.ex).ext x5) ((SgA.cd.rt.ext A3.ex).ext x5) T5 (fun w4 Hd xd Td a4 => ?_)⟩⟩
  obtain ⟨e4, A4⟩ := A3.app hl (x5.trans xd) Td a4
  refine ⟨l, _, w4, rfl, rfl, e4, by show 3 < sizeLine; decide, ?_⟩
  generalize upd Hd l (.lst ([w1] ++ [w2] ++ [w3] ++ [w4])) = H10 at A4 ⊢
  have SgB := SgA.ext A4.ex A4.ts
  obtain ⟨d, da, db, rfl, hd, hda, hdb⟩ := SgB.du
  refine ⟨_, rfl, _, rfl, d, _, [ek tl, ec tc], rfl, hd, .cons hda (.cons hdb .nil), by show 2 ≤ 100; decide, fun v2 H11 s11 at11 => ⟨by show 1 ≤ sizeLine; decide, fun l1 hl1 => ?_⟩⟩
  have y1 := same_new (o := .lst [v2]) hl1
  refine ⟨l1, 4, _, rfl, rfl, upd_same, by decide, by decide, by show 1 * 4 ≤ sizeLine; decide, fun l2 hl2 => ?_⟩
  have e5 : (List.replicate (4 : Int).toNat [v2]).flatten = [v2, v2, v2, v2] := rfl
  rw [e5] at *
  have y2 := same_new (o := .lst [v2, v2, v2, v2]) hl2
  have y12 := s11.trans (y1.trans y2)
  have at2 := at11.same (y1.trans y2)
  have hE2 : Ers (upd (upd H11 l1 (.lst [v2])) l2 (.lst [v2, v2, v2, v2])) [v2, v2, v2, v2] [firstE [ek tl, ec tc], firstE [ek tl, ec tc], firstE [ek tl, ec tc], firstE [ek tl, ec tc]] := .cons at2 (.cons at2 (.cons at2 (.cons at2 .nil)))
  refine ⟨ersD [firstE [ek tl, ec tc], firstE [ek tl, ec tc], firstE [ek tl, ec tc], firstE [ek tl, ec tc]], ersD [firstE [ek tl, ec tc], firstE [ek tl, ec tc], firstE [ek tl, ec tc], firstE [ek tl, ec tc]], .lst (SqL.of (y12 _ _ A4.at_)) (A4.er.same y12).dp, .lst (SqL.of upd_same) hE2.dp, ers_shaped _, ers_shaped _, _, rfl, iteNo (by rw [ers_eqv]; rfl) ?_⟩
  exact qT _ _ _ _ _ _ _ _ _ _ _ _ _ _ _ _ _ _ _ _ tl tc dc H0 _ n (SgB.same y12) hn kk
def spLaw (K : PySem.W.Frag) (P1 : Addr) : Sp := fun vs H Q _ => ∃ (a : Addr) (ns : List Int), vs = [.ref a] ∧ SqL K H a (ns.map V.int) ∧ ns.length ≤ 63 ∧ Tabs (tabs P1) H ∧ ∀ H', Q (.bl true) H'
theorem ok_law {f cA P1 gs fs fd_ ff CK CC CS CT CM fM CL fL CD fD fg C1 f1 C2 f2 C3 f3 C4 f4 fr flb fnu CTr fTr0 : Addr} {fds fdd fdf fd fdM fdL fdD fdg fd1 fd2 fd3 fd4 fdr fdlb fdnu fdTr : FuncData} (D0 : Dc K mg "law" sLaw ["script"] f cA fd) (hsum : mg "sum" = none) (B : Bl mg) (S : Dz K mg "_law_told" sTold "call" gs) (N : Nms mg CK CC CS CT) (Bd : Bad K CK CC CS CT) (TB : TabB base mg cA P1)
    (Ds : Df K mg "_law_steps" "_law_steps" sSteps ["state"] fs fds) (Gs : FnOk P w K mg base CX0 3 fs fds ["state"] (spSteps K)) (Dd : Df K mg "_law_digit" "_law_digit" sDigit ["state", "size"] fd_ fdd) (Gd : FnOk P w K mg base CX0 2 fd_ fdd ["state", "size"] spDigit) (Df0 : Df K mg "_law_first" "_law_first" sFirst ["some"] ff fdf) (Gf : FnOk P w K mg base CX0 1 ff fdf ["some"] spFirst)
    (X1 : Kc P w K mg base "Key" C1 f1 fd1 ["self", "label", "code"] 5 (spKI K C1 CK CC 0 fKey)) (X2 : Kc P w K mg base "TracedKey" C2 f2 fd2 ["self", "label", "code", "trace"] 6 (spKI K C2 CK CC 1 (fTr fKey []))) (X3 : Kc P w K mg base "FailingKey" C3 f3 fd3 ["self", "label", "code", "code_at", "match_at"] 6 (spKI K C3 CK CC 2 fFail)) (X4 : Kc P w K mg base "TracedFailingKey" C4 f4 fd4 ["self", "label", "code", "trace", "code_at", "match_at"] 8 (spKI K C4 CK CC 3 fTF))
    (Dg : Df K mg "_law_good" "_law_good" sGood ["code"] fg fdg) (Gg : FnOk P w K mg base CX0 1 fg fdg ["code"] (spGood K))
    (X7 : Kc P w K mg base "MeddlingKey" CM fM fdM ["self", "label", "code", "table", "steps", "code_steps"] 6 (spMI K CM CK CC CS)) (X6 : Kc P w K mg base "LopsidedKey" CL fL fdL ["self", "label", "code", "answers"] 6 (spLI K CL CK CC)) (X5 : Kc P w K mg base "DriftingKey" CD fD fdD ["self", "label", "codes"] 6 (spDI K CD CK CC)) 
    (Dr : Df K mg "_law_draw" "_law_draw" sDraw ["cell", "k"] fr fdr) (Gr : FnOk P w K mg base CX0 1 fr fdr ["cell", "k"] spDraw) (Dl : Df K mg "_law_label" "_law_label" sLab ["state"] flb fdlb) (Gl : FnOk P w K mg base CX0 3 flb fdlb ["state"] (spLab K)) (Dn : Df K mg "_law_number" "_law_number" sNum ["state"] fnu fdnu) (Gn : FnOk P w K mg base CX0 3 fnu fdnu ["state"] (spNum K))
    (Mt : Mk K CTr fTr0) (gt : mg "Trace" = some (.ref CTr)) (bt : Binds K fdTr ["self"] []) (Gt : FnOk P w K mg base CX0 1 fTr0 fdTr ["self"] (spTrI CTr)) : _root_.Gd.FnG P w K mg base 13 f fd ["script"] (spLaw K P1) := by
  refine okGc D0 scLaw (fun vs H Q E h => ?_) (fun A outer sh H vs Q E hr hgd h => ?_)
  · obtain ⟨a, ns, rfl, _⟩ := h
    rfl
  · obtain ⟨a, ns, rfl, hS, hlen, hT, k⟩ := h
    obtain ⟨tl4, hsT, qT⟩ := part_a (H9 := H) (E9 := E) (sh := sh) (outer := outer) B S N Bd TB Ds Gs Dd Gd Df0 Gf X1 X2 X3 X4 Dg Gg X7 X6 X5 hr
    refine ⟨_, pss_cons (ps_for PassesOwn.never rfl (pi_enum (by rfl) B.enumerate (pa_cons (pe_op op_cat (pe_slice sl_list (pv 0) po_none (po_some pe_int)) (pe_lst (pa_cons (pe_callB (cr_sum rfl) (by rfl) hsum (by decide +kernel) (pa_cons (pv 0) pa_nil)) pa_nil))) pa_nil)) (pg_tup rfl (pgs_cons (pg_name (i := 1) scLaw.nd rfl (Or.inl rfl)) (pgs_cons (pg_name (i := 2) scLaw.nd rfl (Or.inl rfl)) pgs_nil)))
        (pss_cons (ps_asg (pe_tup (pa_cons (pe_call Gr (hr.mono (by decide)) rfl Dr.g Dr.F.kp Dr.b .nil pass0 (pa_cons (pv 2) (pa_cons (pv 1) pa_nil))) (pa_cons (pe_make0 Mt Gt (hr.mono (by decide)) rfl gt bt .nil pass0) pa_nil))) (pg_tup rfl (pgs_cons (pg_name (i := 3) scLaw.nd rfl (Or.inl rfl)) (pgs_cons (pg_name (i := 17) scLaw.nd rfl (Or.inr rfl)) pgs_nil))))
        (pss_cons (ps_asg (pe_call Gl (hr.mono (by decide)) rfl Dl.g Dl.F.kp Dl.b .nil pass0 (pa_cons (pv 3) pa_nil)) (pg_tup rfl (pgs_cons (pg_name (i := 14) scLaw.nd rfl (Or.inr rfl)) (pgs_cons (pg_name (i := 4) scLaw.nd rfl (Or.inl rfl)) pgs_nil))))
        (pss_cons (ps_asg (pe_call Gn (hr.mono (by decide)) rfl Dn.g Dn.F.kp Dn.b .nil pass0 (pa_cons (pv 3) pa_nil)) (pg_tup rfl (pgs_cons (pg_name (i := 12) scLaw.nd rfl (Or.inr rfl)) (pgs_cons (pg_name (i := 5) scLaw.nd rfl (Or.inl rfl)) pgs_nil))))
        (pss_cons (ps_set (i := 6) scLaw.nd rfl (Or.inl rfl) (pe_lst (pa_cons (pe_ifExp (pt_val (pv 4)) (pe_lst pa_nil) (pe_lst (pa_cons pe_str pa_nil))) (pa_cons (pe_ifExp (pt_val (pv 5)) (pe_lst pa_nil) (pe_lst (pa_cons pe_str pa_nil))) pa_nil))))
        hsT)))))
      (pss_one (ps_ret pe_bl)), ?_⟩
    -- the cells
    refine ⟨_, rfl, _, rfl, a, _, rfl, hS, fun c0 hc0 => ?_⟩
    have y0 := same_new (o := .lst (cutV (ns.map V.int) none (some 6))) hc0
    have cl := cutV_length (ns.map V.int) none (some 6)
    rw [List.length_map] at cl
    refine ⟨_, rfl, a, ns, rfl, y0.seq hS, by show 1 ≤ sizeLine; decide, fun e0 he0 => ?_⟩
    have y1 := same_new (o := .lst [.int ns.sum]) he0
    refine ⟨c0, e0, _, _, rfl, rfl, y1 _ _ upd_same, upd_same, ?_, fun q hq => ?_⟩
    · exact Nat.le_trans (show (cutV (ns.map V.int) none (some 6)).length + 1 ≤ 64 by omega) (by decide)
    have xi : ∀ x ∈ cutV (ns.map V.int) none (some 6) ++ [V.int ns.sum], ∃ z, x = V.int z := fun x hx => by
      rcases List.mem_append.mp hx with hx | hx
      · exact cut_ints hx
      · exact ⟨_, List.mem_singleton.mp hx⟩
    have xl : (cutV (ns.map V.int) none (some 6) ++ [V.int ns.sum]).length ≤ 64 := by
      rw [List.length_append]
      show _ + 1 ≤ _
      omega
    have y2 := y0.trans (y1.trans (same_new (o := .lst (cutV (ns.map V.int) none (some 6) ++ [V.int ns.sum])) hq))
    have eq : upd (upd (upd H c0 (.lst (cutV (ns.map V.int) none (some 6)))) e0 (.lst [.int ns.sum])) q (.lst (cutV (ns.map V.int) none (some 6) ++ [V.int ns.sum])) q = some (.lst (cutV (ns.map V.int) none (some 6) ++ [V.int ns.sum])) := upd_same
    have hTq := hT.ext y2
    generalize upd (upd (upd H c0 (.lst (cutV (ns.map V.int) none (some 6)))) e0 (.lst [.int ns.sum])) q (.lst (cutV (ns.map V.int) none (some 6) ++ [V.int ns.sum])) = Hq at eq hTq ⊢
    generalize cutV (ns.map V.int) none (some 6) ++ [V.int ns.sum] = xs at xi xl eq
    have id0 : ExtN Hq Hq := fun _ _ e _ => e
    refine ⟨q, xs, rfl, SqL.of eq, for_enumL (K := K) (a := q) (xs := xs) (fun i σ H' => Shp a σ ∧ ExtN Hq H' ∧ Tabs (tabs P1) H') ⟨⟨_, _, _, _, _, _, _, _, _, _, _, _, _, _, _, _, _, _, rfl⟩, id0, hTq⟩ (fun i σ H' _ h => SqL.of (h.2.1 _ _ eq fun ps z => by cases z)) ?_ ?_⟩
    · rintro i x T σ H' hx ⟨⟨v1, v2, v3, v4, v5, v6, v7, v8, v9, v10, v11, v12, v13, v14, v15, v16, v17, v18, rfl⟩, em, tm⟩ hT0
      obtain ⟨c, rfl⟩ := xi x (List.mem_of_getElem? hx)
      have hi : i < 64 := Nat.lt_of_lt_of_le (List.getElem?_eq_some_iff.mp hx).1 xl
      refine ⟨T, _, rfl, SqT.of upd_same, rfl, _, _, rfl, _, _, rfl, rfl, ?_⟩
      have y3 := same_new (o := .tup [.int (i : Nat), .int c]) hT0
      have em1 := em.trans (ExtN.of y3)
      have tm1 := tm.ext y3
      generalize upd H' T (.tup [.int (i : Nat), .int c]) = H1 at em1 tm1 ⊢
      refine ⟨_, rfl, _, rfl, c, ((i : Nat) : Int), rfl, by omega, fun s H2 s2 hs hsrc p dx hp hdx hne => ⟨p, dx, rfl, upd_same, fun l H3 hl kp e3 e4 => ⟨rfl, by show 2 ≤ sizeLine; decide, fun t0 ht0 => ?_⟩⟩⟩
      have src := hsrc (1000 * i) (by omega)
      have s3 : Same H2 H3 := fun b o e => kp b o (ne_of_none e hp) (by
        rw [upd_ne (ne_of_none e hp)]
        exact same_new hdx _ _ e)
      have y4 := s3.trans (same_new (o := .tup [.ref s, .ref p]) ht0)
      refine ⟨t0, _, rfl, SqT.of upd_same, rfl, _, _, rfl, _, _, rfl, rfl, ?_⟩
      have src4 := src.same y4
      have kn4 : KN H2 (upd H3 t0 (.tup [.ref s, .ref p])) s := KN.ofS y4
      have tm4 := (tm1.ext s2).ext y4
      generalize upd H3 t0 (.tup [.ref s, .ref p]) = H4 at src4 kn4 tm4 ⊢
      refine ⟨_, rfl, s, 1000 * i, rfl, src4, by omega, fun p5 vl tl H5 hp5 rl s5 k5 => ⟨p5, _, rfl, SqT.of hp5, rfl, _, _, rfl, _, _, rfl, rfl, ?_⟩⟩
      have tm5 := tabS src4 tm4 k5
      refine ⟨_, rfl, s, 1000 * i + 4, rfl, s5, by omega, fun p6 vc tc dc H6 hp6 cd s6 k6 => ⟨p6, _, rfl, SqT.of hp6, rfl, _, _, rfl, _, _, rfl, rfl, ?_⟩⟩
      have tm6 := tabS s5 tm5 k6
      have kn6 := kn4.trans (KN.ofK (k5.trans k6))
      have rl6 := rl.kept s5.at s6 k6
      have fin : ∀ σ' H', Shp a σ' → KN H2 H' s → Tabs (tabs P1) H' → Shp a σ' ∧ ExtN Hq H' ∧ Tabs (tabs P1) H' := fun σ' H' a b c => ⟨a, KN.ext em1 hs ((KN.ofS s2).trans b), c⟩
      have go : ∀ (la lb d : Addr) H7, Same H6 H7 → H7 d = some (.lst [.ref la, .ref lb]) → ErAt H7 (.ref la) (ek tl) → ErAt H7 (.ref lb) (ec tc) → Sg K (tabs P1) H2 H7 s (1000 * i + 4 + 4) vl vc (.ref d) tl tc dc := fun la lb d H7 s7 h1 h2 h3 => ⟨kn6.trans (KN.ofS s7), tm6.ext s7, s6.same s7, rl6.same s7, cd.same s7, d, la, lb, rfl, h1, h2, h3⟩
      refine ⟨_, rfl, _, rfl, ?_⟩
      cases ht : tl.okText with
      | true =>
        refine iteYes rfl ⟨by show 0 ≤ sizeLine; decide, fun la hla => ⟨_, rfl, _, rfl, ?_⟩⟩
        have y5 := same_new (o := .lst []) hla
        have ek1 : ek tl = .no := by unfold ek; rw [ht]; rfl
        cases hc : tc.isCode with
        | true =>
          refine iteYes rfl ⟨by show 0 ≤ sizeLine; decide, fun lb hlb => ⟨by show 2 ≤ sizeLine; decide, fun d hd => ?_⟩⟩
          have y6 := same_new (o := .lst []) hlb
          have y7 := same_new (o := .lst [.ref la, .ref lb]) hd
          have ec1 : ec tc = .no := by unfold ec; rw [hc]; rfl
          exact qT _ _ _ _ _ _ _ _ _ _ _ _ _ _ _ _ _ _ _ _ tl tc dc H2 _ _ (go la lb d _ (y5.trans (y6.trans y7)) upd_same (by rw [ek1]; exact ⟨la, rfl, y7 _ _ (y6 _ _ upd_same)⟩) (by rw [ec1]; exact ⟨lb, rfl, y7 _ _ upd_same⟩)) (by omega) fin
        | false =>
          refine iteNo (by decide) ⟨by show 1 ≤ sizeLine; decide, fun lb hlb => ⟨by show 2 ≤ sizeLine; decide, fun d hd => ?_⟩⟩
          have y6 := same_new (o := .lst [.str "code"]) hlb
          have y7 := same_new (o := .lst [.ref la, .ref lb]) hd
          have ec1 : ec tc = .code := by unfold ec; rw [hc]; rfl
          exact qT _ _ _ _ _ _ _ _ _ _ _ _ _ _ _ _ _ _ _ _ tl tc dc H2 _ _ (go la lb d _ (y5.trans (y6.trans y7)) upd_same (by rw [ek1]; exact ⟨la, rfl, y7 _ _ (y6 _ _ upd_same)⟩) (by rw [ec1]; exact ⟨lb, rfl, y7 _ _ upd_same⟩)) (by omega) fin
      | false =>
        refine iteNo (by decide) ⟨by show 1 ≤ sizeLine; decide, fun la hla => ⟨_, rfl, _, rfl, ?_⟩⟩
        have y5 := same_new (o := .lst [.str "key"]) hla
        have ek1 : ek tl = .key := by unfold ek; rw [ht]; rfl
        cases hc : tc.isCode with
        | true =>
          refine iteYes rfl ⟨by show 0 ≤ sizeLine; decide, fun lb hlb => ⟨by show 2 ≤ sizeLine; decide, fun d hd => ?_⟩⟩
          have y6 := same_new (o := .lst []) hlb
          have y7 := same_new (o := .lst [.ref la, .ref lb]) hd
          have ec1 : ec tc = .no := by unfold ec; rw [hc]; rfl
          exact qT _ _ _ _ _ _ _ _ _ _ _ _ _ _ _ _ _ _ _ _ tl tc dc H2 _ _ (go la lb d _ (y5.trans (y6.trans y7)) upd_same (by rw [ek1]; exact ⟨la, rfl, y7 _ _ (y6 _ _ upd_same)⟩) (by rw [ec1]; exact ⟨lb, rfl, y7 _ _ upd_same⟩)) (by omega) fin
        | false =>
          refine iteNo (by decide) ⟨by show 1 ≤ sizeLine; decide, fun lb hlb => ⟨by show 2 ≤ sizeLine; decide, fun d hd => ?_⟩⟩
          have y6 := same_new (o := .lst [.str "code"]) hlb
          have y7 := same_new (o := .lst [.ref la, .ref lb]) hd
          have ec1 : ec tc = .code := by unfold ec; rw [hc]; rfl
          exact qT _ _ _ _ _ _ _ _ _ _ _ _ _ _ _ _ _ _ _ _ tl tc dc H2 _ _ (go la lb d _ (y5.trans (y6.trans y7)) upd_same (by rw [ek1]; exact ⟨la, rfl, y7 _ _ (y6 _ _ upd_same)⟩) (by rw [ec1]; exact ⟨lb, rfl, y7 _ _ upd_same⟩)) (by omega) fin
    · rintro σ' H2 ⟨⟨v1, v2, v3, v4, v5, v6, v7, v8, v9, v10, v11, v12, v13, v14, v15, v16, v17, v18, rfl⟩, em, tm⟩
      exact k _
end
end K03
set_option Elab.async false
set_option linter.all false
set_option maxRecDepth 100000
/-! Sb: what a def with defaults binds, told by its FuncData -/
namespace Sb
open PySem PySem.Spec PyProof.Rows L2
theorem binds_d {K : PySem.W.Frag} {fd : FuncData} {ps : List Str} {T : Addr} {o : Obj} {its : List Value} {m n j : Nat} (lT : K.lookup T = some o) (oT : o.data = .seq its.toArray m) (hn : n + (its.drop j).length = ps.length)
    (h : ∀ us : List Value, us.length = n → ∃ k : Option (Array Value) → Sem (List (Str × Value)), bindArgs fd ⟨us, []⟩ = seqItems? (.ref T) >>= k ∧ k (some its.toArray) = pure (ps.zip (us ++ its.drop j))) : Binds K fd ps (its.drop j) := fun s us X hlen => by
  have l2 : us.length = n := by
    rw [List.length_append] at hlen
    omega
  obtain ⟨k, e1, e2⟩ := h us l2
  refine BindsTo.of_looks fun M => ?_
  rw [e1]
  exact looks_items X lT oT (.of_pure e2)
end Sb
set_option Elab.async false
set_option linter.all false
set_option maxRecDepth 100000
set_option maxHeartbeats 4000000
namespace K03
open PySem L2 Xo Lm LamX
abbrev sX1 : Stmt := inClass (top 2) 0
theorem scX1 : FnScope ["self", "reason"] ["self", "reason"] (defScope sX1) := ⟨rfl, rfl, rfl, by decide +kernel, rfl, by decide +kernel, by decide +kernel⟩
abbrev sX2 : Stmt := inClass (top 3) 0
theorem scX2 : FnScope ["self", "reason"] ["self", "reason"] (defScope sX2) := ⟨rfl, rfl, rfl, by decide +kernel, rfl, by decide +kernel, by decide +kernel⟩
abbrev sX3 : Stmt := inClass (top 4) 0
theorem scX3 : FnScope ["self", "index"] ["self", "index"] (defScope sX3) := ⟨rfl, rfl, rfl, by decide +kernel, rfl, by decide +kernel, by decide +kernel⟩
theorem hfsK (a b t : V) : putF "_trace" t (fKey a b []) = fKey a b [] ++ [(("_trace" : Str), t)] := by
  unfold fKey
  rw [putF_ne (by decide +kernel), putF_ne (by decide +kernel), putF_nil]
  rfl
theorem hfsF (a b t : V) : putF "_trace" t (fFail a b [.int 0, .int 0]) = fFail a b [.int 0, .int 0] ++ [(("_trace" : Str), t)] := by
  unfold fFail
  rw [putF_ne (by decide +kernel), putF_ne (by decide +kernel), putF_ne (by decide +kernel), putF_ne (by decide +kernel), putF_ne (by decide +kernel), putF_ne (by decide +kernel), putF_nil]
  rfl
theorem all_mk {l : PySem.W.OpenLaw} {w : World} {K : PySem.W.Frag} {h : Heap} {mg : Str → Option Value} {fa fW fBt fCo fNc fSg fTx fFi fNl fNf fNs fMx fDr fDg fLa fNu fGo fSt fFs fTo fL cAL PL CT CK mX1 CC mX2 CS mX3 C1 C2 C3 C4 CD CL CM CTr mI1 mIT mI2 cAI2 ccI2 mI3 cAI3 ccI3 TI3 mI4 cAI4 ccI4 TI4 mID cAID ccID mIL cAIL ccIL mIM cAIM ccIM TIM va0IM SI : Addr} (X : K.In h) (G : h.Ns mainGlobals mg) (hfa : mg "law" = some (.ref fa))
    {odW anW : Option Addr} {slW : Array (Option Value)} {ocW kVW dcW pmW ctW : Value} {cdW : Value} {odBt anBt : Option Addr} {slBt : Array (Option Value)} {ocBt kVBt dcBt pmBt ctBt : Value} {cdBt : Value} {odCo anCo : Option Addr} {slCo : Array (Option Value)} {ocCo kVCo dcCo pmCo ctCo : Value} {cdCo : Value} {odNc anNc : Option Addr} {slNc : Array (Option Value)} {ocNc kVNc dcNc pmNc ctNc : Value} {cdNc : Value} {odSg anSg : Option Addr} {slSg : Array (Option Value)} {ocSg kVSg dcSg pmSg ctSg : Value} {cdSg : Value} {odTx anTx : Option Addr} {slTx : Array (Option Value)} {ocTx kVTx dcTx pmTx ctTx : Value} {cdTx : Value} {odFi anFi : Option Addr} {slFi : Array (Option Value)} {ocFi kVFi dcFi pmFi ctFi : Value} {cdFi : Value} {odNl anNl : Option Addr} {slNl : Array (Option Value)} {ocNl kVNl dcNl pmNl ctNl : Value} {cdNl : Value} {odNf anNf : Option Addr} {slNf : Array (Option Value)} {ocNf kVNf dcNf pmNf ctNf : Value} {cdNf : Value} {odNs anNs : Option Addr} {slNs : Array (Option Value)} {ocNs kVNs dcNs pmNs ctNs : Value} {cdNs : Value} {odMx anMx : Option Addr} {slMx : Array (Option Value)} {ocMx kVMx dcMx pmMx ctMx : Value} {cdMx : Value} {odDr anDr : Option Addr} {slDr : Array (Option Value)} {ocDr kVDr dcDr pmDr ctDr : Value} {cdDr : Value} {odDg anDg : Option Addr} {slDg : Array (Option Value)} {ocDg kVDg dcDg pmDg ctDg : Value} {cdDg : Value} {odLa anLa : Option Addr} {slLa : Array (Option Value)} {ocLa kVLa dcLa pmLa ctLa : Value} {cdLa : Value} {odNu anNu : Option Addr} {slNu : Array (Option Value)} {ocNu kVNu dcNu pmNu ctNu : Value} {cdNu : Value} {odGo anGo : Option Addr} {slGo : Array (Option Value)} {ocGo kVGo dcGo pmGo ctGo : Value} {cdGo : Value} {odSt anSt : Option Addr} {slSt : Array (Option Value)} {ocSt kVSt dcSt pmSt ctSt : Value} {cdSt : Value} {odFs anFs : Option Addr} {slFs : Array (Option Value)} {ocFs kVFs dcFs pmFs ctFs : Value} {cdFs : Value} {odTo anTo : Option Addr} {slTo : Array (Option Value)} {ocTo kVTo dcTo pmTo ctTo : Value} {cdTo : Value} {odL anL : Option Addr} {slL : Array (Option Value)} {ocL kVL dcL pmL ctL : Value} {xcL : Value} {xdL : Option Addr} {xvL : Array Value} {xsL : Array (Option Value)} {odX1 anX1 : Option Addr} {slX1 : Array (Option Value)} {ocX1 kVX1 dcX1 pmX1 ctX1 : Value} {cdX1 : Value} {odX2 anX2 : Option Addr} {slX2 : Array (Option Value)} {ocX2 kVX2 dcX2 pmX2 ctX2 : Value} {cdX2 : Value} {odX3 anX3 : Option Addr} {slX3 : Array (Option Value)} {ocX3 kVX3 dcX3 pmX3 ctX3 : Value} {cdX3 : Value} {odI1 anI1 : Option Addr} {slI1 : Array (Option Value)} {ocI1 kVI1 dcI1 pmI1 ctI1 : Value} {cdI1 : Value} {odIT anIT : Option Addr} {slIT : Array (Option Value)} {ocIT kVIT dcIT pmIT ctIT : Value} {cdIT : Value} {odI2 anI2 : Option Addr} {slI2 : Array (Option Value)} {ocI2 kVI2 dcI2 pmI2 ctI2 : Value} {xcI2 qcI2 : Value} {xdI2 qdI2 : Option Addr} {xvI2 : Array Value} {xsI2 qsI2 : Array (Option Value)} {flI2 : Str} {tfI2 : Tok} {odI3 anI3 : Option Addr} {slI3 : Array (Option Value)} {ocI3 kVI3 dcI3 pmI3 ctI3 : Value} {xcI3 qcI3 : Value} {xdI3 qdI3 : Option Addr} {xvI3 : Array Value} {xsI3 qsI3 : Array (Option Value)} {flI3 : Str} {tfI3 : Tok} {vcI3 : Value} {vdI3 : Option Addr} {vnI3 : Nat} {vsI3 : Array (Option Value)} {vt0I3 : Tok} {vt1I3 : Tok} {odI4 anI4 : Option Addr} {slI4 : Array (Option Value)} {ocI4 kVI4 dcI4 pmI4 ctI4 : Value} {xcI4 qcI4 : Value} {xdI4 qdI4 : Option Addr} {xvI4 : Array Value} {xsI4 qsI4 : Array (Option Value)} {flI4 : Str} {tfI4 : Tok} {vcI4 : Value} {vdI4 : Option Addr} {vnI4 : Nat} {vsI4 : Array (Option Value)} {vt0I4 : Tok} {vt1I4 : Tok} {odID anID : Option Addr} {slID : Array (Option Value)} {ocID kVID dcID pmID ctID : Value} {xcID qcID : Value} {xdID qdID : Option Addr} {xvID : Array Value} {xsID qsID : Array (Option Value)} {flID : Str} {tfID : Tok} {odIL anIL : Option Addr} {slIL : Array (Option Value)} {ocIL kVIL dcIL pmIL ctIL : Value} {xcIL qcIL : Value} {xdIL qdIL : Option Addr} {xvIL : Array Value} {xsIL qsIL : Array (Option Value)} {flIL : Str} {tfIL : Tok} {odIM anIM : Option Addr} {slIM : Array (Option Value)} {ocIM kVIM dcIM pmIM ctIM : Value} {xcIM qcIM : Value} {xdIM qdIM : Option Addr} {xvIM : Array Value} {xsIM qsIM : Array (Option Value)} {flIM : Str} {tfIM : Tok} {vcIM : Value} {vdIM : Option Addr} {vnIM : Nat} {vsIM : Array (Option Value)} {tCODES : Tok} {tMAX_SIGNS : Tok} {tFIRST_SIGN : Tok} {tLAST_SIGN : Tok} {tPERCENT_SIGN : Tok} {twput : Tok} {twdrop : Tok} {twclear : Tok} {twcompact : Tok} {twshrink : Tok} {twreserve : Tok}
    (aW : PySem.W.nsIn K mainGlobals "is_whole" = some (some (.ref fW)))
    (lW : K.lookup fW = some ⟨ocW, odW, .func (PySem.W.fnOf "is_whole" "is_whole" (defArgs sWhole) (defBody sWhole) (defScope sWhole) .none kVW dcW pmW anW cdW ctW), slW⟩)
    (cW : PySem.W.codeIn K cdW "is_whole" = true)
    (kW : PySem.W.keepIn K (.ref fW) = true)
    (aBt : PySem.W.nsIn K mainGlobals "is_between" = some (some (.ref fBt)))
    (lBt : K.lookup fBt = some ⟨ocBt, odBt, .func (PySem.W.fnOf "is_between" "is_between" (defArgs sBetween) (defBody sBetween) (defScope sBetween) .none kVBt dcBt pmBt anBt cdBt ctBt), slBt⟩)
    (cBt : PySem.W.codeIn K cdBt "is_between" = true)
    (kBt : PySem.W.keepIn K (.ref fBt) = true)
    (aCo : PySem.W.nsIn K mainGlobals "is_code" = some (some (.ref fCo)))
    (lCo : K.lookup fCo = some ⟨ocCo, odCo, .func (PySem.W.fnOf "is_code" "is_code" (defArgs sCode) (defBody sCode) (defScope sCode) .none kVCo dcCo pmCo anCo cdCo ctCo), slCo⟩)
    (cCo : PySem.W.codeIn K cdCo "is_code" = true)
    (kCo : PySem.W.keepIn K (.ref fCo) = true)
    (aNc : PySem.W.nsIn K mainGlobals "need_code" = some (some (.ref fNc)))
    (lNc : K.lookup fNc = some ⟨ocNc, odNc, .func (PySem.W.fnOf "need_code" "need_code" (defArgs sNeedCode) (defBody sNeedCode) (defScope sNeedCode) .none kVNc dcNc pmNc anNc cdNc ctNc), slNc⟩)
    (cNc : PySem.W.codeIn K cdNc "need_code" = true)
    (kNc : PySem.W.keepIn K (.ref fNc) = true)
    (aSg : PySem.W.nsIn K mainGlobals "_is_sign" = some (some (.ref fSg)))
    (lSg : K.lookup fSg = some ⟨ocSg, odSg, .func (PySem.W.fnOf "_is_sign" "_is_sign" (defArgs sSign) (defBody sSign) (defScope sSign) .none kVSg dcSg pmSg anSg cdSg ctSg), slSg⟩)
    (cSg : PySem.W.codeIn K cdSg "_is_sign" = true)
    (kSg : PySem.W.keepIn K (.ref fSg) = true)
    (aTx : PySem.W.nsIn K mainGlobals "is_text" = some (some (.ref fTx)))
    (lTx : K.lookup fTx = some ⟨ocTx, odTx, .func (PySem.W.fnOf "is_text" "is_text" (defArgs sText) (defBody sText) (defScope sText) .none kVTx dcTx pmTx anTx cdTx ctTx), slTx⟩)
    (cTx : PySem.W.codeIn K cdTx "is_text" = true)
    (kTx : PySem.W.keepIn K (.ref fTx) = true)
    (aFi : PySem.W.nsIn K mainGlobals "fits_step" = some (some (.ref fFi)))
    (lFi : K.lookup fFi = some ⟨ocFi, odFi, .func (PySem.W.fnOf "fits_step" "fits_step" (defArgs sFits) (defBody sFits) (defScope sFits) .none kVFi dcFi pmFi anFi cdFi ctFi), slFi⟩)
    (cFi : PySem.W.codeIn K cdFi "fits_step" = true)
    (kFi : PySem.W.keepIn K (.ref fFi) = true)
    (aNl : PySem.W.nsIn K mainGlobals "_need_label" = some (some (.ref fNl)))
    (lNl : K.lookup fNl = some ⟨ocNl, odNl, .func (PySem.W.fnOf "_need_label" "_need_label" (defArgs sNLabel) (defBody sNLabel) (defScope sNLabel) .none kVNl dcNl pmNl anNl cdNl ctNl), slNl⟩)
    (cNl : PySem.W.codeIn K cdNl "_need_label" = true)
    (kNl : PySem.W.keepIn K (.ref fNl) = true)
    (aNf : PySem.W.nsIn K mainGlobals "_need_filled" = some (some (.ref fNf)))
    (lNf : K.lookup fNf = some ⟨ocNf, odNf, .func (PySem.W.fnOf "_need_filled" "_need_filled" (defArgs sNFilled) (defBody sNFilled) (defScope sNFilled) .none kVNf dcNf pmNf anNf cdNf ctNf), slNf⟩)
    (cNf : PySem.W.codeIn K cdNf "_need_filled" = true)
    (kNf : PySem.W.keepIn K (.ref fNf) = true)
    (aNs : PySem.W.nsIn K mainGlobals "_need_steps" = some (some (.ref fNs)))
    (lNs : K.lookup fNs = some ⟨ocNs, odNs, .func (PySem.W.fnOf "_need_steps" "_need_steps" (defArgs sNSteps) (defBody sNSteps) (defScope sNSteps) .none kVNs dcNs pmNs anNs cdNs ctNs), slNs⟩)
    (cNs : PySem.W.codeIn K cdNs "_need_steps" = true)
    (kNs : PySem.W.keepIn K (.ref fNs) = true)
    (aMx : PySem.W.nsIn K mainGlobals "_law_mixed" = some (some (.ref fMx)))
    (lMx : K.lookup fMx = some ⟨ocMx, odMx, .func (PySem.W.fnOf "_law_mixed" "_law_mixed" (defArgs sMixed) (defBody sMixed) (defScope sMixed) .none kVMx dcMx pmMx anMx cdMx ctMx), slMx⟩)
    (cMx : PySem.W.codeIn K cdMx "_law_mixed" = true)
    (kMx : PySem.W.keepIn K (.ref fMx) = true)
    (aDr : PySem.W.nsIn K mainGlobals "_law_draw" = some (some (.ref fDr)))
    (lDr : K.lookup fDr = some ⟨ocDr, odDr, .func (PySem.W.fnOf "_law_draw" "_law_draw" (defArgs sDraw) (defBody sDraw) (defScope sDraw) .none kVDr dcDr pmDr anDr cdDr ctDr), slDr⟩)
    (cDr : PySem.W.codeIn K cdDr "_law_draw" = true)
    (kDr : PySem.W.keepIn K (.ref fDr) = true)
    (aDg : PySem.W.nsIn K mainGlobals "_law_digit" = some (some (.ref fDg)))
    (lDg : K.lookup fDg = some ⟨ocDg, odDg, .func (PySem.W.fnOf "_law_digit" "_law_digit" (defArgs sDigit) (defBody sDigit) (defScope sDigit) .none kVDg dcDg pmDg anDg cdDg ctDg), slDg⟩)
    (cDg : PySem.W.codeIn K cdDg "_law_digit" = true)
    (kDg : PySem.W.keepIn K (.ref fDg) = true)
    (aLa : PySem.W.nsIn K mainGlobals "_law_label" = some (some (.ref fLa)))
    (lLa : K.lookup fLa = some ⟨ocLa, odLa, .func (PySem.W.fnOf "_law_label" "_law_label" (defArgs sLab) (defBody sLab) (defScope sLab) .none kVLa dcLa pmLa anLa cdLa ctLa), slLa⟩)
    (cLa : PySem.W.codeIn K cdLa "_law_label" = true)
    (kLa : PySem.W.keepIn K (.ref fLa) = true)
    (aNu : PySem.W.nsIn K mainGlobals "_law_number" = some (some (.ref fNu)))
    (lNu : K.lookup fNu = some ⟨ocNu, odNu, .func (PySem.W.fnOf "_law_number" "_law_number" (defArgs sNum) (defBody sNum) (defScope sNum) .none kVNu dcNu pmNu anNu cdNu ctNu), slNu⟩)
    (cNu : PySem.W.codeIn K cdNu "_law_number" = true)
    (kNu : PySem.W.keepIn K (.ref fNu) = true)
    (aGo : PySem.W.nsIn K mainGlobals "_law_good" = some (some (.ref fGo)))
    (lGo : K.lookup fGo = some ⟨ocGo, odGo, .func (PySem.W.fnOf "_law_good" "_law_good" (defArgs sGood) (defBody sGood) (defScope sGood) .none kVGo dcGo pmGo anGo cdGo ctGo), slGo⟩)
    (cGo : PySem.W.codeIn K cdGo "_law_good" = true)
    (kGo : PySem.W.keepIn K (.ref fGo) = true)
    (aSt : PySem.W.nsIn K mainGlobals "_law_steps" = some (some (.ref fSt)))
    (lSt : K.lookup fSt = some ⟨ocSt, odSt, .func (PySem.W.fnOf "_law_steps" "_law_steps" (defArgs sSteps) (defBody sSteps) (defScope sSteps) .none kVSt dcSt pmSt anSt cdSt ctSt), slSt⟩)
    (cSt : PySem.W.codeIn K cdSt "_law_steps" = true)
    (kSt : PySem.W.keepIn K (.ref fSt) = true)
    (aFs : PySem.W.nsIn K mainGlobals "_law_first" = some (some (.ref fFs)))
    (lFs : K.lookup fFs = some ⟨ocFs, odFs, .func (PySem.W.fnOf "_law_first" "_law_first" (defArgs sFirst) (defBody sFirst) (defScope sFirst) .none kVFs dcFs pmFs anFs cdFs ctFs), slFs⟩)
    (cFs : PySem.W.codeIn K cdFs "_law_first" = true)
    (kFs : PySem.W.keepIn K (.ref fFs) = true)
    (aTo : PySem.W.nsIn K mainGlobals "_law_told" = some (some (.ref fTo)))
    (lTo : K.lookup fTo = some ⟨ocTo, odTo, .func (PySem.W.fnOf "_law_told" "_law_told" (defArgs sTold) (defBody sTold) (defScope sTold) .none kVTo dcTo pmTo anTo cdTo ctTo), slTo⟩)
    (cTo : PySem.W.codeIn K cdTo "_law_told" = true)
    (kTo : PySem.W.keepIn K (.ref fTo) = true)
    (aL : PySem.W.nsIn K mainGlobals "law" = some (some (.ref fL)))
    (lL : K.lookup fL = some ⟨ocL, odL, .func (PySem.W.fnOf "law" "law" (defArgs sLaw) (defBody sLaw) (defScope sLaw) .none kVL dcL pmL anL (.ref cAL) ctL), slL⟩)
    (cL : PySem.W.codeIn K (.ref cAL) "law" = true)
    (kL : PySem.W.keepIn K (.ref fL) = true)
    (xL : K.lookup cAL = some ⟨xcL, xdL, .fields xvL, xsL⟩)
    (yL : xvL[11]? = some (.ref PL))
    (hL : PySem.W.codeHdIn K cAL PL = true)
    (nL : K.lookup PL = none)
    (tL : h.get? PL = some { cls := .none, data := .fields #[] })
    (gTableError : PySem.W.nsIn K mainGlobals "TableError" = some (some (.ref CT)))
    (gBadKey : PySem.W.nsIn K mainGlobals "BadKey" = some (some (.ref CK)))
    (u1E1 : PySem.W.excInitIn K CK [.type "ValueError", .type "Exception", .type "BaseException", .type "object"] "ValueError.__new__" = true)
    (u2E1 : PySem.W.excOver K CK [.type "ValueError", .type "Exception", .type "BaseException", .type "object"] = true)
    (u3E1 : PySem.W.hasDictIn K CK = true)
    (u4E1 : PySem.W.findIn K (.ref CK) "__setattr__" = some (some (.builtin "object.__setattr__")))
    (u5E1 : PySem.W.findIn K (.ref CK) "__getattribute__" = some (some (.builtin "BaseException.__getattribute__")))
    (u6E1 : PySem.W.findIn K (.ref CK) "__getattr__" = some none)
    (u7E1 : PySem.W.subIn K (.ref CK) (.type "BaseException") = some true)
    (u8E1 : PySem.W.typeIn K (.ref CK) = some (.type "type"))
    (u9E1 : PySem.W.keepIn K (.ref CK) = true)
    (v1E1 : PySem.W.findIn K (.ref CK) "__class__" = some (some (.builtin "object.__class__")))
    (v2E1 : PySem.W.specialIn K (.builtin "object.__class__") "__get__" = some (some (.builtin "getset_descriptor.__get__")))
    (v3E1 : PySem.W.takesIn K (.builtin "object.__class__") = some true)
    (v4E1 : PySem.W.mroIn K CK (.type "object") = some true)
    (aX1 : PySem.W.findIn K (.ref CK) "__init__" = some (some (.ref mX1)))
    (iX1 : PySem.W.typeIn K (.ref mX1) = some (.type "function"))
    (jX1 : PySem.W.findIn K (.ref CK) "reason" = some none)
    (lX1 : K.lookup mX1 = some ⟨ocX1, odX1, .func (PySem.W.fnOf "__init__" "BadKey.__init__" (defArgs sX1) (defBody sX1) (defScope sX1) .none kVX1 dcX1 pmX1 anX1 cdX1 ctX1), slX1⟩)
    (cX1 : PySem.W.codeIn K cdX1 "BadKey.__init__" = true)
    (kX1 : PySem.W.keepIn K (.ref mX1) = true)
    (gBadCode : PySem.W.nsIn K mainGlobals "BadCode" = some (some (.ref CC)))
    (u1E2 : PySem.W.excInitIn K CC [.type "ValueError", .type "Exception", .type "BaseException", .type "object"] "ValueError.__new__" = true)
    (u2E2 : PySem.W.excOver K CC [.type "ValueError", .type "Exception", .type "BaseException", .type "object"] = true)
    (u3E2 : PySem.W.hasDictIn K CC = true)
    (u4E2 : PySem.W.findIn K (.ref CC) "__setattr__" = some (some (.builtin "object.__setattr__")))
    (u5E2 : PySem.W.findIn K (.ref CC) "__getattribute__" = some (some (.builtin "BaseException.__getattribute__")))
    (u6E2 : PySem.W.findIn K (.ref CC) "__getattr__" = some none)
    (u7E2 : PySem.W.subIn K (.ref CC) (.type "BaseException") = some true)
    (u8E2 : PySem.W.typeIn K (.ref CC) = some (.type "type"))
    (u9E2 : PySem.W.keepIn K (.ref CC) = true)
    (v1E2 : PySem.W.findIn K (.ref CC) "__class__" = some (some (.builtin "object.__class__")))
    (v2E2 : PySem.W.specialIn K (.builtin "object.__class__") "__get__" = some (some (.builtin "getset_descriptor.__get__")))
    (v3E2 : PySem.W.takesIn K (.builtin "object.__class__") = some true)
    (v4E2 : PySem.W.mroIn K CC (.type "object") = some true)
    (aX2 : PySem.W.findIn K (.ref CC) "__init__" = some (some (.ref mX2)))
    (iX2 : PySem.W.typeIn K (.ref mX2) = some (.type "function"))
    (jX2 : PySem.W.findIn K (.ref CC) "reason" = some none)
    (lX2 : K.lookup mX2 = some ⟨ocX2, odX2, .func (PySem.W.fnOf "__init__" "BadCode.__init__" (defArgs sX2) (defBody sX2) (defScope sX2) .none kVX2 dcX2 pmX2 anX2 cdX2 ctX2), slX2⟩)
    (cX2 : PySem.W.codeIn K cdX2 "BadCode.__init__" = true)
    (kX2 : PySem.W.keepIn K (.ref mX2) = true)
    (gBadStep : PySem.W.nsIn K mainGlobals "BadStep" = some (some (.ref CS)))
    (u1E3 : PySem.W.excInitIn K CS [.type "ValueError", .type "Exception", .type "BaseException", .type "object"] "ValueError.__new__" = true)
    (u2E3 : PySem.W.excOver K CS [.type "ValueError", .type "Exception", .type "BaseException", .type "object"] = true)
    (u3E3 : PySem.W.hasDictIn K CS = true)
    (u4E3 : PySem.W.findIn K (.ref CS) "__setattr__" = some (some (.builtin "object.__setattr__")))
    (u5E3 : PySem.W.findIn K (.ref CS) "__getattribute__" = some (some (.builtin "BaseException.__getattribute__")))
    (u6E3 : PySem.W.findIn K (.ref CS) "__getattr__" = some none)
    (u7E3 : PySem.W.subIn K (.ref CS) (.type "BaseException") = some true)
    (u8E3 : PySem.W.typeIn K (.ref CS) = some (.type "type"))
    (u9E3 : PySem.W.keepIn K (.ref CS) = true)
    (v1E3 : PySem.W.findIn K (.ref CS) "__class__" = some (some (.builtin "object.__class__")))
    (v2E3 : PySem.W.specialIn K (.builtin "object.__class__") "__get__" = some (some (.builtin "getset_descriptor.__get__")))
    (v3E3 : PySem.W.takesIn K (.builtin "object.__class__") = some true)
    (v4E3 : PySem.W.mroIn K CS (.type "object") = some true)
    (aX3 : PySem.W.findIn K (.ref CS) "__init__" = some (some (.ref mX3)))
    (iX3 : PySem.W.typeIn K (.ref mX3) = some (.type "function"))
    (jX3 : PySem.W.findIn K (.ref CS) "index" = some none)
    (lX3 : K.lookup mX3 = some ⟨ocX3, odX3, .func (PySem.W.fnOf "__init__" "BadStep.__init__" (defArgs sX3) (defBody sX3) (defScope sX3) .none kVX3 dcX3 pmX3 anX3 cdX3 ctX3), slX3⟩)
    (cX3 : PySem.W.codeIn K cdX3 "BadStep.__init__" = true)
    (kX3 : PySem.W.keepIn K (.ref mX3) = true)
    (bx1 : PySem.W.exmOne K (.ref CK) (.ref CT) = some true)
    (bx2 : PySem.W.exmOne K (.ref CC) (.ref CT) = some true)
    (bx3 : PySem.W.exmOne K (.ref CS) (.ref CT) = some true)
    (bk1 : PySem.W.kitOne K (.ref CK) (.ref CS) = some false)
    (bk2 : PySem.W.kitOne K (.ref CK) (.ref CK) = some true)
    (bk3 : PySem.W.kitOne K (.ref CC) (.ref CS) = some false)
    (bk4 : PySem.W.kitOne K (.ref CC) (.ref CK) = some false)
    (bk5 : PySem.W.kitOne K (.ref CC) (.ref CC) = some true)
    (bk6 : PySem.W.kitOne K (.ref CS) (.ref CS) = some true)
    (gKey : PySem.W.nsIn K mainGlobals "Key" = some (some (.ref C1)))
    (pgC1 : PySem.W.plainGet K C1 Str.empty = true)
    (hdC1 : PySem.W.hasDictIn K C1 = true)
    (poC1 : PySem.W.plainOver K C1 = true)
    (saC1 : PySem.W.findIn K (.ref C1) "__setattr__" = some (some (.builtin "object.__setattr__")))
    (mkC1 : PySem.W.makesIn K C1 = true)
    (kc_C1 : PySem.W.keepIn K (.ref C1) = true)
    (nC1label : PySem.W.findIn K (.ref C1) "label" = some none)
    (nC1_code : PySem.W.findIn K (.ref C1) "_code" = some none)
    (gTracedKey : PySem.W.nsIn K mainGlobals "TracedKey" = some (some (.ref C2)))
    (pgC2 : PySem.W.plainGet K C2 Str.empty = true)
    (hdC2 : PySem.W.hasDictIn K C2 = true)
    (poC2 : PySem.W.plainOver K C2 = true)
    (saC2 : PySem.W.findIn K (.ref C2) "__setattr__" = some (some (.builtin "object.__setattr__")))
    (mkC2 : PySem.W.makesIn K C2 = true)
    (kc_C2 : PySem.W.keepIn K (.ref C2) = true)
    (nC2label : PySem.W.findIn K (.ref C2) "label" = some none)
    (nC2_code : PySem.W.findIn K (.ref C2) "_code" = some none)
    (nC2_trace : PySem.W.findIn K (.ref C2) "_trace" = some none)
    (gFailingKey : PySem.W.nsIn K mainGlobals "FailingKey" = some (some (.ref C3)))
    (pgC3 : PySem.W.plainGet K C3 Str.empty = true)
    (hdC3 : PySem.W.hasDictIn K C3 = true)
    (poC3 : PySem.W.plainOver K C3 = true)
    (saC3 : PySem.W.findIn K (.ref C3) "__setattr__" = some (some (.builtin "object.__setattr__")))
    (mkC3 : PySem.W.makesIn K C3 = true)
    (kc_C3 : PySem.W.keepIn K (.ref C3) = true)
    (nC3label : PySem.W.findIn K (.ref C3) "label" = some none)
    (nC3_code : PySem.W.findIn K (.ref C3) "_code" = some none)
    (nC3_code_at : PySem.W.findIn K (.ref C3) "_code_at" = some none)
    (nC3_match_at : PySem.W.findIn K (.ref C3) "_match_at" = some none)
    (nC3_code_calls : PySem.W.findIn K (.ref C3) "_code_calls" = some none)
    (nC3_match_calls : PySem.W.findIn K (.ref C3) "_match_calls" = some none)
    (gTracedFailingKey : PySem.W.nsIn K mainGlobals "TracedFailingKey" = some (some (.ref C4)))
    (pgC4 : PySem.W.plainGet K C4 Str.empty = true)
    (hdC4 : PySem.W.hasDictIn K C4 = true)
    (poC4 : PySem.W.plainOver K C4 = true)
    (saC4 : PySem.W.findIn K (.ref C4) "__setattr__" = some (some (.builtin "object.__setattr__")))
    (mkC4 : PySem.W.makesIn K C4 = true)
    (kc_C4 : PySem.W.keepIn K (.ref C4) = true)
    (nC4label : PySem.W.findIn K (.ref C4) "label" = some none)
    (nC4_code : PySem.W.findIn K (.ref C4) "_code" = some none)
    (nC4_trace : PySem.W.findIn K (.ref C4) "_trace" = some none)
    (nC4_code_at : PySem.W.findIn K (.ref C4) "_code_at" = some none)
    (nC4_match_at : PySem.W.findIn K (.ref C4) "_match_at" = some none)
    (nC4_code_calls : PySem.W.findIn K (.ref C4) "_code_calls" = some none)
    (nC4_match_calls : PySem.W.findIn K (.ref C4) "_match_calls" = some none)
    (gDriftingKey : PySem.W.nsIn K mainGlobals "DriftingKey" = some (some (.ref CD)))
    (pgCD : PySem.W.plainGet K CD Str.empty = true)
    (hdCD : PySem.W.hasDictIn K CD = true)
    (poCD : PySem.W.plainOver K CD = true)
    (saCD : PySem.W.findIn K (.ref CD) "__setattr__" = some (some (.builtin "object.__setattr__")))
    (mkCD : PySem.W.makesIn K CD = true)
    (kc_CD : PySem.W.keepIn K (.ref CD) = true)
    (nCDlabel : PySem.W.findIn K (.ref CD) "label" = some none)
    (nCD_code : PySem.W.findIn K (.ref CD) "_code" = some none)
    (nCD_codes : PySem.W.findIn K (.ref CD) "_codes" = some none)
    (nCD_turn : PySem.W.findIn K (.ref CD) "_turn" = some none)
    (gLopsidedKey : PySem.W.nsIn K mainGlobals "LopsidedKey" = some (some (.ref CL)))
    (pgCL : PySem.W.plainGet K CL Str.empty = true)
    (hdCL : PySem.W.hasDictIn K CL = true)
    (poCL : PySem.W.plainOver K CL = true)
    (saCL : PySem.W.findIn K (.ref CL) "__setattr__" = some (some (.builtin "object.__setattr__")))
    (mkCL : PySem.W.makesIn K CL = true)
    (kc_CL : PySem.W.keepIn K (.ref CL) = true)
    (nCLlabel : PySem.W.findIn K (.ref CL) "label" = some none)
    (nCL_code : PySem.W.findIn K (.ref CL) "_code" = some none)
    (nCL_answers : PySem.W.findIn K (.ref CL) "_answers" = some none)
    (nCL_turn : PySem.W.findIn K (.ref CL) "_turn" = some none)
    (gMeddlingKey : PySem.W.nsIn K mainGlobals "MeddlingKey" = some (some (.ref CM)))
    (pgCM : PySem.W.plainGet K CM Str.empty = true)
    (hdCM : PySem.W.hasDictIn K CM = true)
    (poCM : PySem.W.plainOver K CM = true)
    (saCM : PySem.W.findIn K (.ref CM) "__setattr__" = some (some (.builtin "object.__setattr__")))
    (mkCM : PySem.W.makesIn K CM = true)
    (kc_CM : PySem.W.keepIn K (.ref CM) = true)
    (nCMlabel : PySem.W.findIn K (.ref CM) "label" = some none)
    (nCM_code : PySem.W.findIn K (.ref CM) "_code" = some none)
    (nCM_table : PySem.W.findIn K (.ref CM) "_table" = some none)
    (nCM_steps : PySem.W.findIn K (.ref CM) "_steps" = some none)
    (nCM_code_steps : PySem.W.findIn K (.ref CM) "_code_steps" = some none)
    (gTrace : PySem.W.nsIn K mainGlobals "Trace" = some (some (.ref CTr)))
    (pgCTr : PySem.W.plainGet K CTr Str.empty = true)
    (hdCTr : PySem.W.hasDictIn K CTr = true)
    (poCTr : PySem.W.plainOver K CTr = true)
    (saCTr : PySem.W.findIn K (.ref CTr) "__setattr__" = some (some (.builtin "object.__setattr__")))
    (mkCTr : PySem.W.makesIn K CTr = true)
    (kcCTr : PySem.W.keepIn K (.ref CTr) = true)
    (nCTr_events : PySem.W.findIn K (.ref CTr) "_events" = some none)
    (htop : (l.prog.main.scope.names.lookup ("super" : Str)).isSome = false)
    (hst : PySem.W.nsIn K cStatics "thirdparty.any" = some none)
    (zisinstance : PySem.W.nsIn K mainGlobals "isinstance" = some none)
    (zint : PySem.W.nsIn K mainGlobals "int" = some none)
    (zbool : PySem.W.nsIn K mainGlobals "bool" = some none)
    (zlist : PySem.W.nsIn K mainGlobals "list" = some none)
    (zrange : PySem.W.nsIn K mainGlobals "range" = some none)
    (zlen : PySem.W.nsIn K mainGlobals "len" = some none)
    (zmin : PySem.W.nsIn K mainGlobals "min" = some none)
    (zmax : PySem.W.nsIn K mainGlobals "max" = some none)
    (zsorted : PySem.W.nsIn K mainGlobals "sorted" = some none)
    (zenumerate : PySem.W.nsIn K mainGlobals "enumerate" = some none)
    (zrepr : PySem.W.nsIn K mainGlobals "repr" = some none)
    (ztuple : PySem.W.nsIn K mainGlobals "tuple" = some none)
    (zdivmod : PySem.W.nsIn K mainGlobals "divmod" = some none)
    (zall : PySem.W.nsIn K mainGlobals "all" = some none)
    (zord : PySem.W.nsIn K mainGlobals "ord" = some none)
    (zstr : PySem.W.nsIn K mainGlobals "str" = some none)
    (zsum : PySem.W.nsIn K mainGlobals "sum" = some none)
    (zsuper : PySem.W.nsIn K mainGlobals "super" = some none)
    (aI1 : PySem.W.findIn K (.ref C1) "__init__" = some (some (.ref mI1)))
    (iI1 : PySem.W.isFn K (.ref mI1) = true)
    (lI1 : K.lookup mI1 = some ⟨ocI1, odI1, .func (PySem.W.fnOf "__init__" "Key.__init__" (defArgs sKI) (defBody sKI) (defScope sKI) .none kVI1 dcI1 pmI1 anI1 cdI1 ctI1), slI1⟩)
    (cI1 : PySem.W.codeIn K cdI1 "Key.__init__" = true)
    (kI1 : PySem.W.keepIn K (.ref mI1) = true)
    (aIT : PySem.W.findIn K (.ref CTr) "__init__" = some (some (.ref mIT)))
    (iIT : PySem.W.isFn K (.ref mIT) = true)
    (lIT : K.lookup mIT = some ⟨ocIT, odIT, .func (PySem.W.fnOf "__init__" "Trace.__init__" (defArgs sTrI) (defBody sTrI) (defScope sTrI) .none kVIT dcIT pmIT anIT cdIT ctIT), slIT⟩)
    (cIT : PySem.W.codeIn K cdIT "Trace.__init__" = true)
    (kIT : PySem.W.keepIn K (.ref mIT) = true)
    (aI2 : PySem.W.findIn K (.ref C2) "__init__" = some (some (.ref mI2)))
    (iI2 : PySem.W.isFn K (.ref mI2) = true)
    (lI2 : K.lookup mI2 = some ⟨ocI2, odI2, .func (PySem.W.ksFn "__init__" "TracedKey.__init__" (defArgs sTI) (defBody sTI) (defScope sTI) .none kVI2 dcI2 pmI2 anI2 (.ref cAI2) ctI2 ccI2), slI2⟩)
    (cI2 : PySem.W.codeIn K (.ref cAI2) "TracedKey.__init__" = true)
    (xI2 : K.lookup cAI2 = some ⟨xcI2, xdI2, .fields xvI2, xsI2⟩)
    (yI2 : xvI2[2]? = some (.str flI2 tfI2))
    (zI2 : (l.prog.main.file == flI2) = true)
    (qI2 : K.lookup ccI2 = some ⟨qcI2, qdI2, .cell (some (.ref C2)), qsI2⟩)
    (eI2 : (PySem.W.clsIn K C2).isSome = true)
    (aI3 : PySem.W.findIn K (.ref C3) "__init__" = some (some (.ref mI3)))
    (iI3 : PySem.W.isFn K (.ref mI3) = true)
    (lI3 : K.lookup mI3 = some ⟨ocI3, odI3, .func (PySem.W.ksFn "__init__" "FailingKey.__init__" (defArgs sFI) (defBody sFI) (defScope sFI) (.ref TI3) kVI3 dcI3 pmI3 anI3 (.ref cAI3) ctI3 ccI3), slI3⟩)
    (cI3 : PySem.W.codeIn K (.ref cAI3) "FailingKey.__init__" = true)
    (xI3 : K.lookup cAI3 = some ⟨xcI3, xdI3, .fields xvI3, xsI3⟩)
    (yI3 : xvI3[2]? = some (.str flI3 tfI3))
    (zI3 : (l.prog.main.file == flI3) = true)
    (qI3 : K.lookup ccI3 = some ⟨qcI3, qdI3, .cell (some (.ref C3)), qsI3⟩)
    (eI3 : (PySem.W.clsIn K C3).isSome = true)
    (vI3 : K.lookup TI3 = some ⟨vcI3, vdI3, .seq #[.int 0 vt0I3, .int 0 vt1I3] vnI3, vsI3⟩)
    (aI4 : PySem.W.findIn K (.ref C4) "__init__" = some (some (.ref mI4)))
    (iI4 : PySem.W.isFn K (.ref mI4) = true)
    (lI4 : K.lookup mI4 = some ⟨ocI4, odI4, .func (PySem.W.ksFn "__init__" "TracedFailingKey.__init__" (defArgs sTFI) (defBody sTFI) (defScope sTFI) (.ref TI4) kVI4 dcI4 pmI4 anI4 (.ref cAI4) ctI4 ccI4), slI4⟩)
    (cI4 : PySem.W.codeIn K (.ref cAI4) "TracedFailingKey.__init__" = true)
    (xI4 : K.lookup cAI4 = some ⟨xcI4, xdI4, .fields xvI4, xsI4⟩)
    (yI4 : xvI4[2]? = some (.str flI4 tfI4))
    (zI4 : (l.prog.main.file == flI4) = true)
    (qI4 : K.lookup ccI4 = some ⟨qcI4, qdI4, .cell (some (.ref C4)), qsI4⟩)
    (eI4 : (PySem.W.clsIn K C4).isSome = true)
    (vI4 : K.lookup TI4 = some ⟨vcI4, vdI4, .seq #[.int 0 vt0I4, .int 0 vt1I4] vnI4, vsI4⟩)
    (aID : PySem.W.findIn K (.ref CD) "__init__" = some (some (.ref mID)))
    (iID : PySem.W.isFn K (.ref mID) = true)
    (lID : K.lookup mID = some ⟨ocID, odID, .func (PySem.W.ksFn "__init__" "DriftingKey.__init__" (defArgs sDI) (defBody sDI) (defScope sDI) .none kVID dcID pmID anID (.ref cAID) ctID ccID), slID⟩)
    (cID : PySem.W.codeIn K (.ref cAID) "DriftingKey.__init__" = true)
    (xID : K.lookup cAID = some ⟨xcID, xdID, .fields xvID, xsID⟩)
    (yID : xvID[2]? = some (.str flID tfID))
    (zID : (l.prog.main.file == flID) = true)
    (qID : K.lookup ccID = some ⟨qcID, qdID, .cell (some (.ref CD)), qsID⟩)
    (eID : (PySem.W.clsIn K CD).isSome = true)
    (aIL : PySem.W.findIn K (.ref CL) "__init__" = some (some (.ref mIL)))
    (iIL : PySem.W.isFn K (.ref mIL) = true)
    (lIL : K.lookup mIL = some ⟨ocIL, odIL, .func (PySem.W.ksFn "__init__" "LopsidedKey.__init__" (defArgs sLI) (defBody sLI) (defScope sLI) .none kVIL dcIL pmIL anIL (.ref cAIL) ctIL ccIL), slIL⟩)
    (cIL : PySem.W.codeIn K (.ref cAIL) "LopsidedKey.__init__" = true)
    (xIL : K.lookup cAIL = some ⟨xcIL, xdIL, .fields xvIL, xsIL⟩)
    (yIL : xvIL[2]? = some (.str flIL tfIL))
    (zIL : (l.prog.main.file == flIL) = true)
    (qIL : K.lookup ccIL = some ⟨qcIL, qdIL, .cell (some (.ref CL)), qsIL⟩)
    (eIL : (PySem.W.clsIn K CL).isSome = true)
    (aIM : PySem.W.findIn K (.ref CM) "__init__" = some (some (.ref mIM)))
    (iIM : PySem.W.isFn K (.ref mIM) = true)
    (lIM : K.lookup mIM = some ⟨ocIM, odIM, .func (PySem.W.ksFn "__init__" "MeddlingKey.__init__" (defArgs sMI) (defBody sMI) (defScope sMI) (.ref TIM) kVIM dcIM pmIM anIM (.ref cAIM) ctIM ccIM), slIM⟩)
    (cIM : PySem.W.codeIn K (.ref cAIM) "MeddlingKey.__init__" = true)
    (xIM : K.lookup cAIM = some ⟨xcIM, xdIM, .fields xvIM, xsIM⟩)
    (yIM : xvIM[2]? = some (.str flIM tfIM))
    (zIM : (l.prog.main.file == flIM) = true)
    (qIM : K.lookup ccIM = some ⟨qcIM, qdIM, .cell (some (.ref CM)), qsIM⟩)
    (eIM : (PySem.W.clsIn K CM).isSome = true)
    (vIM : K.lookup TIM = some ⟨vcIM, vdIM, .seq #[.ref va0IM] vnIM, vsIM⟩)
    (s22 : PySem.W.ks_superIn K C2 C2 "__init__" = some (some (.ref mI1)))
    (m22 : PySem.W.mroIn K C2 (.ref C2) = some true)
    (t22 : PySem.W.typeIn K (.ref mI1) = some (.type "function"))
    (n22 : PySem.W.fnIn K mI1 = true)
    (s33 : PySem.W.ks_superIn K C3 C3 "__init__" = some (some (.ref mI1)))
    (m33 : PySem.W.mroIn K C3 (.ref C3) = some true)
    (t33 : PySem.W.typeIn K (.ref mI1) = some (.type "function"))
    (n33 : PySem.W.fnIn K mI1 = true)
    (s43 : PySem.W.ks_superIn K C4 C3 "__init__" = some (some (.ref mI1)))
    (m43 : PySem.W.mroIn K C4 (.ref C3) = some true)
    (t43 : PySem.W.typeIn K (.ref mI1) = some (.type "function"))
    (n43 : PySem.W.fnIn K mI1 = true)
    (s42 : PySem.W.ks_superIn K C4 C2 "__init__" = some (some (.ref mI3)))
    (m42 : PySem.W.mroIn K C4 (.ref C2) = some true)
    (t42 : PySem.W.typeIn K (.ref mI3) = some (.type "function"))
    (n42 : PySem.W.fnIn K mI3 = true)
    (s44 : PySem.W.ks_superIn K C4 C4 "__init__" = some (some (.ref mI2)))
    (m44 : PySem.W.mroIn K C4 (.ref C4) = some true)
    (t44 : PySem.W.typeIn K (.ref mI2) = some (.type "function"))
    (n44 : PySem.W.fnIn K mI2 = true)
    (sDD : PySem.W.ks_superIn K CD CD "__init__" = some (some (.ref mI1)))
    (mDD : PySem.W.mroIn K CD (.ref CD) = some true)
    (tDD : PySem.W.typeIn K (.ref mI1) = some (.type "function"))
    (nDD : PySem.W.fnIn K mI1 = true)
    (sLL : PySem.W.ks_superIn K CL CL "__init__" = some (some (.ref mI1)))
    (mLL : PySem.W.mroIn K CL (.ref CL) = some true)
    (tLL : PySem.W.typeIn K (.ref mI1) = some (.type "function"))
    (nLL : PySem.W.fnIn K mI1 = true)
    (sMM : PySem.W.ks_superIn K CM CM "__init__" = some (some (.ref mI1)))
    (mMM : PySem.W.mroIn K CM (.ref CM) = some true)
    (tMM : PySem.W.typeIn K (.ref mI1) = some (.type "function"))
    (nMM : PySem.W.fnIn K mI1 = true)
    (gCODES : PySem.W.nsIn K mainGlobals "CODES" = some (some (.int 4294967296 tCODES)))
    (gMAX_SIGNS : PySem.W.nsIn K mainGlobals "MAX_SIGNS" = some (some (.int 40 tMAX_SIGNS)))
    (gFIRST_SIGN : PySem.W.nsIn K mainGlobals "FIRST_SIGN" = some (some (.int 32 tFIRST_SIGN)))
    (gLAST_SIGN : PySem.W.nsIn K mainGlobals "LAST_SIGN" = some (some (.int 126 tLAST_SIGN)))
    (gPERCENT_SIGN : PySem.W.nsIn K mainGlobals "PERCENT_SIGN" = some (some (.int 37 tPERCENT_SIGN)))
    (gSI : PySem.W.nsIn K mainGlobals "STEP_ITEMS" = some (some (.ref SI)))
    (dSI : He.dicW K SI = some (He.keysIn w.params ["put", "drop", "clear", "compact", "shrink", "reserve"]))
    (wput : PySem.W.nsIn K SI "put" = some (some (.int 3 twput)))
    (wdrop : PySem.W.nsIn K SI "drop" = some (some (.int 2 twdrop)))
    (wclear : PySem.W.nsIn K SI "clear" = some (some (.int 1 twclear)))
    (wcompact : PySem.W.nsIn K SI "compact" = some (some (.int 1 twcompact)))
    (wshrink : PySem.W.nsIn K SI "shrink" = some (some (.int 1 twshrink)))
    (wreserve : PySem.W.nsIn K SI "reserve" = some (some (.int 2 twreserve)))
    (wgrow : PySem.W.nsIn K SI "grow" = some none)
    (wtake : PySem.W.nsIn K SI "take" = some none) :
    Gd.LawAtG l w K 13 63 "script" mg fa h := by
  have FW := fun_mk (st := sWhole) lW cW kW
  have dW : Df K mg "is_whole" "is_whole" sWhole ["thing"] fW _ := ⟨FW, FW.binds (ps := ["thing"]) (fun _ _ _ _ _ _ us hl => match us, hl with | [_], _ => rfl), PySem.W.mg_of X G aW⟩
  have FBt := fun_mk (st := sBetween) lBt cBt kBt
  have dBt : Df K mg "is_between" "is_between" sBetween ["thing", "low", "high"] fBt _ := ⟨FBt, FBt.binds (ps := ["thing", "low", "high"]) (fun _ _ _ _ _ _ us hl => match us, hl with | [_, _, _], _ => rfl), PySem.W.mg_of X G aBt⟩
  have FCo := fun_mk (st := sCode) lCo cCo kCo
  have dCo : Df K mg "is_code" "is_code" sCode ["thing"] fCo _ := ⟨FCo, FCo.binds (ps := ["thing"]) (fun _ _ _ _ _ _ us hl => match us, hl with | [_], _ => rfl), PySem.W.mg_of X G aCo⟩
  have FNc := fun_mk (st := sNeedCode) lNc cNc kNc
  have dNc : Df K mg "need_code" "need_code" sNeedCode ["thing"] fNc _ := ⟨FNc, FNc.binds (ps := ["thing"]) (fun _ _ _ _ _ _ us hl => match us, hl with | [_], _ => rfl), PySem.W.mg_of X G aNc⟩
  have FSg := fun_mk (st := sSign) lSg cSg kSg
  have dSg : Df K mg "_is_sign" "_is_sign" sSign ["number"] fSg _ := ⟨FSg, FSg.binds (ps := ["number"]) (fun _ _ _ _ _ _ us hl => match us, hl with | [_], _ => rfl), PySem.W.mg_of X G aSg⟩
  have FTx := fun_mk (st := sText) lTx cTx kTx
  have dTx : Df K mg "is_text" "is_text" sText ["thing"] fTx _ := ⟨FTx, FTx.binds (ps := ["thing"]) (fun _ _ _ _ _ _ us hl => match us, hl with | [_], _ => rfl), PySem.W.mg_of X G aTx⟩
  have FFi := fun_mk (st := sFits) lFi cFi kFi
  have dFi : Df K mg "fits_step" "fits_step" sFits ["thing"] fFi _ := ⟨FFi, FFi.binds (ps := ["thing"]) (fun _ _ _ _ _ _ us hl => match us, hl with | [_], _ => rfl), PySem.W.mg_of X G aFi⟩
  have FNl := fun_mk (st := sNLabel) lNl cNl kNl
  have dNl : Df K mg "_need_label" "_need_label" sNLabel ["label"] fNl _ := ⟨FNl, FNl.binds (ps := ["label"]) (fun _ _ _ _ _ _ us hl => match us, hl with | [_], _ => rfl), PySem.W.mg_of X G aNl⟩
  have FNf := fun_mk (st := sNFilled) lNf cNf kNf
  have dNf : Df K mg "_need_filled" "_need_filled" sNFilled ["items"] fNf _ := ⟨FNf, FNf.binds (ps := ["items"]) (fun _ _ _ _ _ _ us hl => match us, hl with | [_], _ => rfl), PySem.W.mg_of X G aNf⟩
  have FNs := fun_mk (st := sNSteps) lNs cNs kNs
  have dNs : Df K mg "_need_steps" "_need_steps" sNSteps ["steps"] fNs _ := ⟨FNs, FNs.binds (ps := ["steps"]) (fun _ _ _ _ _ _ us hl => match us, hl with | [_], _ => rfl), PySem.W.mg_of X G aNs⟩
  have FMx := fun_mk (st := sMixed) lMx cMx kMx
  have dMx : Df K mg "_law_mixed" "_law_mixed" sMixed ["cell", "k"] fMx _ := ⟨FMx, FMx.binds (ps := ["cell", "k"]) (fun _ _ _ _ _ _ us hl => match us, hl with | [_, _], _ => rfl), PySem.W.mg_of X G aMx⟩
  have FDr := fun_mk (st := sDraw) lDr cDr kDr
  have dDr : Df K mg "_law_draw" "_law_draw" sDraw ["cell", "k"] fDr _ := ⟨FDr, FDr.binds (ps := ["cell", "k"]) (fun _ _ _ _ _ _ us hl => match us, hl with | [_, _], _ => rfl), PySem.W.mg_of X G aDr⟩
  have FDg := fun_mk (st := sDigit) lDg cDg kDg
  have dDg : Df K mg "_law_digit" "_law_digit" sDigit ["state", "size"] fDg _ := ⟨FDg, FDg.binds (ps := ["state", "size"]) (fun _ _ _ _ _ _ us hl => match us, hl with | [_, _], _ => rfl), PySem.W.mg_of X G aDg⟩
  have FLa := fun_mk (st := sLab) lLa cLa kLa
  have dLa : Df K mg "_law_label" "_law_label" sLab ["state"] fLa _ := ⟨FLa, FLa.binds (ps := ["state"]) (fun _ _ _ _ _ _ us hl => match us, hl with | [_], _ => rfl), PySem.W.mg_of X G aLa⟩
  have FNu := fun_mk (st := sNum) lNu cNu kNu
  have dNu : Df K mg "_law_number" "_law_number" sNum ["state"] fNu _ := ⟨FNu, FNu.binds (ps := ["state"]) (fun _ _ _ _ _ _ us hl => match us, hl with | [_], _ => rfl), PySem.W.mg_of X G aNu⟩
  have FGo := fun_mk (st := sGood) lGo cGo kGo
  have dGo : Df K mg "_law_good" "_law_good" sGood ["code"] fGo _ := ⟨FGo, FGo.binds (ps := ["code"]) (fun _ _ _ _ _ _ us hl => match us, hl with | [_], _ => rfl), PySem.W.mg_of X G aGo⟩
  have FSt := fun_mk (st := sSteps) lSt cSt kSt
  have dSt : Df K mg "_law_steps" "_law_steps" sSteps ["state"] fSt _ := ⟨FSt, FSt.binds (ps := ["state"]) (fun _ _ _ _ _ _ us hl => match us, hl with | [_], _ => rfl), PySem.W.mg_of X G aSt⟩
  have FFs := fun_mk (st := sFirst) lFs cFs kFs
  have dFs : Df K mg "_law_first" "_law_first" sFirst ["some"] fFs _ := ⟨FFs, FFs.binds (ps := ["some"]) (fun _ _ _ _ _ _ us hl => match us, hl with | [_], _ => rfl), PySem.W.mg_of X G aFs⟩
  have dTo : Dz K mg "_law_told" sTold "call" fTo := ⟨PySem.W.mg_of X G aTo, kTo, ⟨_, _, _, _, _, _, _, _, _, _, lTo, cTo, .all (fun us hl => match us, hl with | [_], _ => rfl)⟩⟩
  have dL : Dc K mg "law" sLaw ["script"] fL cAL _ := ⟨⟨_, _, _, _, _, _, _, _, rfl, lL, cL⟩, kL, .all (fun us hl => match us, hl with | [_], _ => rfl), PySem.W.mg_of X G aL⟩
  have wE1 : Xo.XC K CK := ⟨⟨"ValueError", _, _, _, PySem.F.excBase_ValueError, PySem.F.store_ValueError, u1E1, u2E1⟩, u3E1, u4E1, u5E1, u6E1, u7E1, u8E1, u9E1⟩
  have eE1 : ExcC K CK := ⟨u5E1, u6E1, u7E1, u3E1, v1E1, v2E1, v3E1, v4E1⟩
  have FX1 := fun_mk (st := sX1) lX1 cX1 kX1
  have bX1 := FX1.binds (ps := ["self", "reason"]) (fun _ _ _ _ _ _ us hl => match us, hl with | [_, _], _ => rfl)
  have wE2 : Xo.XC K CC := ⟨⟨"ValueError", _, _, _, PySem.F.excBase_ValueError, PySem.F.store_ValueError, u1E2, u2E2⟩, u3E2, u4E2, u5E2, u6E2, u7E2, u8E2, u9E2⟩
  have eE2 : ExcC K CC := ⟨u5E2, u6E2, u7E2, u3E2, v1E2, v2E2, v3E2, v4E2⟩
  have FX2 := fun_mk (st := sX2) lX2 cX2 kX2
  have bX2 := FX2.binds (ps := ["self", "reason"]) (fun _ _ _ _ _ _ us hl => match us, hl with | [_, _], _ => rfl)
  have wE3 : Xo.XC K CS := ⟨⟨"ValueError", _, _, _, PySem.F.excBase_ValueError, PySem.F.store_ValueError, u1E3, u2E3⟩, u3E3, u4E3, u5E3, u6E3, u7E3, u8E3, u9E3⟩
  have eE3 : ExcC K CS := ⟨u5E3, u6E3, u7E3, u3E3, v1E3, v2E3, v3E3, v4E3⟩
  have FX3 := fun_mk (st := sX3) lX3 cX3 kX3
  have bX3 := FX3.binds (ps := ["self", "index"]) (fun _ _ _ _ _ _ us hl => match us, hl with | [_, _], _ => rfl)
  have MI1 := fun_mk (st := sKI) lI1 cI1 kI1
  have bI1 := MI1.binds (ps := ["self", "label", "code"]) (fun _ _ _ _ _ _ us hl => match us, hl with | [_, _, _], _ => rfl)
  have MIT := fun_mk (st := sTrI) lIT cIT kIT
  have bIT := MIT.binds (ps := ["self"]) (fun _ _ _ _ _ _ us hl => match us, hl with | [_], _ => rfl)
  have bI2 : Binds K (PySem.W.ksFn "__init__" "TracedKey.__init__" (defArgs sTI) (defBody sTI) (defScope sTI) .none kVI2 dcI2 pmI2 anI2 (.ref cAI2) ctI2 ccI2) ["self", "label", "code", "trace"] [] := .all (fun us hl => match us, hl with | [_, _, _, _], _ => rfl)
  have UI2 : Su.FunS K l.prog mg "__init__" "TracedKey.__init__" sTI mI2 cAI2 ccI2 C2 _ := ⟨⟨_, _, _, _, _, _, _, _, _, rfl, lI2, cI2⟩, ⟨⟨_, _, _, _, _, lI2, rfl, rfl⟩, ⟨_, _, _, _, _, _, xI2, yI2, zI2⟩, ⟨_, _, _, qI2⟩, eI2, htop, hst, PySem.W.mg_none_of X G zsuper⟩⟩
  have bI3 := Sb.binds_d (fd := PySem.W.ksFn "__init__" "FailingKey.__init__" (defArgs sFI) (defBody sFI) (defScope sFI) (.ref TI3) kVI3 dcI3 pmI3 anI3 (.ref cAI3) ctI3 ccI3) (ps := ["self", "label", "code", "code_at", "match_at"]) (its := [.int 0 vt0I3, .int 0 vt1I3]) (n := 5) (j := 2) vI3 rfl rfl (fun us hl => match us, hl with | [_, _, _, _, _], _ => ⟨_, rfl, rfl⟩)
  have pI3 := Sb.binds_d (fd := PySem.W.ksFn "__init__" "FailingKey.__init__" (defArgs sFI) (defBody sFI) (defScope sFI) (.ref TI3) kVI3 dcI3 pmI3 anI3 (.ref cAI3) ctI3 ccI3) (ps := ["self", "label", "code", "code_at", "match_at"]) (its := [.int 0 vt0I3, .int 0 vt1I3]) (n := 3) (j := 0) vI3 rfl rfl (fun us hl => match us, hl with | [_, _, _], _ => ⟨_, rfl, rfl⟩)
  have UI3 : Su.FunS K l.prog mg "__init__" "FailingKey.__init__" sFI mI3 cAI3 ccI3 C3 _ := ⟨⟨_, _, _, _, _, _, _, _, _, rfl, lI3, cI3⟩, ⟨⟨_, _, _, _, _, lI3, rfl, rfl⟩, ⟨_, _, _, _, _, _, xI3, yI3, zI3⟩, ⟨_, _, _, qI3⟩, eI3, htop, hst, PySem.W.mg_none_of X G zsuper⟩⟩
  have bI4 := Sb.binds_d (fd := PySem.W.ksFn "__init__" "TracedFailingKey.__init__" (defArgs sTFI) (defBody sTFI) (defScope sTFI) (.ref TI4) kVI4 dcI4 pmI4 anI4 (.ref cAI4) ctI4 ccI4) (ps := ["self", "label", "code", "trace", "code_at", "match_at"]) (its := [.int 0 vt0I4, .int 0 vt1I4]) (n := 6) (j := 2) vI4 rfl rfl (fun us hl => match us, hl with | [_, _, _, _, _, _], _ => ⟨_, rfl, rfl⟩)
  have pI4 := Sb.binds_d (fd := PySem.W.ksFn "__init__" "TracedFailingKey.__init__" (defArgs sTFI) (defBody sTFI) (defScope sTFI) (.ref TI4) kVI4 dcI4 pmI4 anI4 (.ref cAI4) ctI4 ccI4) (ps := ["self", "label", "code", "trace", "code_at", "match_at"]) (its := [.int 0 vt0I4, .int 0 vt1I4]) (n := 4) (j := 0) vI4 rfl rfl (fun us hl => match us, hl with | [_, _, _, _], _ => ⟨_, rfl, rfl⟩)
  have UI4 : Su.FunS K l.prog mg "__init__" "TracedFailingKey.__init__" sTFI mI4 cAI4 ccI4 C4 _ := ⟨⟨_, _, _, _, _, _, _, _, _, rfl, lI4, cI4⟩, ⟨⟨_, _, _, _, _, lI4, rfl, rfl⟩, ⟨_, _, _, _, _, _, xI4, yI4, zI4⟩, ⟨_, _, _, qI4⟩, eI4, htop, hst, PySem.W.mg_none_of X G zsuper⟩⟩
  have bID : Binds K (PySem.W.ksFn "__init__" "DriftingKey.__init__" (defArgs sDI) (defBody sDI) (defScope sDI) .none kVID dcID pmID anID (.ref cAID) ctID ccID) ["self", "label", "codes"] [] := .all (fun us hl => match us, hl with | [_, _, _], _ => rfl)
  have UID : Su.FunS K l.prog mg "__init__" "DriftingKey.__init__" sDI mID cAID ccID CD _ := ⟨⟨_, _, _, _, _, _, _, _, _, rfl, lID, cID⟩, ⟨⟨_, _, _, _, _, lID, rfl, rfl⟩, ⟨_, _, _, _, _, _, xID, yID, zID⟩, ⟨_, _, _, qID⟩, eID, htop, hst, PySem.W.mg_none_of X G zsuper⟩⟩
  have bIL : Binds K (PySem.W.ksFn "__init__" "LopsidedKey.__init__" (defArgs sLI) (defBody sLI) (defScope sLI) .none kVIL dcIL pmIL anIL (.ref cAIL) ctIL ccIL) ["self", "label", "code", "answers"] [] := .all (fun us hl => match us, hl with | [_, _, _, _], _ => rfl)
  have UIL : Su.FunS K l.prog mg "__init__" "LopsidedKey.__init__" sLI mIL cAIL ccIL CL _ := ⟨⟨_, _, _, _, _, _, _, _, _, rfl, lIL, cIL⟩, ⟨⟨_, _, _, _, _, lIL, rfl, rfl⟩, ⟨_, _, _, _, _, _, xIL, yIL, zIL⟩, ⟨_, _, _, qIL⟩, eIL, htop, hst, PySem.W.mg_none_of X G zsuper⟩⟩
  have bIM := Sb.binds_d (fd := PySem.W.ksFn "__init__" "MeddlingKey.__init__" (defArgs sMI) (defBody sMI) (defScope sMI) (.ref TIM) kVIM dcIM pmIM anIM (.ref cAIM) ctIM ccIM) (ps := ["self", "label", "code", "table", "steps", "code_steps"]) (its := [.ref va0IM]) (n := 6) (j := 1) vIM rfl rfl (fun us hl => match us, hl with | [_, _, _, _, _, _], _ => ⟨_, rfl, rfl⟩)
  have pIM := Sb.binds_d (fd := PySem.W.ksFn "__init__" "MeddlingKey.__init__" (defArgs sMI) (defBody sMI) (defScope sMI) (.ref TIM) kVIM dcIM pmIM anIM (.ref cAIM) ctIM ccIM) (ps := ["self", "label", "code", "table", "steps", "code_steps"]) (its := [.ref va0IM]) (n := 5) (j := 0) vIM rfl rfl (fun us hl => match us, hl with | [_, _, _, _, _], _ => ⟨_, rfl, rfl⟩)
  have UIM : Su.FunS K l.prog mg "__init__" "MeddlingKey.__init__" sMI mIM cAIM ccIM CM _ := ⟨⟨_, _, _, _, _, _, _, _, _, rfl, lIM, cIM⟩, ⟨⟨_, _, _, _, _, lIM, rfl, rfl⟩, ⟨_, _, _, _, _, _, xIM, yIM, zIM⟩, ⟨_, _, _, qIM⟩, eIM, htop, hst, PySem.W.mg_none_of X G zsuper⟩⟩
  have A22 : Su.Above K C2 C2 "__init__" mI1 := ⟨s22, m22, t22, n22⟩
  have A33 : Su.Above K C3 C3 "__init__" mI1 := ⟨s33, m33, t33, n33⟩
  have A43 : Su.Above K C4 C3 "__init__" mI1 := ⟨s43, m43, t43, n43⟩
  have A42 : Su.Above K C4 C2 "__init__" mI3 := ⟨s42, m42, t42, n42⟩
  have A44 : Su.Above K C4 C4 "__init__" mI2 := ⟨s44, m44, t44, n44⟩
  have ADD : Su.Above K CD CD "__init__" mI1 := ⟨sDD, mDD, tDD, nDD⟩
  have ALL : Su.Above K CL CL "__init__" mI1 := ⟨sLL, mLL, tLL, nLL⟩
  have AMM : Su.Above K CM CM "__init__" mI1 := ⟨sMM, mMM, tMM, nMM⟩
  have e := hfa.symm.trans (PySem.W.mg_of X G aL)
  cases e
  have B : Bl mg := ⟨PySem.W.mg_none_of X G zisinstance, PySem.W.mg_none_of X G zint, PySem.W.mg_none_of X G zbool, PySem.W.mg_none_of X G zlist, PySem.W.mg_none_of X G zrange, PySem.W.mg_none_of X G zlen, PySem.W.mg_none_of X G zmin, PySem.W.mg_none_of X G zmax, PySem.W.mg_none_of X G zsorted, PySem.W.mg_none_of X G zenumerate, PySem.W.mg_none_of X G zrepr, PySem.W.mg_none_of X G ztuple, PySem.W.mg_none_of X G zdivmod⟩
  have B2 : Bk mg := ⟨PySem.W.mg_none_of X G zall, PySem.W.mg_none_of X G zord, PySem.W.mg_none_of X G zstr⟩
  have CkH : Ck mg := ⟨⟨_, PySem.W.mg_of X G gCODES⟩, ⟨_, PySem.W.mg_of X G gMAX_SIGNS⟩, ⟨_, PySem.W.mg_of X G gFIRST_SIGN⟩, ⟨_, PySem.W.mg_of X G gLAST_SIGN⟩, ⟨_, PySem.W.mg_of X G gPERCENT_SIGN⟩⟩
  obtain ⟨esW, nW, DW⟩ := He.dicW_ok dSI
  have WD : Wd K w mg SI esW nW := ⟨PySem.W.mg_of X G gSI, DW, List.forall_mem_cons.mpr ⟨.inl ⟨_, wput⟩, List.forall_mem_cons.mpr ⟨.inl ⟨_, wdrop⟩, List.forall_mem_cons.mpr ⟨.inl ⟨_, wclear⟩, List.forall_mem_cons.mpr ⟨.inl ⟨_, wcompact⟩, List.forall_mem_cons.mpr ⟨.inl ⟨_, wshrink⟩, List.forall_mem_cons.mpr ⟨.inl ⟨_, wreserve⟩, List.forall_mem_cons.mpr ⟨.inr ⟨wgrow, rfl⟩, List.forall_mem_cons.mpr ⟨.inr ⟨wtake, rfl⟩, fun _ z => nomatch z⟩⟩⟩⟩⟩⟩⟩⟩⟩
  have kcC1 : KCls K C1 := ⟨⟨pgC1, hdC1, poC1, saC1⟩, nC1label, nC1_code⟩
  have kcC2 : KCls K C2 := ⟨⟨pgC2, hdC2, poC2, saC2⟩, nC2label, nC2_code⟩
  have kcC3 : KCls K C3 := ⟨⟨pgC3, hdC3, poC3, saC3⟩, nC3label, nC3_code⟩
  have kcC4 : KCls K C4 := ⟨⟨pgC4, hdC4, poC4, saC4⟩, nC4label, nC4_code⟩
  have kcCD : KCls K CD := ⟨⟨pgCD, hdCD, poCD, saCD⟩, nCDlabel, nCD_code⟩
  have kcCL : KCls K CL := ⟨⟨pgCL, hdCL, poCL, saCL⟩, nCLlabel, nCL_code⟩
  have kcCM : KCls K CM := ⟨⟨pgCM, hdCM, poCM, saCM⟩, nCMlabel, nCM_code⟩
  have kfC3 : KFail K C3 := ⟨nC3_code_at, nC3_match_at, nC3_code_calls, nC3_match_calls⟩
  have kfC4 : KFail K C4 := ⟨nC4_code_at, nC4_match_at, nC4_code_calls, nC4_match_calls⟩
  have MkC1 : Mk K C1 mI1 := ⟨mkC1, aI1, iI1, kc_C1⟩
  have MkC2 : Mk K C2 mI2 := ⟨mkC2, aI2, iI2, kc_C2⟩
  have MkC3 : Mk K C3 mI3 := ⟨mkC3, aI3, iI3, kc_C3⟩
  have MkC4 : Mk K C4 mI4 := ⟨mkC4, aI4, iI4, kc_C4⟩
  have MkCD : Mk K CD mID := ⟨mkCD, aID, iID, kc_CD⟩
  have MkCL : Mk K CL mIL := ⟨mkCL, aIL, iIL, kc_CL⟩
  have MkCM : Mk K CM mIM := ⟨mkCM, aIM, iIM, kc_CM⟩
  have MkCTr : Mk K CTr mIT := ⟨mkCTr, aIT, iIT, kcCTr⟩
  refine ⟨PySem.W.fnOf "law" "law" (defArgs sLaw) (defBody sLaw) (defScope sLaw) .none kVL dcL pmL anL (.ref cAL) ctL, [(cAL, PL)], spLaw K PL, ?_, ?_, ?_, fun s v => .of_eq rfl, fun H a ns hl hH hS => ⟨a, ns, rfl, hS, hl, ?_, fun _ => rfl⟩, fun base hb hg hT => ?_⟩
  · exact List.forall_mem_cons.mpr ⟨tL, fun _ z => nomatch z⟩
  · exact List.forall_mem_cons.mpr ⟨nL, fun _ z => nomatch z⟩
  · exact List.forall_mem_cons.mpr ⟨PySem.W.codeHd_of_K X hL, fun _ z => nomatch z⟩
  · exact List.forall_mem_cons.mpr ⟨.nil (hH _ (List.mem_cons_self ..)), fun _ z => nomatch z⟩
  have x1 : XK l.prog w K mg base "BadKey" CK "reason" := ⟨PySem.W.mg_of X G gBadKey, wE1, jX1, ⟨mX1, _, aX1, iX1, bX1, Xo.ok_xinit FX1 scX1 rfl (by decide) (by decide)⟩⟩
  have x2 : XK l.prog w K mg base "BadCode" CC "reason" := ⟨PySem.W.mg_of X G gBadCode, wE2, jX2, ⟨mX2, _, aX2, iX2, bX2, Xo.ok_xinit FX2 scX2 rfl (by decide) (by decide)⟩⟩
  have x3 : XK l.prog w K mg base "BadStep" CS "index" := ⟨PySem.W.mg_of X G gBadStep, wE3, jX3, ⟨mX3, _, aX3, iX3, bX3, Xo.ok_xinit FX3 scX3 rfl (by decide) (by decide)⟩⟩
  have Bd : Bad K CK CC CS CT := ⟨bx1, bx2, bx3, eE1, eE2, eE3, wE3, jX3, bk1, bk2, bk3, bk4, bk5, bk6⟩
  have NN : Nms mg CK CC CS CT := ⟨PySem.W.mg_of X G gTableError, PySem.W.mg_of X G gBadKey, PySem.W.mg_of X G gBadCode, PySem.W.mg_of X G gBadStep⟩
  have gW := ok_whole (P := l.prog) (w := w) (base := base) dW B
  have gBt := ok_between dBt dW gW
  have gCo := ok_code dCo dBt gBt (PySem.W.mg_of X G gCODES)
  have gNc := ok_needCode dNc dCo gCo x2
  have gSg := ok_sign (P := l.prog) (w := w) (base := base) dSg CkH
  have gTx := ok_text (K := K) dTx B B2 CkH dSg gSg
  have gFi := ok_fits (P := l.prog) (w := w) (base := base) dFi B B2 WD
  have gNl := ok_nLabel dNl dTx gTx x1
  have gNf := ok_nFilled dNf B x2
  have gNs := ok_nSteps dNs B dFi gFi x3
  have K1 := ok_ki MI1 kcC1 dNl gNl dNc gNc
  have K2 := ok_ki MI1 kcC2 dNl gNl dNc gNc
  have K3 := ok_ki MI1 kcC3 dNl gNl dNc gNc
  have K4 := ok_ki MI1 kcC4 dNl gNl dNc gNc
  have KD := ok_ki MI1 kcCD dNl gNl dNc gNc
  have KL := ok_ki MI1 kcCL dNl gNl dNc gNc
  have KM := ok_ki MI1 kcCM dNl gNl dNc gNc
  have g2 := ok_ti (dvs := []) UI2 kcC2 nC2_trace A22 K2 bI1 .nil rfl hfsK (fun _ _ => by show 2 < 1000; decide)
  have g3 := ok_fi UI3 kcC3 kfC3 A33 K3 bI1
  have g43 := ok_fi UI3 kcC4 kfC4 A43 K4 bI1
  have g42 := ok_ti (dvs := [.int 0, .int 0]) UI2 kcC4 nC4_trace A42 g43 pI3 (.cons ⟨_, rfl⟩ (.cons ⟨_, rfl⟩ .nil)) rfl hfsF (fun _ _ => by show 6 < 1000; decide)
  have g4 := ok_tfi UI4 kcC4 kfC4 A44 g42 bI2
  have gD := ok_di UID kcCD nCD_codes nCD_turn ADD KD bI1 dNl gNl dNf gNf dNc gNc
  have gL := ok_li UIL kcCL nCL_answers nCL_turn ALL KL bI1 dNf gNf
  have gM := ok_mi UIM B kcCM nCM_table nCM_steps nCM_code_steps AMM KM bI1 dNs gNs
  have gT := ok_trI (P := l.prog) (w := w) (mg := mg) (base := base) MIT ⟨pgCTr, hdCTr, poCTr, saCTr⟩ nCTr_events
  have gMx := ok_mixed (P := l.prog) (w := w) (base := base) dMx
  have gDr := ok_draw (P := l.prog) (w := w) (base := base) dDr
  have gDg := ok_digit dDg B dMx gMx
  have gLa := ok_lab (K := K) dLa dDg gDg
  have gNu := ok_num (K := K) dNu dDg gDg
  have gGo := ok_good (P := l.prog) (w := w) (base := base) dGo B
  have gSt := ok_steps (K := K) dSt B dDg gDg
  have gFs := ok_first (P := l.prog) (w := w) (base := base) dFs
  have tb1 : TabB base mg cAL PL := hT _ (List.mem_cons_self ..)
  exact ok_law dL (PySem.W.mg_none_of X G zsum) B dTo NN Bd tb1 dSt gSt dDg gDg dFs gFs ⟨MkC1, PySem.W.mg_of X G gKey, bI1, K1⟩ ⟨MkC2, PySem.W.mg_of X G gTracedKey, bI2, g2⟩ ⟨MkC3, PySem.W.mg_of X G gFailingKey, bI3, g3⟩ ⟨MkC4, PySem.W.mg_of X G gTracedFailingKey, bI4, g4⟩ dGo gGo
    ⟨MkCM, PySem.W.mg_of X G gMeddlingKey, bIM, gM⟩ ⟨MkCL, PySem.W.mg_of X G gLopsidedKey, bIL, gL⟩ ⟨MkCD, PySem.W.mg_of X G gDriftingKey, bID, gD⟩ dDr gDr dLa gLa dNu gNu MkCTr (PySem.W.mg_of X G gTrace) bIT gT

theorem walk {l : PySem.W.OpenLaw} {q : Program} {loose : List Str} {XP : (Str → Option Value) → Heap → Prop} {YP : World → Heap → Prop} {d : DefRec} {K : Params → PySem.W.Frag} (hn : l.most = some 63) (hdf : d.params.defaults = [])
    (hY : ∀ (w : World) (h : Heap), YP w h → (K w.params).In h)
    (F : ∀ (w : World) (mg : Str → Option Value) (fa : Addr) (h : Heap), YP w h → (K w.params).In h → h.Ns mainGlobals mg → mg d.name = some (.ref fa) → Gd.LawAtG l w (K w.params) 13 63 "script" mg fa h) :
    PySem.W.WalkO q loose XP YP l.row.toRowW d [] (fun f vs => PySem.call f vs) := Gd.walk_ofG hn (by decide) hdf ⟨rfl, by decide, by decide⟩ hY F
end K03
open PySem PySem.W PyProof.Rows
set_option maxRecDepth 100000 in
set_option maxHeartbeats 0 in
theorem PySem.Challenge.cw_entryhall_k03_invalid_key_objects_holds : PySem.Challenge.rw_entryhall_k03_invalid_key_objects.Holds := by
  w_on; o_law; k_head; (case hw => w_witness2)
  k_fill
  refine K03.walk (l := PySem.Challenge.rw_entryhall_k03_invalid_key_objects) rfl rfl (fun w h Y => PySem.W.km_in_of Y) ?F
  case F =>
    intro w mg fa h Y KX G hmg
    have hT8 := PySem.W.km_tabs_of Y
    refine' K03.all_mk KX G hmg ?aW ?lW ?cW ?kW ?aBt ?lBt ?cBt ?kBt ?aCo ?lCo ?cCo ?kCo ?aNc ?lNc ?cNc ?kNc ?aSg ?lSg ?cSg ?kSg ?aTx ?lTx ?cTx ?kTx ?aFi ?lFi ?cFi ?kFi ?aNl ?lNl ?cNl ?kNl ?aNf ?lNf ?cNf ?kNf ?aNs ?lNs ?cNs ?kNs ?aMx ?lMx ?cMx ?kMx ?aDr ?lDr ?cDr ?kDr ?aDg ?lDg ?cDg ?kDg ?aLa ?lLa ?cLa ?kLa ?aNu ?lNu ?cNu ?kNu ?aGo ?lGo ?cGo ?kGo ?aSt ?lSt ?cSt ?kSt ?aFs ?lFs ?cFs ?kFs ?aTo ?lTo ?cTo ?kTo ?aL ?lL ?cL ?kL ?xL ?yL ?hL ?nL ?tL ?gTableError ?gBadKey ?u1E1 ?u2E1 ?u3E1 ?u4E1 ?u5E1 ?u6E1 ?u7E1 ?u8E1 ?u9E1 ?v1E1 ?v2E1 ?v3E1 ?v4E1 ?aX1 ?iX1 ?jX1 ?lX1 ?cX1 ?kX1 ?gBadCode ?u1E2 ?u2E2 ?u3E2 ?u4E2 ?u5E2 ?u6E2 ?u7E2 ?u8E2 ?u9E2 ?v1E2 ?v2E2 ?v3E2 ?v4E2 ?aX2 ?iX2 ?jX2 ?lX2 ?cX2 ?kX2 ?gBadStep ?u1E3 ?u2E3 ?u3E3 ?u4E3 ?u5E3 ?u6E3 ?u7E3 ?u8E3 ?u9E3 ?v1E3 ?v2E3 ?v3E3 ?v4E3 ?aX3 ?iX3 ?jX3 ?lX3 ?cX3 ?kX3 ?bx1 ?bx2 ?bx3 ?bk1 ?bk2 ?bk3 ?bk4 ?bk5 ?bk6 ?gKey ?pgC1 ?hdC1 ?poC1 ?saC1 ?mkC1 ?kc_C1 ?nC1label ?nC1_code ?gTracedKey ?pgC2 ?hdC2 ?poC2 ?saC2 ?mkC2 ?kc_C2 ?nC2label ?nC2_code ?nC2_trace ?gFailingKey ?pgC3 ?hdC3 ?poC3 ?saC3 ?mkC3 ?kc_C3 ?nC3label ?nC3_code ?nC3_code_at ?nC3_match_at ?nC3_code_calls ?nC3_match_calls ?gTracedFailingKey ?pgC4 ?hdC4 ?poC4 ?saC4 ?mkC4 ?kc_C4 ?nC4label ?nC4_code ?nC4_trace ?nC4_code_at ?nC4_match_at ?nC4_code_calls ?nC4_match_calls ?gDriftingKey ?pgCD ?hdCD ?poCD ?saCD ?mkCD ?kc_CD ?nCDlabel ?nCD_code ?nCD_codes ?nCD_turn ?gLopsidedKey ?pgCL ?hdCL ?poCL ?saCL ?mkCL ?kc_CL ?nCLlabel ?nCL_code ?nCL_answers ?nCL_turn ?gMeddlingKey ?pgCM ?hdCM ?poCM ?saCM ?mkCM ?kc_CM ?nCMlabel ?nCM_code ?nCM_table ?nCM_steps ?nCM_code_steps ?gTrace ?pgCTr ?hdCTr ?poCTr ?saCTr ?mkCTr ?kcCTr ?nCTr_events ?htop ?hst ?zisinstance ?zint ?zbool ?zlist ?zrange ?zlen ?zmin ?zmax ?zsorted ?zenumerate ?zrepr ?ztuple ?zdivmod ?zall ?zord ?zstr ?zsum ?zsuper ?aI1 ?iI1 ?lI1 ?cI1 ?kI1 ?aIT ?iIT ?lIT ?cIT ?kIT ?aI2 ?iI2 ?lI2 ?cI2 ?xI2 ?yI2 ?zI2 ?qI2 ?eI2 ?aI3 ?iI3 ?lI3 ?cI3 ?xI3 ?yI3 ?zI3 ?qI3 ?eI3 ?vI3 ?aI4 ?iI4 ?lI4 ?cI4 ?xI4 ?yI4 ?zI4 ?qI4 ?eI4 ?vI4 ?aID ?iID ?lID ?cID ?xID ?yID ?zID ?qID ?eID ?aIL ?iIL ?lIL ?cIL ?xIL ?yIL ?zIL ?qIL ?eIL ?aIM ?iIM ?lIM ?cIM ?xIM ?yIM ?zIM ?qIM ?eIM ?vIM ?s22 ?m22 ?t22 ?n22 ?s33 ?m33 ?t33 ?n33 ?s43 ?m43 ?t43 ?n43 ?s42 ?m42 ?t42 ?n42 ?s44 ?m44 ?t44 ?n44 ?sDD ?mDD ?tDD ?nDD ?sLL ?mLL ?tLL ?nLL ?sMM ?mMM ?tMM ?nMM ?gCODES ?gMAX_SIGNS ?gFIRST_SIGN ?gLAST_SIGN ?gPERCENT_SIGN ?gSI ?dSI ?wput ?wdrop ?wclear ?wcompact ?wshrink ?wreserve ?wgrow ?wtake
    (case aW => k_is)
    (case lW => k_is)
    (case cW => k_is)
    (case kW => k_is)
    (case aBt => k_is)
    (case lBt => k_is)
    (case cBt => k_is)
    (case kBt => k_is)
    (case aCo => k_is)
    (case lCo => k_is)
    (case cCo => k_is)
    (case kCo => k_is)
    (case aNc => k_is)
    (case lNc => k_is)
    (case cNc => k_is)
    (case kNc => k_is)
    (case aSg => k_is)
    (case lSg => k_is)
    (case cSg => k_is)
    (case kSg => k_is)
    (case aTx => k_is)
    (case lTx => k_is)
    (case cTx => k_is)
    (case kTx => k_is)
    (case aFi => k_is)
    (case lFi => k_is)
    (case cFi => k_is)
    (case kFi => k_is)
    (case aNl => k_is)
    (case lNl => k_is)
    (case cNl => k_is)
    (case kNl => k_is)
    (case aNf => k_is)
    (case lNf => k_is)
    (case cNf => k_is)
    (case kNf => k_is)
    (case aNs => k_is)
    (case lNs => k_is)
    (case cNs => k_is)
    (case kNs => k_is)
    (case aMx => k_is)
    (case lMx => k_is)
    (case cMx => k_is)
    (case kMx => k_is)
    (case aDr => k_is)
    (case lDr => k_is)
    (case cDr => k_is)
    (case kDr => k_is)
    (case aDg => k_is)
    (case lDg => k_is)
    (case cDg => k_is)
    (case kDg => k_is)
    (case aLa => k_is)
    (case lLa => k_is)
    (case cLa => k_is)
    (case kLa => k_is)
    (case aNu => k_is)
    (case lNu => k_is)
    (case cNu => k_is)
    (case kNu => k_is)
    (case aGo => k_is)
    (case lGo => k_is)
    (case cGo => k_is)
    (case kGo => k_is)
    (case aSt => k_is)
    (case lSt => k_is)
    (case cSt => k_is)
    (case kSt => k_is)
    (case aFs => k_is)
    (case lFs => k_is)
    (case cFs => k_is)
    (case kFs => k_is)
    (case aTo => k_is)
    (case lTo => k_is)
    (case cTo => k_is)
    (case kTo => k_is)
    (case aL => k_is)
    (case lL => k_is)
    (case cL => k_is)
    (case kL => k_is)
    (case xL => k_is)
    (case yL => exact rfl)
    (case hL => kernel_rfl)
    (case nL => kernel_rfl)
    (case tL => exact hT8 _ (by simp))
    (case gTableError => k_is)
    (case gBadKey => k_is)
    (case u1E1 => kx_is)
    (case u2E1 => kx_is)
    (case u3E1 => k_is)
    (case u4E1 => k_is)
    (case u5E1 => k_is)
    (case u6E1 => k_is)
    (case u7E1 => k_is)
    (case u8E1 => k_is)
    (case u9E1 => k_is)
    (case v1E1 => k_is)
    (case v2E1 => k_is)
    (case v3E1 => k_is)
    (case v4E1 => k_is)
    (case aX1 => k_is)
    (case iX1 => k_is)
    (case jX1 => k_is)
    (case lX1 => k_is)
    (case cX1 => k_is)
    (case kX1 => k_is)
    (case gBadCode => k_is)
    (case u1E2 => kx_is)
    (case u2E2 => kx_is)
    (case u3E2 => k_is)
    (case u4E2 => k_is)
    (case u5E2 => k_is)
    (case u6E2 => k_is)
    (case u7E2 => k_is)
    (case u8E2 => k_is)
    (case u9E2 => k_is)
    (case v1E2 => k_is)
    (case v2E2 => k_is)
    (case v3E2 => k_is)
    (case v4E2 => k_is)
    (case aX2 => k_is)
    (case iX2 => k_is)
    (case jX2 => k_is)
    (case lX2 => k_is)
    (case cX2 => k_is)
    (case kX2 => k_is)
    (case gBadStep => k_is)
    (case u1E3 => kx_is)
    (case u2E3 => kx_is)
    (case u3E3 => k_is)
    (case u4E3 => k_is)
    (case u5E3 => k_is)
    (case u6E3 => k_is)
    (case u7E3 => k_is)
    (case u8E3 => k_is)
    (case u9E3 => k_is)
    (case v1E3 => k_is)
    (case v2E3 => k_is)
    (case v3E3 => k_is)
    (case v4E3 => k_is)
    (case aX3 => k_is)
    (case iX3 => k_is)
    (case jX3 => k_is)
    (case lX3 => k_is)
    (case cX3 => k_is)
    (case kX3 => k_is)
    (case bx1 => kernel_rfl)
    (case bx2 => kernel_rfl)
    (case bx3 => kernel_rfl)
    (case bk1 => kit_is)
    (case bk2 => kit_is)
    (case bk3 => kit_is)
    (case bk4 => kit_is)
    (case bk5 => kit_is)
    (case bk6 => kit_is)
    (case gKey => k_is)
    (case pgC1 => k_is)
    (case hdC1 => k_is)
    (case poC1 => k_is)
    (case saC1 => k_is)
    (case mkC1 => k_is)
    (case kc_C1 => k_is)
    (case nC1label => k_is)
    (case nC1_code => k_is)
    (case gTracedKey => k_is)
    (case pgC2 => k_is)
    (case hdC2 => k_is)
    (case poC2 => k_is)
    (case saC2 => k_is)
    (case mkC2 => k_is)
    (case kc_C2 => k_is)
    (case nC2label => k_is)
    (case nC2_code => k_is)
    (case nC2_trace => k_is)
    (case gFailingKey => k_is)
    (case pgC3 => k_is)
    (case hdC3 => k_is)
    (case poC3 => k_is)
    (case saC3 => k_is)
    (case mkC3 => k_is)
    (case kc_C3 => k_is)
    (case nC3label => k_is)
    (case nC3_code => k_is)
    (case nC3_code_at => k_is)
    (case nC3_match_at => k_is)
    (case nC3_code_calls => k_is)
    (case nC3_match_calls => k_is)
    (case gTracedFailingKey => k_is)
    (case pgC4 => k_is)
    (case hdC4 => k_is)
    (case poC4 => k_is)
    (case saC4 => k_is)
    (case mkC4 => k_is)
    (case kc_C4 => k_is)
    (case nC4label => k_is)
    (case nC4_code => k_is)
    (case nC4_trace => k_is)
    (case nC4_code_at => k_is)
    (case nC4_match_at => k_is)
    (case nC4_code_calls => k_is)
    (case nC4_match_calls => k_is)
    (case gDriftingKey => k_is)
    (case pgCD => k_is)
    (case hdCD => k_is)
    (case poCD => k_is)
    (case saCD => k_is)
    (case mkCD => k_is)
    (case kc_CD => k_is)
    (case nCDlabel => k_is)
    (case nCD_code => k_is)
    (case nCD_codes => k_is)
    (case nCD_turn => k_is)
    (case gLopsidedKey => k_is)
    (case pgCL => k_is)
    (case hdCL => k_is)
    (case poCL => k_is)
    (case saCL => k_is)
    (case mkCL => k_is)
    (case kc_CL => k_is)
    (case nCLlabel => k_is)
    (case nCL_code => k_is)
    (case nCL_answers => k_is)
    (case nCL_turn => k_is)
    (case gMeddlingKey => k_is)
    (case pgCM => k_is)
    (case hdCM => k_is)
    (case poCM => k_is)
    (case saCM => k_is)
    (case mkCM => k_is)
    (case kc_CM => k_is)
    (case nCMlabel => k_is)
    (case nCM_code => k_is)
    (case nCM_table => k_is)
    (case nCM_steps => k_is)
    (case nCM_code_steps => k_is)
    (case gTrace => k_is)
    (case pgCTr => k_is)
    (case hdCTr => k_is)
    (case poCTr => k_is)
    (case saCTr => k_is)
    (case mkCTr => k_is)
    (case kcCTr => k_is)
    (case nCTr_events => k_is)
    (case htop => kernel_rfl)
    (case hst => k_is)
    (case zisinstance => k_is)
    (case zint => k_is)
    (case zbool => k_is)
    (case zlist => k_is)
    (case zrange => k_is)
    (case zlen => k_is)
    (case zmin => k_is)
    (case zmax => k_is)
    (case zsorted => k_is)
    (case zenumerate => k_is)
    (case zrepr => k_is)
    (case ztuple => k_is)
    (case zdivmod => k_is)
    (case zall => k_is)
    (case zord => k_is)
    (case zstr => k_is)
    (case zsum => k_is)
    (case zsuper => k_is)
    (case aI1 => k_is)
    (case iI1 => k_is)
    (case lI1 => k_is)
    (case cI1 => k_is)
    (case kI1 => k_is)
    (case aIT => k_is)
    (case iIT => k_is)
    (case lIT => k_is)
    (case cIT => k_is)
    (case kIT => k_is)
    (case aI2 => k_is)
    (case iI2 => k_is)
    (case lI2 => k_is)
    (case cI2 => k_is)
    (case xI2 => k_is)
    (case yI2 => exact rfl)
    (case zI2 => kernel_rfl)
    (case qI2 => k_is)
    (case eI2 => kernel_rfl)
    (case aI3 => k_is)
    (case iI3 => k_is)
    (case lI3 => k_is)
    (case cI3 => k_is)
    (case xI3 => k_is)
    (case yI3 => exact rfl)
    (case zI3 => kernel_rfl)
    (case qI3 => k_is)
    (case eI3 => kernel_rfl)
    (case vI3 => k_is)
    (case aI4 => k_is)
    (case iI4 => k_is)
    (case lI4 => k_is)
    (case cI4 => k_is)
    (case xI4 => k_is)
    (case yI4 => exact rfl)
    (case zI4 => kernel_rfl)
    (case qI4 => k_is)
    (case eI4 => kernel_rfl)
    (case vI4 => k_is)
    (case aID => k_is)
    (case iID => k_is)
    (case lID => k_is)
    (case cID => k_is)
    (case xID => k_is)
    (case yID => exact rfl)
    (case zID => kernel_rfl)
    (case qID => k_is)
    (case eID => kernel_rfl)
    (case aIL => k_is)
    (case iIL => k_is)
    (case lIL => k_is)
    (case cIL => k_is)
    (case xIL => k_is)
    (case yIL => exact rfl)
    (case zIL => kernel_rfl)
    (case qIL => k_is)
    (case eIL => kernel_rfl)
    (case aIM => k_is)
    (case iIM => k_is)
    (case lIM => k_is)
    (case cIM => k_is)
    (case xIM => k_is)
    (case yIM => exact rfl)
    (case zIM => kernel_rfl)
    (case qIM => k_is)
    (case eIM => kernel_rfl)
    (case vIM => k_is)
    (case s22 => ks_is)
    (case m22 => k_is)
    (case t22 => k_is)
    (case n22 => k_is)
    (case s33 => ks_is)
    (case m33 => k_is)
    (case t33 => k_is)
    (case n33 => k_is)
    (case s43 => ks_is)
    (case m43 => k_is)
    (case t43 => k_is)
    (case n43 => k_is)
    (case s42 => ks_is)
    (case m42 => k_is)
    (case t42 => k_is)
    (case n42 => k_is)
    (case s44 => ks_is)
    (case m44 => k_is)
    (case t44 => k_is)
    (case n44 => k_is)
    (case sDD => ks_is)
    (case mDD => k_is)
    (case tDD => k_is)
    (case nDD => k_is)
    (case sLL => ks_is)
    (case mLL => k_is)
    (case tLL => k_is)
    (case nLL => k_is)
    (case sMM => ks_is)
    (case mMM => k_is)
    (case tMM => k_is)
    (case nMM => k_is)
    (case gCODES => k_is)
    (case gMAX_SIGNS => k_is)
    (case gFIRST_SIGN => k_is)
    (case gLAST_SIGN => k_is)
    (case gPERCENT_SIGN => k_is)
    (case gSI => k_is)
    (case dSI => kernel_rfl)
    (case wput => k_is)
    (case wdrop => k_is)
    (case wclear => k_is)
    (case wcompact => k_is)
    (case wshrink => k_is)
    (case wreserve => k_is)
    (case wgrow => k_is)
    (case wtake => k_is)
#print axioms PySem.Challenge.cw_entryhall_k03_invalid_key_objects_holds
