import PyProof.Rows.All
import Wide.All
import OpenK.AllK
import Wide.FinOn
import PyProof.GenQ
import HandS.ForMost
import HandS.GenList
import HandS.ExcInit
import HandS.ExcIs
import HandS.ExcField
import HandS.Property
import KE.KExcInit
import HandS.IsInst
import HandS.Lambda
import KE.KDflt
import HandS.Deep
import HandS.SetFor
import HandS.EndTab
import PyProof.ReprRoads
import HandS.Style
import HandS.Flow
import HandS.Wide
import HandS.Small
import HandS.More
import HandS.Codes
import HandS.CallLocal
import HandS.ListEq
import HandS.ClsMeth
import HandS.Comp
import HandS.WordsExc
import HandS.MakeKwOnly
import KE.KIntText
import PyProof.Rows.StrBin
import KE.KNestM
import KE.KExcLine
import KE.RegKIsAll
import PySem.Challenge.RW_entryhall_k16_slot_calls_with_bad_argume
set_option Elab.async false
set_option linter.all false
set_option maxRecDepth 100000
set_option maxHeartbeats 1000000
/-! Fk: a run that wakes none of the generators that slept when it began leaves them as they were. Those that sleep are replaced by ones that look alike and cannot be woken;
a run over the replaced ones is a run over the real ones. -/
namespace Fk
open PySem
open Sem (wp)

/-- looks alike, cannot be woken -/
def fk : GenState → GenState
  | .suspended _ l c p fs cl => .suspended (fun _ => .unsupported "") l c p fs cl
  | x => x
theorem fk_seen (x : GenState) : (fk x).seen = x.seen := by cases x <;> rfl
theorem fk_bare (x : GenState) : (fk x).bare = x.bare := by cases x <;> rfl
def isSusp : GenState → Bool
  | .suspended .. => true
  | _ => false
def plainG : GenState → Prop
  | .suspended _ _ _ _ fs _ => splitAtGen fs = none
  | _ => True
def plainE : End → Prop
  | .susp _ _ _ _ _ _ fs => splitAtGen fs = none
  | .ret _ => True
theorem plainG_end {e : End} (h : plainE e) : plainG e.genState := by cases e <;> first | exact h | trivial
/-- F: which of them are replaced, by their places: what they are in truth. a: the replaced ones; b: the real ones -/
structure Rel (F : Nat → Option GenState) (a b : Array GenState) : Prop where
  size : b.size = a.size
  fake : ∀ (i : Nat) x, F i = some x → isSusp x = true ∧ a[i]? = some (fk x) ∧ b[i]? = some x
  same : ∀ (i : Nat), F i = none → b[i]? = a[i]?
  plain : ∀ (i : Nat) x, F i = none → a[i]? = some x → plainG x
variable {F : Nat → Option GenState} {a b : Array GenState}
theorem Rel.push (h : Rel F a b) (c : Code) : Rel F (a.push (.fresh c)) (b.push (.fresh c)) := by
  refine ⟨by simp [h.size], fun i x e => ?_, fun i e => ?_, fun i x e hx => ?_⟩
  · obtain ⟨q, k, l⟩ := h.fake i x e
    have l1 : i < a.size := (Array.getElem?_eq_some_iff.mp k).1
    have l2 : i < b.size := (Array.getElem?_eq_some_iff.mp l).1
    exact ⟨q, by rw [Array.getElem?_push, if_neg (by omega)]; exact k, by rw [Array.getElem?_push, if_neg (by omega)]; exact l⟩
  · rw [Array.getElem?_push, Array.getElem?_push, h.size, h.same i e]
  · rw [Array.getElem?_push] at hx
    split at hx
    · cases hx; trivial
    · exact h.plain i x e hx
theorem Rel.set (h : Rel F a b) {g : Nat} {x : GenState} (hF : F g = none) (hx : plainG x) : Rel F (a.setIfInBounds g x) (b.setIfInBounds g x) := by
  refine ⟨by simp [h.size], fun i y e => ?_, fun i e => ?_, fun i y e hy => ?_⟩
  · obtain ⟨q, k, l⟩ := h.fake i y e
    have ne : g ≠ i := fun z => by rw [z, e] at hF; cases hF
    exact ⟨q, by rw [Array.getElem?_setIfInBounds_ne ne]; exact k, by rw [Array.getElem?_setIfInBounds_ne ne]; exact l⟩
  · rw [Array.getElem?_setIfInBounds, Array.getElem?_setIfInBounds, h.size, h.same i e]
  · rw [Array.getElem?_setIfInBounds] at hy
    split at hy
    · split at hy
      · cases hy; exact hx
      · cases hy
    · exact h.plain i y e hy
theorem plain_app {a b : List Frame} (ha : splitAtGen a = none) (hb : splitAtGen b = none) : splitAtGen (a ++ b) = none := by
  induction a with
  | nil => exact hb
  | cons f t ih =>
    cases f with
    | ret k h g l c p kp =>
      have e : (splitAtGen t).map (fun x => (Frame.ret k h g l c p kp :: x.1, x.2.1, x.2.2)) = none := ha
      have e' : splitAtGen t = none := by
        cases q : splitAtGen t with
        | none => rfl
        | some z => rw [q] at e; cases e
      show (splitAtGen (t ++ b)).map (fun x => (Frame.ret k h g l c p kp :: x.1, x.2.1, x.2.2)) = none
      rw [ih e']; rfl
    | gen g k l c p => exact absurd (show some _ = none from ha) (fun z => nomatch z)
theorem plain_tail {k h g l c p kp} {fs : List Frame} (e : splitAtGen (.ret k h g l c p kp :: fs) = none) : splitAtGen fs = none := by
  have e : (splitAtGen fs).map (fun x => (Frame.ret k h g l c p kp :: x.1, x.2.1, x.2.2)) = none := e
  cases q : splitAtGen fs with
  | none => rfl
  | some z => rw [q] at e; cases e
variable {M : Model}
theorem no_unsup {Γ : Ctx} {p : Pos} {w : String} {fs : List Frame} {s s' : Shared} {e : End} (h : Runs M Γ p (.unsupported w) fs s e s') : False := by
  generalize ht : (Sem.unsupported w : Sem PySem.Fin) = t at h
  induction h <;> first | (cases ht; done) | (rename_i ih _; exact ih ht) | (rename_i ih _ _; exact ih ht) | (rename_i ih; exact ih ht)
/-- with other generators -/
abbrev gw (s : Shared) (G : Array GenState) : Shared := { s with gens := G }
/-- the run over the real ones -/
theorem runs_fk {Γ : Ctx} {p : Pos} {t : Sem PySem.Fin} {fs : List Frame} {s s' : Shared} {e : End} (h : Runs M Γ p t fs s e s') : splitAtGen fs = none → ∀ G, Rel F s.gens G →
    ∃ G', Runs M Γ p t fs (gw s G) e (gw s' G') ∧ Rel F s'.gens G' ∧ plainE e := by
  induction h with
  | done => intro _ G R; exact ⟨G, .done, R, trivial⟩
  | raise => intro _ G R; exact ⟨G, .raise, R, trivial⟩
  | again hq _ ih => intro hf G R; obtain ⟨r', h1, h2, h3⟩ := ih hf G R; exact ⟨r', .again hq h1, h2, h3⟩
  | rule _ ih => intro hf G R; obtain ⟨r', h1, h2, h3⟩ := ih hf G R; exact ⟨r', .rule h1, h2, h3⟩
  | «at» _ ih => intro hf G R; obtain ⟨r', h1, h2, h3⟩ := ih hf G R; exact ⟨r', .at h1, h2, h3⟩
  | load ho _ ih => intro hf G R; obtain ⟨r', h1, h2, h3⟩ := ih hf G R; exact ⟨r', .load ho h1, h2, h3⟩
  | update ha _ ih => intro hf G R; obtain ⟨r', h1, h2, h3⟩ := ih hf G R; exact ⟨r', .update ha h1, h2, h3⟩
  | loadIfAlive _ ih => intro hf G R; obtain ⟨r', h1, h2, h3⟩ := ih hf G R; exact ⟨r', .loadIfAlive h1, h2, h3⟩
  | point _ ih => intro hf G R; obtain ⟨r', h1, h2, h3⟩ := ih hf G R; exact ⟨r', .point h1, h2, h3⟩
  | alloc _ ih => intro hf G R; obtain ⟨r', h1, h2, h3⟩ := ih hf G R; exact ⟨r', .alloc h1, h2, h3⟩
  | fresh _ ih => intro hf G R; obtain ⟨r', h1, h2, h3⟩ := ih hf G R; exact ⟨r', .fresh h1, h2, h3⟩
  | ask _ ih => intro hf G R; obtain ⟨r', h1, h2, h3⟩ := ih hf G R; exact ⟨r', .ask h1, h2, h3⟩
  | choose hn _ ih => intro hf G R; obtain ⟨r', h1, h2, h3⟩ := ih hf G R; exact ⟨r', .choose hn h1, h2, h3⟩
  | os _ ih => intro hf G R; obtain ⟨r', h1, h2, h3⟩ := ih hf G R; exact ⟨r', .os h1, h2, h3⟩
  | handled _ ih => intro hf G R; obtain ⟨r', h1, h2, h3⟩ := ih hf G R; exact ⟨r', .handled h1, h2, h3⟩
  | @genState g st Γ p k s e s' hg hr ih =>
    intro hf G R
    obtain ⟨r', h1, h2, h3⟩ := ih hf G R
    cases q : F g with
    | none => exact ⟨r', .genState (by rw [← R.same g q] at hg; exact hg) h1, h2, h3⟩
    | some x =>
      obtain ⟨_, k1, k2⟩ := R.fake g x q
      rw [k1] at hg
      cases hg
      rw [fk_seen] at h1
      exact ⟨r', .genState k2 h1, h2, h3⟩
  | stack _ ih => intro hf G R; obtain ⟨r', h1, h2, h3⟩ := ih hf G R; exact ⟨r', .stack h1, h2, h3⟩
  | thread _ ih => intro hf G R; obtain ⟨r', h1, h2, h3⟩ := ih hf G R; exact ⟨r', .thread h1, h2, h3⟩
  | @newGen Γ p k s e s' c hr ih =>
    intro hf G R
    obtain ⟨r', h1, h2, h3⟩ := ih hf (G.push (.fresh c)) (R.push c)
    refine ⟨r', .newGen ?_, h2, h3⟩
    have := R.size
    rw [show (gw s G).gens.size = s.gens.size from R.size]
    exact h1
  | call _ _ ih1 ih2 =>
    intro hf G R
    obtain ⟨r1, h1, h2, _⟩ := ih1 rfl G R
    obtain ⟨r2, k1, k2, k3⟩ := ih2 hf r1 h2
    exact ⟨r2, .call h1 k1, k2, k3⟩
  | callSusp _ ih =>
    intro hf G R
    obtain ⟨r1, h1, h2, h3⟩ := ih rfl G R
    exact ⟨r1, .callSusp h1, h2, plain_app h3 rfl⟩
  | yield => intro hf G R; exact ⟨G, .yield, R, rfl⟩
  | @resumeFresh Γ p g l k s c e₁ s₁ e s' hg _ hq _ ih1 ih2 =>
    intro hf G R
    cases q : F g with
    | some x =>
      obtain ⟨z, k1, k2⟩ := R.fake g x q
      rw [k1] at hg
      cases x <;> first | (cases z; done) | (cases hg; done)
    | none =>
      obtain ⟨r1, h1, h2, h3⟩ := ih1 rfl (G.setIfInBounds g .running) (R.set q trivial)
      obtain ⟨r2, j1, j2, j3⟩ := ih2 hf (r1.setIfInBounds g e₁.genState) (h2.set q (plainG_end h3))
      exact ⟨r2, .resumeFresh (by rw [← R.same g q] at hg; exact hg) h1 hq j1, j2, j3⟩
  | @resumeSuspended Γ p g rr l k s k₀ l₀ c₀ p₀ fs cl e₁ s₁ e s' hg hr hq _ ih1 ih2 =>
    intro hf G R
    cases q : F g with
    | some x =>
      obtain ⟨z, k1, k2⟩ := R.fake g x q
      rw [k1] at hg
      cases x with
      | suspended a1 a2 a3 a4 a5 a6 =>
        cases hg
        exact (no_unsup hr).elim
      | _ => cases z
    | none =>
      have pl : splitAtGen fs = none := R.plain g _ q hg
      obtain ⟨r1, h1, h2, h3⟩ := ih1 pl (G.setIfInBounds g .running) (R.set q trivial)
      obtain ⟨r2, j1, j2, j3⟩ := ih2 hf (r1.setIfInBounds g e₁.genState) (h2.set q (plainG_end h3))
      exact ⟨r2, .resumeSuspended (by rw [← R.same g q] at hg; exact hg) h1 hq j1, j2, j3⟩
  | @resumeJustStarted g v Γ p k s e s' l c hg hv _ ih =>
    intro hf G R
    cases q : F g with
    | some x =>
      obtain ⟨z, k1, k2⟩ := R.fake g x q
      rw [k1] at hg
      cases x <;> first | (cases z; done) | (cases hg; done)
    | none =>
      obtain ⟨r2, j1, j2, j3⟩ := ih hf G R
      exact ⟨r2, .resumeJustStarted (by rw [← R.same g q] at hg; exact hg) hv j1, j2, j3⟩
  | @resumeThrowFresh g Γ p k e s' x l s c hg _ ih =>
    intro hf G R
    cases q : F g with
    | some x =>
      obtain ⟨z, k1, k2⟩ := R.fake g x q
      rw [k1] at hg
      cases x <;> first | (cases z; done) | (cases hg; done)
    | none =>
      obtain ⟨r2, j1, j2, j3⟩ := ih hf (G.setIfInBounds g .finished) (R.set q trivial)
      exact ⟨r2, .resumeThrowFresh (by rw [← R.same g q] at hg; exact hg) j1, j2, j3⟩
  | @resumeRunning g Γ p k s e s' r l hg _ ih =>
    intro hf G R
    cases q : F g with
    | some x =>
      obtain ⟨z, k1, k2⟩ := R.fake g x q
      rw [k1] at hg
      cases x <;> first | (cases z; done) | (cases hg; done)
    | none =>
      obtain ⟨r2, j1, j2, j3⟩ := ih hf G R
      exact ⟨r2, .resumeRunning (by rw [← R.same g q] at hg; exact hg) j1, j2, j3⟩
  | @resumeFinished g Γ p k s e s' r l hg _ ih =>
    intro hf G R
    cases q : F g with
    | some x =>
      obtain ⟨z, k1, k2⟩ := R.fake g x q
      rw [k1] at hg
      cases x <;> first | (cases z; done) | (cases hg; done)
    | none =>
      obtain ⟨r2, j1, j2, j3⟩ := ih hf G R
      exact ⟨r2, .resumeFinished (by rw [← R.same g q] at hg; exact hg) j1, j2, j3⟩
  | segRet _ _ ih1 ih2 =>
    intro hf G R
    obtain ⟨r1, h1, h2, _⟩ := ih1 rfl G R
    obtain ⟨r2, j1, j2, j3⟩ := ih2 (plain_tail hf) r1 h2
    exact ⟨r2, .segRet h1 j1, j2, j3⟩
  | segGen _ _ _ _ => intro hf; exact absurd (show some _ = none from hf) (fun z => nomatch z)
  | segSuspOut hs _ ih =>
    intro hf G R
    obtain ⟨r1, h1, h2, h3⟩ := ih rfl G R
    exact ⟨r1, .segSuspOut hs h1, h2, plain_app h3 hs⟩
  | segSuspGen hs _ _ _ _ _ => intro hf; rw [hf] at hs; cases hs

theorem returns_fk {Γ : Ctx} {p : Pos} {s s' : Shared} {r : Result} (h : Returns M Γ p s r s') {G : Array GenState} (R : Rel F s.gens G) : ∃ G', Returns M Γ p (gw s G) r (gw s' G') ∧ Rel F s'.gens G' := by
  obtain ⟨G', h1, h2, _⟩ := runs_fk h rfl G R
  exact ⟨G', h1, h2⟩
theorem wakes_fk {Γ : Ctx} {p : Pos} {g : Nat} {r : Resume} {s s' : Shared} {res : GenResult} (h : Wakes M Γ p g r s res s') {G : Array GenState} (R : Rel F s.gens G) : ∃ G', Wakes M Γ p g r (gw s G) res (gw s' G') ∧ Rel F s'.gens G' := by
  cases q : F g with
  | some x =>
    obtain ⟨z, k1, k2⟩ := R.fake g x q
    unfold Wakes at h
    rw [k1] at h
    cases x with
    | suspended a1 a2 a3 a4 a5 a6 =>
      obtain ⟨e₁, s₁, hr, _⟩ := h
      exact (no_unsup hr).elim
    | _ => cases z
  | none =>
    have hs := R.same g q
    unfold Wakes at h ⊢
    rw [show (gw s G).gens[g]? = s.gens[g]? from hs]
    cases hg : s.gens[g]? with
    | none => rw [hg] at h; exact h.elim
    | some gs =>
      rw [hg] at h
      cases gs with
      | fresh c =>
        cases r with
        | send v =>
          by_cases hv : v = Value.none
          · subst hv
            obtain ⟨e₁, s₁, hr, hq, hres, hs'⟩ := h
            obtain ⟨G1, h1, h2, h3⟩ := runs_fk hr rfl (G.setIfInBounds g .running) (R.set q trivial)
            subst hs'
            exact ⟨G1.setIfInBounds g e₁.genState, ⟨e₁, _, h1, hq, hres, rfl⟩, h2.set q (plainG_end h3)⟩
          · cases v <;> first | exact absurd rfl hv | (obtain ⟨h1, h2⟩ := h; subst h2; exact ⟨G, ⟨h1, rfl⟩, R⟩)
        | throw x =>
          obtain ⟨h1, h2⟩ := h
          subst h2
          exact ⟨G.setIfInBounds g .finished, ⟨h1, rfl⟩, R.set q trivial⟩
      | suspended k₀ l₀ c₀ p₀ fs cl =>
        obtain ⟨e₁, s₁, hr, hq, hres, hs'⟩ := h
        obtain ⟨G1, h1, h2, h3⟩ := runs_fk hr (R.plain g _ q hg) (G.setIfInBounds g .running) (R.set q trivial)
        subst hs'
        exact ⟨G1.setIfInBounds g e₁.genState, ⟨e₁, _, h1, hq, hres, rfl⟩, h2.set q (plainG_end h3)⟩
      | running => obtain ⟨h1, h2⟩ := h; subst h2; exact ⟨G, ⟨h1, rfl⟩, R⟩
      | finished => obtain ⟨h1, h2⟩ := h; subst h2; exact ⟨G, ⟨h1, rfl⟩, R⟩
/-- what holds over the replaced ones holds over the real ones -/
theorem wp_fk {α : Type} (F : Nat → Option GenState) (M : Model) (Γ : Ctx) (t : Sem α) : ∀ (Q : α → Pos → Shared → Prop) (E : Value → Pos → Shared → Prop) (p : Pos) (s : Shared) (G : Array GenState), Rel F s.gens G → wp M Γ t Q E p s →
    wp M Γ t (fun a p' s' => ∃ G0, Rel F G0 s'.gens ∧ Q a p' (gw s' G0)) (fun e p' s' => ∃ G0, Rel F G0 s'.gens ∧ E e p' (gw s' G0)) p (gw s G) := by
  induction t with
  | pure a => intro Q E p s G R h; exact ⟨s.gens, R, h⟩
  | raise e => intro Q E p s G R h; exact ⟨s.gens, R, h⟩
  | unsupported _ => intro Q E p s G _ h; exact h
  | finish _ => intro Q E p s G _ h; exact h
  | rule _ k ih => intro Q E p s G R h; exact ih () Q E p s G R h
  | «at» p' k ih => intro Q E p s G R h; exact ih () Q E p' s G R h
  | load a _ k ih => intro Q E p s G R h; obtain ⟨o, ho, h⟩ := h; exact ⟨o, ho, ih o Q E p s G R h⟩
  | update a _ f k ih => intro Q E p s G R h; exact ⟨h.1, ih () Q E p { s with heap := s.heap.update a f } G R h.2⟩
  | loadIfAlive a k ih => intro Q E p s G R h; exact ih _ Q E p s G R h
  | point _ k ih => intro Q E p s G R h; exact ih () Q E p s G R h
  | register _ _ => intro Q E p s G _ h; exact h
  | alloc o k ih => intro Q E p s G R h; exact ih _ Q E p { s with heap := s.heap.push o } G R h
  | fresh k ih => intro Q E p s G R h; exact ih _ Q E p { s with toks := s.toks + 1 } G R h
  | ask k ih => intro Q E p s G R h; exact ih _ Q E p s G R h
  | choose src m k ih => intro Q E p s G R h; exact ⟨h.1, ih _ Q E p { s with drawn := s.drawn.bump src } G R h.2⟩
  | os q _ k ih => intro Q E p s G R h; exact ih _ Q E p { s with os := (Os.step s.os q).1 } G R h
  | call c hd _ _ k ih =>
    intro Q E p s G R h
    obtain ⟨r, s', hr, h⟩ := h
    obtain ⟨G', h1, h2⟩ := returns_fk hr R
    exact ⟨r, _, h1, ih r Q E p s' G' h2 h⟩
  | handled own k ih => intro Q E p s G R h; exact ih _ Q E p s G R h
  | genState g k ih =>
    intro Q E p s G R h
    obtain ⟨st, hs, h⟩ := h
    cases q : F g with
    | none => exact ⟨st, by rw [← R.same g q] at hs; exact hs, ih _ Q E p s G R h⟩
    | some x =>
      obtain ⟨_, k1, k2⟩ := R.fake g x q
      rw [k1] at hs
      cases hs
      rw [fk_seen] at h
      exact ⟨x, k2, ih _ Q E p s G R h⟩
  | newGen c k ih =>
    intro Q E p s G R h
    have := ih _ Q E p _ _ (R.push c) h
    rw [← R.size] at this
    exact this
  | resume g r _ k ih =>
    intro Q E p s G R h
    obtain ⟨res, s', hw, h⟩ := h
    obtain ⟨G', h1, h2⟩ := wakes_fk hw R
    exact ⟨res, _, h1, ih res Q E p s' G' h2 h⟩
  | yield _ _ _ _ => intro Q E p s G _ h; exact h
  | stack k ih => intro Q E p s G R h; exact ih _ Q E p s G R h
  | fork _ _ => intro Q E p s G _ h; exact h
  | thread k ih => intro Q E p s G R h; exact ih _ Q E p s G R h
  | await _ _ _ _ _ => intro Q E p s G _ h; exact h
theorem wpAny_fk {α : Type} {M : Model} {A : Around} {t : Sem α} {Q : α → Shared → Prop} {E : Value → Shared → Prop} {s : Shared} {G : Array GenState} (R : Rel F s.gens G) (h : wpAny M A t Q E s) :
    wpAny M A t (fun a s' => ∃ G0, Rel F G0 s'.gens ∧ Q a (gw s' G0)) (fun e s' => ∃ G0, Rel F G0 s'.gens ∧ E e (gw s' G0)) (gw s G) := fun Γ p hΓ => wp_fk F M Γ t _ _ p s G R (h Γ p hΓ)
/-- all that sleep now -/
def sleepers (G : Array GenState) (i : Nat) : Option GenState := match G[i]? with
  | some x => if isSusp x = true then some x else none
  | none => none
def faked (G : Array GenState) : Array GenState := G.map fk
theorem rel_faked (G : Array GenState) : Rel (sleepers G) (faked G) G := by
  refine ⟨by simp [faked], fun i x e => ?_, fun i e => ?_, fun i x e hx => ?_⟩
  · unfold sleepers at e
    split at e
    · rename_i y hy
      split at e
      · rename_i hs
        cases e
        exact ⟨hs, by simp [faked, hy], hy⟩
      · cases e
    · cases e
  · unfold sleepers at e
    unfold faked
    rw [Array.getElem?_map]
    cases hy : G[i]? with
    | none => rfl
    | some y =>
      rw [hy] at e
      cases y <;> first | rfl | (simp [isSusp] at e)
  · unfold sleepers at e
    unfold faked at hx
    rw [Array.getElem?_map] at hx
    cases hy : G[i]? with
    | none => rw [hy] at hx; cases hx
    | some y =>
      rw [hy] at e hx
      cases hx
      cases y <;> first | trivial | (simp [isSusp] at e)
theorem bare_faked {G : Array GenState} (h : ∀ y ∈ G, y.bare = true) : ∀ y ∈ faked G, y.bare = true := fun y hy => by
  obtain ⟨x, hx, rfl⟩ := Array.mem_map.mp hy
  rw [fk_bare]; exact h x hx
theorem bare_real (h : Rel F a b) (hF : ∀ i x, F i = some x → x.bare = true) (ha : ∀ y ∈ a, y.bare = true) : ∀ y ∈ b, y.bare = true := fun y hy => by
  obtain ⟨i, hi, rfl⟩ := Array.mem_iff_getElem.mp hy
  have hb : b[i]? = some b[i] := Array.getElem?_eq_getElem hi
  cases q : F i with
  | some x =>
    obtain ⟨_, _, k2⟩ := h.fake i x q
    rw [k2] at hb
    have : x = b[i] := Option.some.inj hb
    rw [← this]; exact hF i x q
  | none =>
    have k := h.same i q
    rw [hb] at k
    have hi' : i < a.size := by rw [← h.size]; exact hi
    rw [Array.getElem?_eq_getElem hi'] at k
    have : b[i] = a[i] := Option.some.inj k
    rw [this]; exact ha _ (Array.getElem_mem hi')
theorem sleepers_at {G : Array GenState} {g : Nat} {x : GenState} (h : G[g]? = some x) (hs : isSusp x = true) : sleepers G g = some x := by
  unfold sleepers; rw [h]; simp [hs]
theorem sleepers_bare {G : Array GenState} (h : ∀ y ∈ G, y.bare = true) : ∀ i x, sleepers G i = some x → x.bare = true := fun i x e => by
  unfold sleepers at e
  split at e
  · rename_i y hy
    split at e
    · cases e; exact h _ (Array.mem_of_getElem? hy)
    · cases e
  · cases e
end Fk
set_option Elab.async false
set_option linter.all false
set_option maxRecDepth 100000
set_option maxHeartbeats 1000000
/-! Pth: the generator path, its turns over the machine's own rules -/
namespace Pth
open PySem PySem.Spec PyProof.Rows L2 GenW
/-! ### the text of the loop -/
abbrev stPush (p1 p2 p3 p4 p5 : Pos) : Stmt := .Assign [.Name "push" p1] (.BinOp (.Name "push" p2) .FloorDiv (.Name "PUSH_SHARE" p3) p4) p5
abbrev stSlot (p1 p2 p3 p4 p5 p6 p7 p8 p9 p10 p11 : Pos) (k1 k2 : Nat) : Stmt := .Assign [.Name "slot" p1] (.BinOp (.BinOp (.BinOp (.BinOp (.Constant (.int 5) k1 p2) .Mult (.Name "slot" p3) p4) .Add (.Name "push" p5) p6) .Add (.Constant (.int 1) k2 p7) p8) .Mod (.Name "size" p9) p10) p11
/-- what the walk asks of the env -/
structure PEnv (env : Env) : Prop where
  kind : env.scope.kind = .function
  co : env.scope.isCoroutine = false
  gl : env.globals = mainGlobals
  slot : env.kindOf "slot" = some .local
  push : env.kindOf "push" = some .local
  size : env.kindOf "size" = some .local
  low : env.kindOf "_" = some .local
  share : env.kindOf "PUSH_SHARE" = some .globalImplicit
/-- the frame's names -/
structure Fm (env : Env) (h : Heap) (size slot push : Int) : Prop where
  ns : ∃ m, h.Ns env.locals m ∧ (∃ t, m "slot" = some (.int slot t)) ∧ (∃ t, m "push" = some (.int push t)) ∧ ∃ t, m "size" = some (.int size t)
  gl : ∃ mg, h.Ns mainGlobals mg ∧ ∃ t, mg "PUSH_SHARE" = some (.int 32 t)
theorem Fm.keeps {env : Env} {h h' : Heap} {size slot push : Int} (x : Fm env h size slot push) (k : ∀ b o, (b = env.locals ∨ b = mainGlobals) → h.get? b = some o → h'.get? b = some o) : Fm env h' size slot push := by
  obtain ⟨⟨m, hn, r⟩, ⟨mg, hg, q⟩⟩ := x
  exact ⟨⟨m, hn.at' fun o e => k _ o (.inl rfl) e, r⟩, ⟨mg, hg.at' fun o e => k _ o (.inr rfl) e, q⟩⟩
section
variable {prog : Program} {w : World} {A : Around} {E : Value → Shared → Prop} {s : Shared} {env : Env} {size slot push : Int}
theorem nm {x : Str} {p : Pos} {m : Str → Option Value} {v : Value} {Q : Value → Shared → Prop} (T : PEnv env) (hk : env.kindOf x = some .local) (hn : s.heap.Ns env.locals m) (hm : m x = some v) (h : Q v s) (hd : (x == ("__debug__" : Str)) = false := by decide) :
    wpAny (model prog w) A (eval (.Name x p) env) Q E s := wpAny_Name (wpAny_loadName_local T.kind hk hn hm h) hd
/-- push = push // PUSH_SHARE -/
theorem run_push {p1 p2 p3 p4 p5 : Pos} {Q : Flow → Shared → Prop} (T : PEnv env) (hL : env.locals ≠ mainGlobals) (x : Fm env s.heap size slot push)
    (h : ∀ h' tk, Fm env h' size slot (push.fdiv 32) → (∀ b o, b ≠ env.locals → s.heap.get? b = some o → h'.get? b = some o) → Q .next { s with heap := h', toks := tk }) :
    wpAny (model prog w) A (exec (stPush p1 p2 p3 p4 p5) env) Q E s := by
  obtain ⟨⟨m, hn, ⟨t1, e1⟩, ⟨t2, e2⟩, ⟨t3, e3⟩⟩, ⟨mg, hg, ⟨t4, e4⟩⟩⟩ := x
  have h1 : (("slot" : Str) = "push") = False := by simp [show ¬ (("slot" : Str) = "push") by decide]
  have h2 : (("size" : Str) = "push") = False := by simp [show ¬ (("size" : Str) = "push") by decide]
  refine wpAny_Assign_Name ?_
  refine wpAny_BinOp (nm T T.push hn e2 ?_)
  refine Calls.Name_function_global T.kind T.share (Calls.loadGlobal_global (by rw [T.gl]; exact hg) e4 ?_) (by decide)
  refine floordiv_int (by decide) ?_
  refine wpAny_storeName_local (s := { s with toks := s.toks + 1 }) T.push hn (fun h' hn' hs => ?_) (by rw [T.kind]; rfl)
  refine h h' _ ⟨⟨_, hn', ⟨t1, by rw [if_neg (by simp [h1])]; exact e1⟩, ⟨_, if_pos rfl⟩, ⟨t3, by rw [if_neg (by simp [h2])]; exact e3⟩⟩, ⟨mg, hg.sameBut hs (Ne.symm hL), t4, e4⟩⟩ fun b o hb e => (hs.2 b hb).trans e
/-- slot = (5 * slot + push + 1) % size -/
theorem run_slot {p1 p2 p3 p4 p5 p6 p7 p8 p9 p10 p11 : Pos} {k1 k2 : Nat} {Q : Flow → Shared → Prop} (T : PEnv env) (hL : env.locals ≠ mainGlobals) (hz : size ≠ 0) (x : Fm env s.heap size slot push)
    (h : ∀ h' tk, Fm env h' size ((5 * slot + push + 1).fmod size) push → (∀ b o, b ≠ env.locals → s.heap.get? b = some o → h'.get? b = some o) → Q .next { s with heap := h', toks := tk }) :
    wpAny (model prog w) A (exec (stSlot p1 p2 p3 p4 p5 p6 p7 p8 p9 p10 p11 k1 k2) env) Q E s := by
  obtain ⟨⟨m, hn, ⟨t1, e1⟩, ⟨t2, e2⟩, ⟨t3, e3⟩⟩, ⟨mg, hg, q⟩⟩ := x
  have h1 : (("push" : Str) = "slot") = False := by simp [show ¬ (("push" : Str) = "slot") by decide]
  have h2 : (("size" : Str) = "slot") = False := by simp [show ¬ (("size" : Str) = "slot") by decide]
  refine wpAny_Assign_Name ?_
  refine wpAny_BinOp (wpAny_BinOp (wpAny_BinOp (wpAny_BinOp (wpAny_Constant_int (nm (s := { s with toks := s.toks + 1 }) T T.slot hn e1 ?_)))))
  refine mul_int ?_ (CMul.ok (.inl ⟨by decide, by decide⟩))
  refine nm (s := { s with toks := s.toks + 1 + 1 }) T T.push hn e2 ?_
  refine add_int ?_
  refine wpAny_Constant_int ?_
  refine add_int ?_
  refine nm (s := { s with toks := s.toks + 1 + 1 + 1 + 1 + 1 }) T T.size hn e3 ?_
  refine mod_int' hz ?_
  refine wpAny_storeName_local (s := { s with toks := _ }) T.slot hn (fun h' hn' hs => ?_) (by rw [T.kind]; rfl)
  refine h h' _ ⟨⟨_, hn', ⟨_, if_pos rfl⟩, ⟨t2, by rw [if_neg (by simp [h1])]; exact e2⟩, ⟨t3, by rw [if_neg (by simp [h2])]; exact e3⟩⟩, ⟨mg, hg.sameBut hs (Ne.symm hL), q⟩⟩ fun b o hb e => (hs.2 b hb).trans e
end

/-! ### for, within a generator -/
section
variable {M : Model} {A : Around} {R : GenEnd} {Y : Protocol} {n : Nat} {s₀ : Shared} {c : Code} {fs : List Frame} {s : Shared} {env : Env}
  {K : Flow → Sem PySem.Fin} {H : Value → Sem PySem.Fin} {gd : Bool → Bool} {lv : List Value → List Value}
/-- what stands behind the loop's call -/
abbrev behind (env : Env) (K : Flow → Sem PySem.Fin) (H : Value → Sem PySem.Fin) (gd : Bool → Bool) (lv : List Value → List Value) (r : Result) : Sem PySem.Fin :=
  ((match r with | .ok f => (.pure f : Sem Flow) | .error e => .raise e).onRaise fun (x : Value) => do
    if (← field x 1) == Value.none then unsupported "frame.own-activation:exception-without-traceback"
    setFlight x env.frame).wrap K H gd lv
theorem seg_For {target iter : Expr} {body orelse : List Stmt} {pos : Pos} (hs : ∀ x, foldedSetIterable iter env x = pure x)
    (h : wpAny M (A.over c fs) (eval iter env) (fun x s₁ => wpAny M (A.over c fs) (pyIter x) (fun it s₂ => ∀ p, Seg M A R Y n s₀ (.forLoop target it body orelse env) (M.den (.forLoop target it body orelse env)) (.ret (behind env K H gd lv) none (gd false) (lv []) c p [] :: fs) s₂)
      (fun x s' => Seg M A R Y n s₀ c (H x) fs s') s₁) (fun x s' => Seg M A R Y n s₀ c (H x) fs s') s) :
    Seg M A R Y n s₀ c ((exec (.For target iter body orelse pos) env).wrap K H gd lv) fs s := by
  rw [exec_For]
  refine seg_at ?_
  show Seg _ _ _ _ _ _ _ (((eval iter env) >>= fun x => (foldedSetIterable iter env x >>= fun x => (standAt iter.pos >>= fun _ => (holding [x] (pyIter x)) >>= fun it => runOwn (.forLoop target it body orelse env) env))).wrap K H gd lv) fs s
  rw [Sem.bind_eq_wrap', Sem.wrap_wrap]
  refine seg_wrap (wpAny_mono h (fun x s₁ h₁ => ?_) fun _ _ h' => h')
  rw [hs x]
  refine seg_at ?_
  show Seg _ _ _ _ _ _ _ (((holding [x] (pyIter x)) >>= fun it => runOwn (.forLoop target it body orelse env) env).wrap K H gd lv) fs s₁
  rw [Sem.bind_eq_wrap', Sem.wrap_wrap]
  refine seg_wrap (wpAny_holding (wpAny_mono h₁ (fun it s₂ h₂ => ?_) fun _ _ h' => h'))
  exact seg_call h₂
end
section
variable {prog : Program} {w : World} {A : Around} {R : GenEnd} {Y : Protocol} {n : Nat} {s₀ : Shared} {fs : List Frame} {s : Shared} {env : Env}
/-- what is left of a loop's turn behind its body -/
abbrev turned (target : Expr) (it : Value) (body orelse : List Stmt) (env : Env) (f : Flow) : Sem PySem.Fin := match f with
  | .next | .cont => .pure (.again (.forLoop target it body orelse env))
  | .brk => .pure (.done .next)
  | .ret v => .pure (.done (.ret v))
abbrev noted (env : Env) (e : Value) : Sem PySem.Fin := (do noteFrame e env; theTreesLotGoes e : Sem Unit).wrap (fun _ => .raise e) .raise id id
theorem seg_forLoop {target : Expr} {it : Value} {body orelse : List Stmt} (hgo : ∀ v, letOwnedTupleGo target it v = pure ())
    (h : wpAny (model prog w) (A.over (.forLoop target it body orelse env) fs) (pyNext it) (fun r s₁ => match r with
        | none => Seg (model prog w) A R Y n s₀ (.block orelse env) ((model prog w).den (.block orelse env)) fs s₁
        | some v => wpAny (model prog w) (A.over (.forLoop target it body orelse env) fs) (assign target env v) (fun _ s₂ =>
            Seg (model prog w) A R Y n s₀ (.forLoop target it body orelse env) ((execs body env).wrap (turned target it body orelse env) (noted env) id id) fs s₂)
            (fun _ _ => False) s₁) (fun _ _ => False) s)
    (hq : (Code.block orelse env).quiet = true := by rfl) :
    Seg (model prog w) A R Y n s₀ (.forLoop target it body orelse env) ((model prog w).den (.forLoop target it body orelse env)) fs s := by
  show Seg _ A R Y n s₀ _ ((forTurn target it body orelse env).onRaise (fun x => do noteFrame x env; theTreesLotGoes x)) fs s
  rw [Sem.onRaise_eq_wrap]
  unfold forTurn
  refine seg_at ?_
  show Seg _ A R Y n s₀ _ ((((pyNext it).onRaise (fun _ => standAt { target.pos with line := 0 })) >>= fun r => (match r with
    | none => again (.block orelse env)
    | some v => letOwnedTupleGo target it v >>= fun _ => assign target env v >>= fun _ => execs body env >>= fun f => (match f with
      | .next | .cont => again (.forLoop target it body orelse env)
      | .brk => pure (.done .next)
      | .ret v => pure (.done (.ret v)) : Sem PySem.Fin) : Sem PySem.Fin)).wrap _ _ id id) fs s
  rw [Sem.bind_eq_wrap', Sem.wrap_wrap]
  refine seg_wrap (wpAny_onRaise (wpAny_mono h (fun r s₁ h₁ => ?_) fun _ _ h' => h'.elim))
  cases r with
  | none => exact seg_again hq h₁
  | some v =>
    show Seg _ A R Y n s₀ _ ((letOwnedTupleGo target it v >>= fun _ => assign target env v >>= fun _ => execs body env >>= fun f => (match f with
      | .next | .cont => again (.forLoop target it body orelse env)
      | .brk => pure (.done .next)
      | .ret v => pure (.done (.ret v)) : Sem PySem.Fin)).wrap _ _ id id) fs s₁
    rw [hgo v]
    show Seg _ A R Y n s₀ _ ((assign target env v >>= fun _ => execs body env >>= fun f => (match f with
      | .next | .cont => again (.forLoop target it body orelse env)
      | .brk => pure (.done .next)
      | .ret v => pure (.done (.ret v)) : Sem PySem.Fin)).wrap _ _ id id) fs s₁
    rw [Sem.bind_eq_wrap', Sem.wrap_wrap]
    refine seg_wrap (wpAny_mono h₁ (fun _ s₂ h₂ => ?_) fun _ _ h' => h'.elim)
    rw [Sem.bind_eq_wrap', Sem.wrap_wrap]
    refine cast ?_ h₂
    congr 1
    refine Sem.wrap_congr _ id id (fun f => by cases f <;> rfl) (fun e => ?_)
    show _ = ((do noteFrame e env; theTreesLotGoes e : Sem Unit).bind (fun _ => Sem.raise e))
    rw [Sem.bind_eq_wrap]
end

/-! ### the loop of path -/
/-- the pushes and the slots -/
def pu (code : Int) : Nat → Int
  | 0 => code
  | i + 1 => (pu code i).fdiv 32
def sl (size code : Int) : Nat → Int
  | 0 => code.fmod size
  | i + 1 => (5 * sl size code i + pu code (i + 1) + 1).fmod size
/-- ahead of the turn i: the frame, and the iterator of range(N) -/
structure LSt (env : Env) (it : Addr) (N : Nat) (size code : Int) (i : Nat) (h : Heap) : Prop where
  fm : Fm env h size (sl size code i) (pu code i)
  rg : IsRangeIter h it (0 + (i : Nat) * 1) ((N : Int) - (i : Nat)) 1
/-- amid the turn i: the slot is out -/
structure LSy (env : Env) (it : Addr) (N : Nat) (size code : Int) (i : Nat) (h : Heap) : Prop where
  fm : Fm env h size (sl size code i) (pu code i)
  rg : IsRangeIter h it (0 + ((i + 1 : Nat) : Int) * 1) ((N : Int) - ((i + 1 : Nat) : Int)) 1
/-- only the frame and the iterator have changed -/
def Mv (L it : Addr) (s s' : Shared) : Prop := ∃ h' tk, s' = { s with heap := h', toks := tk } ∧ ∀ b o, b ≠ L → b ≠ it → s.heap.get? b = some o → h'.get? b = some o
theorem Mv.refl {L it : Addr} {s : Shared} : Mv L it s s := ⟨s.heap, s.toks, rfl, fun _ _ _ _ e => e⟩
theorem Mv.trans {L it : Addr} {s s1 s2 : Shared} (a : Mv L it s s1) (b : Mv L it s1 s2) : Mv L it s s2 := by
  obtain ⟨h1, t1, rfl, k1⟩ := a
  obtain ⟨h2, t2, rfl, k2⟩ := b
  exact ⟨h2, t2, rfl, fun c o n1 n2 e => k2 c o n1 n2 (k1 c o n1 n2 e)⟩
/-- asleep: the generator's own things stay -/
def Slp (env : Env) (it : Addr) (s s' : Shared) : Prop := ∀ b o, (b = env.locals ∨ b = it ∨ b = mainGlobals) → s.heap.get? b = some o → s'.heap.get? b = some o
theorem LSy.keeps {env : Env} {it : Addr} {N : Nat} {size code : Int} {i : Nat} {s s' : Shared} (x : LSy env it N size code i s.heap) (k : Slp env it s s') : LSy env it N size code i s'.heap :=
  ⟨x.fm.keeps fun b o hb e => k b o (hb.elim .inl fun z => .inr (.inr z)) e, k it _ (.inr (.inl rfl)) x.rg⟩
/-- the wake that began at s₀ has come to s: ahead of the first slot by its own word, later the frame and the iterator alone have changed -/
def Jr (J0 : Shared → Shared → Prop) (L it : Addr) (i : Nat) (s₀ s : Shared) : Prop := if i = 0 then J0 s₀ s else Mv L it s₀ s
def YP (J0 : Shared → Shared → Prop) (env : Env) (it : Addr) (N : Nat) (size code : Int) : Protocol := fun n s₀ v s kap =>
  ∃ i t, n + 1 + i = N ∧ v = .int (sl size code i) t ∧ Jr J0 env.locals it i s₀ s ∧ LSy env it N size code i s.heap ∧ ∀ s', Slp env it s s' → kap (.send .none) s'
def RP (J0 : Shared → Shared → Prop) (L it : Addr) (N : Nat) : GenEnd := fun n s₀ r s => r = .ok (.ret .none) ∧ n = 0 ∧ Jr J0 L it N s₀ s
section
variable {prog : Program} {w : World} {A : Around} {env : Env} {J0 : Shared → Shared → Prop} {it : Addr} {N : Nat} {size code : Int}
abbrev loopBody (p0 p0' p0'' p1 p2 p3 p4 p5 q1 q2 q3 q4 q5 q6 q7 q8 q9 q10 q11 : Pos) (k1 k2 : Nat) : List Stmt :=
  [.Expr (.Yield (some (.Name "slot" p0)) p0') p0'', stPush p1 p2 p3 p4 p5, stSlot q1 q2 q3 q4 q5 q6 q7 q8 q9 q10 q11 k1 k2]
theorem path_seg {pt p0 p0' p0'' p1 p2 p3 p4 p5 q1 q2 q3 q4 q5 q6 q7 q8 q9 q10 q11 : Pos} {k1 k2 : Nat} (T : PEnv env) (hi : interactive env = false) (hL : env.locals ≠ mainGlobals) (hiL : it ≠ env.locals) (hiG : it ≠ mainGlobals) (hz : size ≠ 0)
    (hJ : ∀ s₀ s s', J0 s₀ s → Mv env.locals it s s' → J0 s₀ s') {kf : Result → Sem PySem.Fin} {g : Bool → Bool} {l : List Value} {c : Code} {p : Pos} (hg : g false = false)
    (hA : (A.over (.forLoop (.Name "_" pt) (.ref it) (loopBody p0 p0' p0'' p1 p2 p3 p4 p5 q1 q2 q3 q4 q5 q6 q7 q8 q9 q10 q11 k1 k2) [] env) [.ret kf none (g false) l c p []]).handled = none)
    (hend : ∀ s₀ s, Jr J0 env.locals it N s₀ s → Seg (model prog w) A (RP J0 env.locals it N) (YP J0 env it N size code) 0 s₀ c (kf (.ok .next)) [] s) :
    ∀ (r i : Nat) (s₀ s : Shared), i + r = N → LSt env it N size code i s.heap → Jr J0 env.locals it i s₀ s →
      Seg (model prog w) A (RP J0 env.locals it N) (YP J0 env it N size code) r s₀ (.forLoop (.Name "_" pt) (.ref it) (loopBody p0 p0' p0'' p1 p2 p3 p4 p5 q1 q2 q3 q4 q5 q6 q7 q8 q9 q10 q11 k1 k2) [] env)
        ((model prog w).den (.forLoop (.Name "_" pt) (.ref it) (loopBody p0 p0' p0'' p1 p2 p3 p4 p5 q1 q2 q3 q4 q5 q6 q7 q8 q9 q10 q11 k1 k2) [] env)) [.ret kf none (g false) l c p []] s := by
  have jmv : ∀ i s₀ s s', Jr J0 env.locals it i s₀ s → Mv env.locals it s s' → Jr J0 env.locals it i s₀ s' := fun i s₀ s s' h m => by
    unfold Jr at h ⊢
    split at h
    · rename_i e
      rw [if_pos e]; exact hJ _ _ _ h m
    · rename_i e
      rw [if_neg e]; exact h.trans m
  intro r
  induction r with
  | zero =>
    intro i s₀ s hir x j
    obtain rfl : i = N := by omega
    refine seg_forLoop (fun v => rfl) ?_
    refine wpAny_pyNext_range_end hA x.rg (by omega) fun h' eb => ?_
    show Seg _ _ _ _ 0 s₀ (.block [] env) ((model prog w).den (.block [] env)) _ _
    refine seg_leaf (.ok .next) (hend s₀ _ (jmv _ _ _ _ j ⟨h', s.toks, rfl, fun b o _ hb e => eb b o hb e⟩))
  | succ r ih =>
    intro i s₀ s hir x j
    refine seg_forLoop (fun v => rfl) ?_
    have W := Walks.range (prog := prog) (w := w) hA it 0 1 N
    refine W.item i s _ _ (by omega) x.rg fun v h1 t1 hv rg1 k1' => ?_
    obtain ⟨tv, rfl⟩ := hv
    have kk : ∀ b o, b ≠ it → s.heap.get? b = some o → h1.get? b = some o := fun b o hb e => k1' b o (by simpa using hb) e
    have f1 : Fm env h1 size (sl size code i) (pu code i) := x.fm.keeps fun b o hb e => kk b o (by rcases hb with hb | hb <;> rw [hb] <;> first | exact Ne.symm hiL | exact Ne.symm hiG) e
    have j1 : Jr J0 env.locals it i s₀ { s with heap := h1, toks := t1 } := jmv _ _ _ _ j ⟨h1, t1, rfl, fun b o _ hb e => kk b o hb e⟩
    -- the loop's own name
    show wpAny _ _ (assign (.Name "_" pt) env _) _ _ _
    obtain ⟨⟨m, hn, ⟨a1, e1⟩, ⟨a2, e2⟩, ⟨a3, e3⟩⟩, ⟨mg, hg', gq⟩⟩ := f1
    have n1 : ¬ (("slot" : Str) = "_") := by decide
    have n2 : ¬ (("push" : Str) = "_") := by decide
    have n3 : ¬ (("size" : Str) = "_") := by decide
    refine wpAny_assign_Name (wpAny_storeName_local (s := { s with heap := h1, toks := t1 }) T.low hn (fun h2 hn2 hs2 => ?_) (by rw [T.kind]; rfl))
    have f2 : Fm env h2 size (sl size code i) (pu code i) := ⟨⟨_, hn2, ⟨a1, by rw [if_neg n1]; exact e1⟩, ⟨a2, by rw [if_neg n2]; exact e2⟩, ⟨a3, by rw [if_neg n3]; exact e3⟩⟩, ⟨mg, hg'.sameBut hs2 (Ne.symm hL), gq⟩⟩
    have j2 : Jr J0 env.locals it i s₀ { s with heap := h2, toks := t1 + 1 } := jmv _ _ _ _ j1 ⟨h2, t1 + 1, rfl, fun b o hb _ e => (hs2.2 b hb).trans e⟩
    have y2 : LSy env it N size code i h2 := ⟨f2, (hs2.2 it hiL).trans rg1⟩
    -- yield slot
    refine seg_execs_cons ?_
    refine seg_Expr_Yield (n := r) (gd := id) (by rfl) rfl (by show (g false || false) = false; rw [hg]; rfl) ?_ T.co hi
    obtain ⟨⟨m2, hm2, ⟨b1, c1⟩, _⟩, _⟩ := f2
    refine nm (s := { s with heap := h2, toks := t1 + 1 }) T T.slot hm2 c1 ?_
    intro kap hk
    refine ⟨i, b1, by omega, rfl, j2, y2, fun s'' z => hk .none s'' ?_⟩
    show Seg _ _ _ _ r s'' _ _ _ _
    have y3 := y2.keeps (s := { s with heap := h2, toks := t1 + 1 }) (s' := s'') z
    -- push, slot
    show Seg _ _ _ _ r s'' _ ((execs [stPush p1 p2 p3 p4 p5, stSlot q1 q2 q3 q4 q5 q6 q7 q8 q9 q10 q11 k1 k2] env).wrap _ _ id id) _ s''
    refine seg_execs_cons (seg_wrap (run_push T hL y3.fm fun h4 t4 f4 k4 => ?_))
    show Seg _ _ _ _ r s'' _ ((execs [stSlot q1 q2 q3 q4 q5 q6 q7 q8 q9 q10 q11 k1 k2] env).wrap _ _ id id) _ _
    refine seg_execs_cons (seg_wrap (run_slot (s := { s'' with heap := h4, toks := t4 }) T hL hz f4 fun h5 t5 f5 k5 => ?_))
    show Seg _ _ _ _ r s'' _ ((execs [] env).wrap _ _ id id) _ _
    refine seg_execs_nil ?_
    refine seg_again rfl ?_
    refine ih (i + 1) s'' _ (by omega) ⟨f5, (k5 it _ hiL (k4 it _ hiL y3.rg))⟩ ?_
    unfold Jr
    rw [if_neg (by omega)]
    exact ⟨h5, t5, rfl, fun b o hb _ e => k5 b o hb (k4 b o hb e)⟩
end
end Pth
set_option Elab.async false
set_option linter.all false
set_option maxRecDepth 100000
set_option maxHeartbeats 1000000
/-! Pg: the first wake of a generator, its end by any word -/
namespace Pth
open PySem PySem.Spec PyProof.Rows L2 GenW
def SegG (M : Model) (A : Around) (Φ : End → Shared → Prop) (c : Code) (t : Sem PySem.Fin) (fs : List Frame) (s : Shared) : Prop :=
  ∀ (Γ : PySem.Ctx) (p : Pos), Γ.code = c → Γ.Woken A → ∃ e s', Runs M Γ p t fs s e s' ∧ Φ e s'
section
variable {M : Model} {A : Around} {Φ : End → Shared → Prop} {c : Code} {fs : List Frame} {s : Shared} {env : Env}
theorem sg_wrap {α : Type} {m : Sem α} {K : α → Sem PySem.Fin} {H : Value → Sem PySem.Fin} {gd lv}
    (h : wpAny M (A.over c fs) m (fun a s' => SegG M A Φ c (K a) fs s') (fun x s' => SegG M A Φ c (H x) fs s') s) : SegG M A Φ c (m.wrap K H gd lv) fs s := by
  rintro Γ p rfl hΓ
  exact runs_wrap_of_wp K H gd lv m (h (Γ.over fs) p (hΓ.over fs)) (fun a p' s' h' => h' Γ p' rfl hΓ) (fun x p' s' h' => h' Γ p' rfl hΓ)
theorem sg_at {p' : Pos} {k : Unit → Sem PySem.Fin} (h : SegG M A Φ c (k ()) fs s) : SegG M A Φ c (.at p' k) fs s :=
  sg_wrap (m := standAt p') (K := k) (H := .raise) (gd := id) (lv := id) (wpAny_standAt h)
theorem sg_point {l : List Value} {k : Unit → Sem PySem.Fin} (h : SegG M A Φ c (k ()) fs s) : SegG M A Φ c (.point l k) fs s :=
  sg_wrap (m := point) (K := k) (H := .raise) (gd := id) (lv := fun _ => l) (wpAny_point h)
theorem sg_call {c' : Code} {h g l} {k : Result → Sem PySem.Fin} (hc : ∀ p, SegG M A Φ c' (M.den c') (.ret k h g l c p [] :: fs) s) : SegG M A Φ c (.call c' h g l k) fs s := by
  rintro Γ p rfl hΓ
  obtain ⟨e, s', hr, he⟩ := hc p (Γ.goto c') p rfl (hΓ.goto c')
  exact ⟨e, s', runs_call_seg hr, he⟩
theorem sg_leaf {k h g l c₁ p₁ kp} (r : Result) (hk : SegG M A Φ c₁ (k r) fs s) : SegG M A Φ c (leafOf r) (.ret k h g l c₁ p₁ kp :: fs) s := by
  rintro Γ p rfl hΓ
  obtain ⟨e, s', hr, he⟩ := hk (Γ.goto c₁) p₁ rfl (hΓ.goto c₁)
  exact ⟨e, s', Runs.pop r hr, he⟩
theorem sg_again {c' : Code} (hq : c'.quiet = true) (hc : SegG M A Φ c' (M.den c') fs s) : SegG M A Φ c (.pure (.again c')) fs s := by
  rintro Γ p rfl hΓ
  obtain ⟨e, s', hr, he⟩ := hc (Γ.goto c') p rfl (hΓ.goto c')
  exact ⟨e, s', Runs.head (c₁ := c') (fun _ _ x => .again hq x) hr, he⟩
theorem sg_end (r : Result) (h : Φ (.ret r) s) : SegG M A Φ c (leafOf r) [] s := by
  rintro Γ p rfl _
  exact ⟨.ret r, s, Runs.leaf r, h⟩
theorem sg_yield {v g l} {k : Resume → Sem PySem.Fin} (hfs : splitAtGen fs = none) (h : ∀ p, Φ (.susp v g l k c p fs) s) : SegG M A Φ c (.yield v g l k) fs s := by
  rintro Γ p rfl _
  exact ⟨_, s, Runs.yield' fs hfs, h p⟩
variable {K : Flow → Sem PySem.Fin} {H : Value → Sem PySem.Fin} {gd : Bool → Bool} {lv : List Value → List Value}
theorem sg_execs_nil (h : SegG M A Φ c (K .next) fs s) : SegG M A Φ c ((execs [] env).wrap K H gd lv) fs s := h
theorem sg_execs_cons {st : Stmt} {rest : List Stmt}
    (h : SegG M A Φ c ((exec st env).wrap (fun f => match f with | .next => (execs rest env).wrap K H gd lv | f => K f) H gd lv) fs s) :
    SegG M A Φ c ((execs (st :: rest) env).wrap K H gd lv) fs s := by rw [execs_cons_wrap]; exact h
/-- some statements ahead, by one judgement -/
theorem execs_app_wrap : ∀ (l r : List Stmt) (K : Flow → Sem PySem.Fin), (execs (l ++ r) env).wrap K H gd lv = (execs l env).wrap (fun f => match f with | .next => (execs r env).wrap K H gd lv | f => K f) H gd lv := by
  intro l
  induction l with
  | nil => intro r K; rfl
  | cons a t ih =>
    intro r K
    rw [List.cons_append, execs_cons_wrap, execs_cons_wrap]
    refine Sem.wrap_congr _ gd lv (fun f => ?_) (fun _ => rfl)
    cases f with
    | next => exact ih r K
    | _ => rfl
theorem sg_app {l r : List Stmt} (h : SegG M A Φ c ((execs l env).wrap (fun f => match f with | .next => (execs r env).wrap K H gd lv | f => K f) H gd lv) fs s) : SegG M A Φ c ((execs (l ++ r) env).wrap K H gd lv) fs s := by
  rw [execs_app_wrap]; exact h
theorem sg_For {target iter : Expr} {body orelse : List Stmt} {pos : Pos} (hs : ∀ x, foldedSetIterable iter env x = pure x)
    (h : wpAny M (A.over c fs) (eval iter env) (fun x s₁ => wpAny M (A.over c fs) (pyIter x) (fun it s₂ => ∀ p, SegG M A Φ (.forLoop target it body orelse env) (M.den (.forLoop target it body orelse env)) (.ret (behind env K H gd lv) none (gd false) (lv []) c p [] :: fs) s₂)
      (fun x s' => SegG M A Φ c (H x) fs s') s₁) (fun x s' => SegG M A Φ c (H x) fs s') s) :
    SegG M A Φ c ((exec (.For target iter body orelse pos) env).wrap K H gd lv) fs s := by
  rw [exec_For]
  refine sg_at ?_
  show SegG _ _ _ _ (((eval iter env) >>= fun x => (foldedSetIterable iter env x >>= fun x => (standAt iter.pos >>= fun _ => (holding [x] (pyIter x)) >>= fun it => runOwn (.forLoop target it body orelse env) env))).wrap K H gd lv) fs s
  rw [Sem.bind_eq_wrap', Sem.wrap_wrap]
  refine sg_wrap (wpAny_mono h (fun x s₁ h₁ => ?_) fun _ _ h' => h')
  rw [hs x]
  refine sg_at ?_
  show SegG _ _ _ _ (((holding [x] (pyIter x)) >>= fun it => runOwn (.forLoop target it body orelse env) env).wrap K H gd lv) fs s₁
  rw [Sem.bind_eq_wrap', Sem.wrap_wrap]
  refine sg_wrap (wpAny_holding (wpAny_mono h₁ (fun it s₂ h₂ => ?_) fun _ _ h' => h'))
  exact sg_call h₂
end
section
variable {prog : Program} {w : World} {A : Around} {Φ : End → Shared → Prop} {fs : List Frame} {s : Shared} {env : Env}
theorem sg_forLoop {target : Expr} {it : Value} {body orelse : List Stmt} (hgo : ∀ v, letOwnedTupleGo target it v = pure ())
    (h : wpAny (model prog w) (A.over (.forLoop target it body orelse env) fs) (pyNext it) (fun r s₁ => match r with
        | none => SegG (model prog w) A Φ (.block orelse env) ((model prog w).den (.block orelse env)) fs s₁
        | some v => wpAny (model prog w) (A.over (.forLoop target it body orelse env) fs) (assign target env v) (fun _ s₂ =>
            SegG (model prog w) A Φ (.forLoop target it body orelse env) ((execs body env).wrap (turned target it body orelse env) (noted env) id id) fs s₂)
            (fun _ _ => False) s₁) (fun _ _ => False) s)
    (hq : (Code.block orelse env).quiet = true := by rfl) :
    SegG (model prog w) A Φ (.forLoop target it body orelse env) ((model prog w).den (.forLoop target it body orelse env)) fs s := by
  show SegG _ A Φ _ ((forTurn target it body orelse env).onRaise (fun x => do noteFrame x env; theTreesLotGoes x)) fs s
  rw [Sem.onRaise_eq_wrap]
  unfold forTurn
  refine sg_at ?_
  show SegG _ A Φ _ ((((pyNext it).onRaise (fun _ => standAt { target.pos with line := 0 })) >>= fun r => (match r with
    | none => again (.block orelse env)
    | some v => letOwnedTupleGo target it v >>= fun _ => assign target env v >>= fun _ => execs body env >>= fun f => (match f with
      | .next | .cont => again (.forLoop target it body orelse env)
      | .brk => pure (.done .next)
      | .ret v => pure (.done (.ret v)) : Sem PySem.Fin) : Sem PySem.Fin)).wrap _ _ id id) fs s
  rw [Sem.bind_eq_wrap', Sem.wrap_wrap]
  refine sg_wrap (wpAny_onRaise (wpAny_mono h (fun r s₁ h₁ => ?_) fun _ _ h' => h'.elim))
  cases r with
  | none => exact sg_again hq h₁
  | some v =>
    show SegG _ A Φ _ ((letOwnedTupleGo target it v >>= fun _ => assign target env v >>= fun _ => execs body env >>= fun f => (match f with
      | .next | .cont => again (.forLoop target it body orelse env)
      | .brk => pure (.done .next)
      | .ret v => pure (.done (.ret v)) : Sem PySem.Fin)).wrap _ _ id id) fs s₁
    rw [hgo v]
    show SegG _ A Φ _ ((assign target env v >>= fun _ => execs body env >>= fun f => (match f with
      | .next | .cont => again (.forLoop target it body orelse env)
      | .brk => pure (.done .next)
      | .ret v => pure (.done (.ret v)) : Sem PySem.Fin)).wrap _ _ id id) fs s₁
    rw [Sem.bind_eq_wrap', Sem.wrap_wrap]
    refine sg_wrap (wpAny_mono h₁ (fun _ s₂ h₂ => ?_) fun _ _ h' => h'.elim)
    rw [Sem.bind_eq_wrap', Sem.wrap_wrap]
    refine cast ?_ h₂
    congr 1
    refine Sem.wrap_congr _ id id (fun f => by cases f <;> rfl) (fun e => ?_)
    show _ = ((do noteFrame e env; theTreesLotGoes e : Sem Unit).bind (fun _ => Sem.raise e))
    rw [Sem.bind_eq_wrap]
theorem sg_Expr_Yield {K : Flow → Sem PySem.Fin} {H : Value → Sem PySem.Fin} {e : Expr} {ypos pos : Pos} {c : Code} (hfs : splitAtGen fs = none)
    (h : wpAny (model prog w) (A.over c fs) (eval e env) (fun v s' => ∀ p k, (∀ v, k (.send v) = (dropValue (.Yield (some e) ypos) pos v).wrap K H id id) → Φ (.susp v false [] k c p fs) s')
      (fun x s' => SegG (model prog w) A Φ c (H x) fs s') s) (hco : env.scope.isCoroutine = false := by rfl) (hi : interactive env = false := by rfl) :
    SegG (model prog w) A Φ c ((exec (.Expr (.Yield (some e) ypos) pos) env).wrap K H id id) fs s := by
  rw [exec_Expr env _ pos hi rfl]
  show SegG _ A Φ c (.at pos fun _ => ((eval e env >>= fun v => (standAt ypos >>= fun _ => yieldOut env v)) >>= fun x =>
    dropValue (.Yield (some e) ypos) pos x).wrap K H id id) fs s
  have hy : ∀ v, yieldOut env v = yieldValue v := fun v => by simp only [yieldOut, hco, Bool.false_eq_true, if_false]
  simp only [hy]
  refine sg_at ?_
  rw [Sem.bind_eq_wrap', Sem.bind_eq_wrap', Sem.wrap_wrap, Sem.wrap_wrap]
  refine sg_wrap (wpAny_mono h (fun v s' h' => ?_) fun _ _ x => x)
  refine sg_at ?_
  exact sg_yield hfs fun p => h' p _ fun v => rfl
theorem sg_func {body : List Stmt}
    (h : SegG (model prog w) A Φ (.func body env) ((execs body env).wrap (fun f => .pure (.done (.ret (match f with | .ret v => v | _ => .none))))
      (fun e => (leaving env e).wrap (fun _ => .raise e) .raise id id) id id) fs s) :
    SegG (model prog w) A Φ (.func body env) ((model prog w).den (.func body env)) fs s := by
  show SegG _ A Φ _ (.point [] fun _ => ((execs body env).onRaise (leaving env)) >>= _) fs s
  refine sg_point ?_
  rw [Sem.onRaise_eq_wrap, Sem.bind_eq_wrap', Sem.wrap_wrap]
  rw [Sem.wrap_congr (execs body env) _ _ (K' := fun f => .pure (.done (.ret (match f with | .ret v => v | _ => .none))))
    (H' := fun e => (leaving env e).wrap (fun _ => .raise e) .raise id id) (fun f => by cases f <;> rfl)
    (fun e => by rw [Sem.bind_eq_wrap, Sem.wrap_wrap]; rfl)]
  exact h
end

/-! ### the first turn -/
/-- what the first wake comes to: J the state's own word; no slot at all, or the first one is out -/
def FstP (prog : Program) (w : World) (A : Around) (env : Env) (N : Nat) (size code : Int) (low : List Addr) (J : Shared → Prop) (e : End) (s' : Shared) : Prop := match e with
  | .ret r => r = .ok (.ret .none) ∧ N = 0 ∧ J s'
  | .susp v g l k c p fs => (End.susp v g l k c p fs).quiet = true ∧ 0 < N ∧ (∃ t, v = .int (sl size code 0) t) ∧ J s' ∧ ∃ it : Addr, (∀ b ∈ low, b < it) ∧ LSy env it N size code 0 s'.heap ∧
      ∀ s'', Slp env it s' s'' → Seg (model prog w) A (RP (fun _ _ => True) env.locals it N) (YP (fun _ _ => True) env it N size code) (N - 1) s'' c (k (.send .none)) fs s''
section
variable {prog : Program} {w : World} {A : Around} {env : Env} {it : Addr} {N : Nat} {size code : Int}
theorem path_first {J : Shared → Prop} {low : List Addr} {pt p0 p0' p0'' p1 p2 p3 p4 p5 q1 q2 q3 q4 q5 q6 q7 q8 q9 q10 q11 : Pos} {k1 k2 : Nat} (T : PEnv env) (hi : interactive env = false) (hL : env.locals ≠ mainGlobals) (hiL : it ≠ env.locals) (hiG : it ≠ mainGlobals) (hz : size ≠ 0) (hlow : ∀ b ∈ low, b < it)
    (hJ : ∀ s s', J s → Mv env.locals it s s' → J s') {kf : Result → Sem PySem.Fin} {g : Bool → Bool} {l : List Value} {c : Code} {p : Pos} (hg : g false = false)
    (hA : (A.over (.forLoop (.Name "_" pt) (.ref it) (loopBody p0 p0' p0'' p1 p2 p3 p4 p5 q1 q2 q3 q4 q5 q6 q7 q8 q9 q10 q11 k1 k2) [] env) [.ret kf none (g false) l c p []]).handled = none)
    (hend0 : ∀ s, N = 0 → J s → SegG (model prog w) A (FstP prog w A env N size code low J) c (kf (.ok .next)) [] s)
    (hend : ∀ s₀ s, Jr (fun _ _ => True) env.locals it N s₀ s → Seg (model prog w) A (RP (fun _ _ => True) env.locals it N) (YP (fun _ _ => True) env it N size code) 0 s₀ c (kf (.ok .next)) [] s)
    {s : Shared} (x : LSt env it N size code 0 s.heap) (j : J s) :
    SegG (model prog w) A (FstP prog w A env N size code low J) (.forLoop (.Name "_" pt) (.ref it) (loopBody p0 p0' p0'' p1 p2 p3 p4 p5 q1 q2 q3 q4 q5 q6 q7 q8 q9 q10 q11 k1 k2) [] env)
        ((model prog w).den (.forLoop (.Name "_" pt) (.ref it) (loopBody p0 p0' p0'' p1 p2 p3 p4 p5 q1 q2 q3 q4 q5 q6 q7 q8 q9 q10 q11 k1 k2) [] env)) [.ret kf none (g false) l c p []] s := by
  refine sg_forLoop (fun v => rfl) ?_
  by_cases hN : N = 0
  · refine wpAny_pyNext_range_end hA x.rg (by omega) fun h' eb => ?_
    show SegG _ _ _ (.block [] env) ((model prog w).den (.block [] env)) _ _
    exact sg_leaf (.ok .next) (hend0 _ hN (hJ _ _ j ⟨h', s.toks, rfl, fun b o _ hb e => eb b o hb e⟩))
  · have W := Walks.range (prog := prog) (w := w) hA it 0 1 N
    refine W.item 0 s _ _ (by omega) x.rg fun v h1 t1 hv rg1 k1' => ?_
    obtain ⟨tv, rfl⟩ := hv
    have kk : ∀ b o, b ≠ it → s.heap.get? b = some o → h1.get? b = some o := fun b o hb e => k1' b o (by simpa using hb) e
    have f1 : Fm env h1 size (sl size code 0) (pu code 0) := x.fm.keeps fun b o hb e => kk b o (by rcases hb with hb | hb <;> rw [hb] <;> first | exact Ne.symm hiL | exact Ne.symm hiG) e
    have j1 : J { s with heap := h1, toks := t1 } := hJ _ _ j ⟨h1, t1, rfl, fun b o _ hb e => kk b o hb e⟩
    show wpAny _ _ (assign (.Name "_" pt) env _) _ _ _
    obtain ⟨⟨m, hn, ⟨a1, e1⟩, ⟨a2, e2⟩, ⟨a3, e3⟩⟩, ⟨mg, hg', gq⟩⟩ := f1
    have n1 : ¬ (("slot" : Str) = "_") := by decide
    have n2 : ¬ (("push" : Str) = "_") := by decide
    have n3 : ¬ (("size" : Str) = "_") := by decide
    refine wpAny_assign_Name (wpAny_storeName_local (s := { s with heap := h1, toks := t1 }) T.low hn (fun h2 hn2 hs2 => ?_) (by rw [T.kind]; rfl))
    have f2 : Fm env h2 size (sl size code 0) (pu code 0) := ⟨⟨_, hn2, ⟨a1, by rw [if_neg n1]; exact e1⟩, ⟨a2, by rw [if_neg n2]; exact e2⟩, ⟨a3, by rw [if_neg n3]; exact e3⟩⟩, ⟨mg, hg'.sameBut hs2 (Ne.symm hL), gq⟩⟩
    have j2 : J { s with heap := h2, toks := t1 + 1 } := hJ _ _ j1 ⟨h2, t1 + 1, rfl, fun b o hb _ e => (hs2.2 b hb).trans e⟩
    have y2 : LSy env it N size code 0 h2 := ⟨f2, (hs2.2 it hiL).trans rg1⟩
    refine sg_execs_cons ?_
    refine sg_Expr_Yield (by rfl) ?_ T.co hi
    obtain ⟨⟨m2, hm2, ⟨b1, c1⟩, _⟩, _⟩ := f2
    refine nm (s := { s with heap := h2, toks := t1 + 1 }) T T.slot hm2 c1 ?_
    intro pp kk' hkk
    refine ⟨?_, by omega, ⟨b1, rfl⟩, j2, it, hlow, y2, fun s'' z => ?_⟩
    · show (!(false || (g false || false))) = true
      rw [hg]; rfl
    rw [hkk]
    show Seg _ _ _ _ _ s'' _ (((dropValue (.Yield (some (.Name "slot" p0)) p0') p0'' .none)).wrap _ _ id id) _ s''
    have y3 := y2.keeps (s := { s with heap := h2, toks := t1 + 1 }) (s' := s'') z
    show Seg _ _ _ _ _ s'' _ ((execs [stPush p1 p2 p3 p4 p5, stSlot q1 q2 q3 q4 q5 q6 q7 q8 q9 q10 q11 k1 k2] env).wrap _ _ id id) _ s''
    refine seg_execs_cons (seg_wrap (run_push T hL y3.fm fun h4 t4 f4 k4 => ?_))
    show Seg _ _ _ _ _ s'' _ ((execs [stSlot q1 q2 q3 q4 q5 q6 q7 q8 q9 q10 q11 k1 k2] env).wrap _ _ id id) _ _
    refine seg_execs_cons (seg_wrap (run_slot (s := { s'' with heap := h4, toks := t4 }) T hL hz f4 fun h5 t5 f5 k5 => ?_))
    show Seg _ _ _ _ _ s'' _ ((execs [] env).wrap _ _ id id) _ _
    refine seg_execs_nil ?_
    refine seg_again rfl ?_
    refine path_seg T hi hL hiL hiG hz (fun _ _ _ _ _ => trivial) hg hA hend (N - 1) 1 s'' _ (by omega) ⟨f5, (k5 it _ hiL (k4 it _ hiL y3.rg))⟩ ?_
    unfold Jr
    rw [if_neg (by omega)]
    exact ⟨h5, t5, rfl, fun b o hb _ e => k5 b o hb (k4 b o hb e)⟩
end
end Pth
set_option Elab.async false
set_option linter.all false
set_option maxRecDepth 100000
set_option maxHeartbeats 1000000
/-! Pm: path is called -/
namespace Pth
open PySem PySem.Spec PyProof.Rows L2 GenW
theorem run_range {X : Cx} {pins : List (Addr × Obj)} {σ : L2.St} {H : Hp} {s : Shared} {j : Int} {p pm pos : Pos} (I : Inv X pins σ H s) (hg : Gl X "range") (hm : X.mg "range" = none) (h2 : X.N[2]? = some ("many" : Str)) (hv : Vis X.env.scope "many") (hσ : σ[2]? = some (some (V.int j)))
    (j0 : 0 ≤ j) (j1 : j < 2 ^ 62) :
    wpAny (model X.prog X.w) X.A (eval (.Call (.Name "range" p) [.Name "many" pm] [] pos) X.env) (fun v s1 => wpAny (model X.prog X.w) X.A (pyIter v) (fun itv s2 => ∃ it : Addr, itv = .ref it ∧ X.env.locals < it ∧ (∀ p ∈ X.pn ++ pins, p.1 < it) ∧
      IsRangeIter s2.heap it (0 + ((0 : Nat) : Int) * 1) ((j.toNat : Int) - ((0 : Nat) : Int)) 1 ∧ Inv X pins σ H s2) X.xe s1) X.xe s := by
  refine Call_ (ld_blt I hg hm boot_range (PyProof.Rows.callWith_type1 (thn ((pa_cons (pe_var (i := 2) h2 hv) pa_nil).run pos pins s σ H (fun vs H1 => vs = [.int j] ∧ H1 = H) I ⟨_, hσ, rfl, rfl⟩) fun us s1 ⟨vs, H1, I1, r1, q1⟩ => ?_) rfl rfl))
  obtain ⟨e1, e2⟩ := q1
  subst e1
  subst e2
  cases r1 with
  | cons r rr =>
    cases rr
    obtain ⟨t, rfl⟩ := r
    refine call_range_1 ?_
    refine wpAny_pyIter_range (IsRange.new ..) (small_one (by omega) (by omega) (by omega) j1) ?_
    have I2 : Inv X pins σ H1 { s1 with heap := s1.heap.push { cls := .type "range", data := .fields #[.int 0 s1.toks, .int j t, .int 1 (s1.toks + 1)] }, toks := s1.toks + 1 + 1 } := I1.kept (t' := s1.toks + 1 + 1) fun b o e => Heap.get?_push_of_some _ e
    have hsz : s1.heap.objs.size < (s1.heap.push { cls := .type "range", data := .fields #[.int 0 s1.toks, .int j t, .int 1 (s1.toks + 1)] }).objs.size := by rw [Heap.size_push]; exact Nat.lt_succ_self _
    refine ⟨_, rfl, Nat.lt_trans I1.lt hsz, fun p hp => Nat.lt_trans (Heap.lt_size (I1.pin p hp).1) hsz, ?_, I2.kept (t' := s1.toks + 1 + 1) fun b o e => Heap.get?_push_of_some _ e⟩
    have e1 : (0 : Int) + ((0 : Nat) : Int) * 1 = 0 := by simp
    have e2 : ((j.toNat : Nat) : Int) - ((0 : Nat) : Int) = Builtin.Range.rangeSize 0 j 1 := by rw [rangeSize_one]; split <;> omega
    rw [e1, e2]
    exact Heap.get?_push_size _ rfl

/-- what a call of path gives: a generator that has not begun; what its first wake comes to, from any state that has all that stood there -/
structure PMade (P : Program) (w : World) (k : Nat) (outer : List Env) (H : Hp) (sC : Shared) (N : Nat) (size code : Int) (a : Addr) (g : Nat) (c : Code) (env : Env) (s' : Shared) : Prop where
  T : PEnv env
  nG : env.locals ≠ mainGlobals
  young : sC.heap.objs.size ≤ env.locals
  La : env.locals < a
  aE : a + 1 = s'.heap.objs.size
  gen : s'.heap.IsGen a g
  fresh : s'.gens[g]? = some (.fresh c)
  os : s'.os = sC.os
  bare : AllBare s'.gens
  lim : s'.heap.NoLimit
  keep : ∀ b o, sC.heap.get? b = some o → s'.heap.get? b = some o
  wake : ∀ (A : Around) (s2 : Shared) (xs : List (Addr × Obj)), Room k A → A.frames = some outer → (∀ b o, s'.heap.get? b = some o → s2.heap.get? b = some o) → s2.os = sC.os → AllBare s2.gens → (∀ p ∈ xs, s2.heap.get? p.1 = some p.2 ∧ a < p.1 ∧ ∀ v, p.2.data ≠ .cell v) →
     SegG (model P w) A (FstP P w A env N size code (a :: xs.map (·.1)) (fun s3 => s3.os = sC.os ∧ AllBare s3.gens ∧ Un (frs outer) [] H H sC.heap s3.heap ∧ HOk P w H s3.heap ∧ s3.heap.IsGen a g ∧ s3.heap.NoLimit ∧ ∀ p ∈ xs, s3.heap.get? p.1 = some p.2)) c ((model P w).den c) [] s2
def E00 : XK := fun _ _ _ => False
section
variable {P : Program} {w : World} {K : PySem.W.Frag} {mg : Str → Option Value} {base : Heap}
/-- path's names -/
abbrev pN : List Str := ["code", "size", "many", "slot", "push", "_"]
abbrev pP : List Str := ["code", "size", "many"]
structure PSc (sc : Scope) : Prop where
  S : GScope pN pP sc
  co : sc.isCoroutine = false
  slot : sc.names.lookup ("slot" : Str) = some NameKind.local
  push : sc.names.lookup ("push" : Str) = some NameKind.local
  size : sc.names.lookup ("size" : Str) = some NameKind.local
  many : sc.names.lookup ("many" : Str) = some NameKind.local
  low : sc.names.lookup ("_" : Str) = some NameKind.local
  share : sc.names.lookup ("PUSH_SHARE" : Str) = some NameKind.globalImplicit
  range : sc.names.lookup ("range" : Str) = some NameKind.globalImplicit
theorem PSc.env {sc : Scope} (S : PSc sc) {q : Str} {L f : Addr} {cd : Value} : PEnv (envOfC q sc L f cd) := ⟨S.S.kind, S.co, rfl, S.slot, S.push, S.size, S.low, S.share⟩
theorem path_call {k : Nat} {f : Addr} {name qual : Str} {params : Arguments} {l5 : List Stmt} {scope : Scope} {dV kV doc pm cdv ct oc : Value} {an od : Option Addr} {osl : Array (Option Value)} {tsh : Tok}
    {pt pr pmm pcl pf p0 p0' p0'' p1 p2 p3 p4 p5 q1 q2 q3 q4 q5 q6 q7 q8 q9 q10 q11 : Pos} {k1 k2 : Nat} {size code many : Int}
    (lk : K.lookup f = some ⟨oc, od, .func (PySem.W.fnOf name qual params (l5 ++ [.For (.Name "_" pt) (.Call (.Name "range" pr) [.Name "many" pmm] [] pcl) (loopBody p0 p0' p0'' p1 p2 p3 p4 p5 q1 q2 q3 q4 q5 q6 q7 q8 q9 q10 q11 k1 k2) [] pf]) scope dV kV doc pm an cdv ct), osl⟩)
    (hcd : PySem.W.codeIn K cdv qual = true) (S : PSc scope) (msh : mg "PUSH_SHARE" = some (.int 32 tsh)) (mra : mg "range" = none) (hm0 : 0 ≤ many) (hm1 : many < 2 ^ 62) (hz : size ≠ 0)
    (h5 : ∀ (A : Around) (outer : List Env) (s : Shared) (H : Hp) (pn : List (Addr × Obj)), Room k (A.deeper (envOfC qual scope s.heap.objs.size f cdv)) →
      ∃ t, PSs (gcxOf P w K mg base pN qual scope f cdv A outer s H E00 pn) l5 t ∧ t { nx := fun σ' H' => σ' = [some (.int code), some (.int size), some (.int many), some (.int (code.fmod size)), some (.int code), none] ∧ H' = H, rt := fun _ _ => False } (start pN [.int code, .int size, .int many]) H)
    {A : Around} {outer : List Env} {s : Shared} {H : Hp} {args : Args} {us : List Value} (hr : Room (k + 1) A) (e0 : Env0 P w K mg base A outer s H)
    (hb : BindsTo s (PySem.W.fnOf name qual params (l5 ++ [.For (.Name "_" pt) (.Call (.Name "range" pr) [.Name "many" pmm] [] pcl) (loopBody p0 p0' p0'' p1 p2 p3 p4 p5 q1 q2 q3 q4 q5 q6 q7 q8 q9 q10 q11 k1 k2) [] pf]) scope dV kV doc pm an cdv ct) args (pP.zip us))
    (r : Vals [.int code, .int size, .int many] us) :
    codeAny (model P w) A (.call (.ref f) args) (fun r s' => match r with | .ok (.ret u) => ∃ a g c env, u = .ref a ∧ PMade P w (k + 1) outer H s many.toNat size code a g c env s' | _ => False) s := by
  have hl : [V.int code, .int size, .int many].length = pP.length := rfl
  have KX : K.In s.heap := e0.mod.kin.keeps fun b o e => (e0.bs b o e).1
  have lim : s.heap.NoLimit := e0.mod.nolimit.keeps fun b o e => (e0.bs b o e).1
  have hkind : ∀ y ∈ pP.zip us, scope.names.lookup y.1 = some .local ∨ (scope.names.lookup y.1 = some .cell ∧ ((cellsFrom (s.heap.objs.size + 1) scope.names []).lookup y.1).isSome = true) := fun ⟨n, v⟩ hy => by
    rcases S.S.par n (List.of_mem_zip hy).1 with q | q
    · exact .inl q
    · exact .inr ⟨q, PySem.W.cellsFrom_some _ _ _ (.inl q)⟩
  refine codeAny_call_generator hr.depth (KX _ _ lk) rfl S.S.co S.S.gen rfl (PySem.W.codeRec_of KX hcd) (hb _ _ _ _ ?_)
  refine wpAny_newFunctionEnv_cells S.S.kind hkind fun env he s1 x => ?_
  subst he
  have lim1 : s1.heap.NoLimit := lim.keeps x.toInCall.keep
  refine ⟨lim1, ?_⟩
  obtain ⟨h1, tk, es1, hk1⟩ := x.done
  have os1 : s1.os = s.os := by rw [es1]
  have gen1 : s1.gens = s.gens := by rw [es1]
  have lt1 : s.heap.objs.size < s1.heap.objs.size := x.toInCall.ns.lt
  have sz1 : s.heap.objs.size ≤ s1.heap.objs.size := Nat.le_of_lt lt1
  have kp1 : ∀ b o, s.heap.get? b = some o → s1.heap.get? b = some o := x.toInCall.keep
  have main : ∀ (go : Obj) (nm' qn : Value) (tk2 : Nat), go.cls = .type "generator" → go.data = .fields #[.int s1.gens.size 0, nm', qn] → go.slots = #[] → (∀ h : Heap, (h.push go).get? h.objs.size = some go) →
      PMade P w (k + 1) outer H s many.toNat size code s1.heap.objs.size s1.gens.size (.func (l5 ++ [.For (.Name "_" pt) (.Call (.Name "range" pr) [.Name "many" pmm] [] pcl) (loopBody p0 p0' p0'' p1 p2 p3 p4 p5 q1 q2 q3 q4 q5 q6 q7 q8 q9 q10 q11 k1 k2) [] pf]) (envOfC qual scope s.heap.objs.size f cdv)) (envOfC qual scope s.heap.objs.size f cdv)
        { s1 with gens := s1.gens.push (.fresh (.func (l5 ++ [.For (.Name "_" pt) (.Call (.Name "range" pr) [.Name "many" pmm] [] pcl) (loopBody p0 p0' p0'' p1 p2 p3 p4 p5 q1 q2 q3 q4 q5 q6 q7 q8 q9 q10 q11 k1 k2) [] pf]) (envOfC qual scope s.heap.objs.size f cdv))), toks := tk2, heap := s1.heap.push go } := by
    intro go nm' qn tk2 hgc hgd0 hgs hgp
    have hgen : ∀ h : Heap, h.get? s1.heap.objs.size = some go → h.IsGen s1.heap.objs.size s1.gens.size := fun h e => ⟨go, nm', qn, e, hgc, hgd0, hgs⟩
    have hpushed : (s1.heap.push go).get? s1.heap.objs.size = some go := hgp _
    have hG : mainGlobals < s.heap.objs.size := by
      obtain ⟨o, es, ep, ho, _⟩ := e0.mod.glob
      exact Heap.lt_size (e0.bs _ o ho).1
    have T : PEnv (envOfC qual scope s.heap.objs.size f cdv) := S.env
    have hint : interactive (envOfC qual scope s.heap.objs.size f cdv) = false := by
      unfold interactive
      rw [show (envOfC qual scope s.heap.objs.size f cdv).scope.kind = .function from S.S.kind]
      rfl
    have nG : (envOfC qual scope s.heap.objs.size f cdv).locals ≠ mainGlobals := Nat.ne_of_gt hG
    refine ⟨T, nG, Nat.le_refl _, lt1, ?_, hgen _ hpushed, Array.getElem?_push_size .., os1, ?_, lim1.keeps fun b o e => Heap.get?_push_of_some _ e, fun b o e => Heap.get?_push_of_some _ (kp1 b o e), ?_⟩
    · show _ = (s1.heap.push _).objs.size
      rw [Heap.size_push]
    · exact AllBare.push (by rw [gen1]; exact e0.bare) rfl
    intro Aw s2 xs hrw hfr hk2 hos hba hxs
    have e0w : Env0 P w K mg base Aw outer s H := ⟨hfr, e0.mod, e0.bs, e0.bsz, e0.funs, e0.frf, e0.hok, e0.bare⟩
    obtain ⟨t, ht, hq⟩ := h5 Aw outer s H [(s1.heap.objs.size, go)] (hrw.deeper _)
    have I1 : Inv (gcxOf P w K mg base pN qual scope f cdv Aw outer s H E00 []) [] (start pN [.int code, .int size, .int many]) H s1 := inv_startG S.S hrw.hd e0w hl r x
    have kp2 : ∀ b o, s1.heap.get? b = some o → s2.heap.get? b = some o := fun b o e => hk2 b o (Heap.get?_push_of_some _ e)
    have I2 : Inv (gcxOf P w K mg base pN qual scope f cdv Aw outer s H E00 []) [] (start pN [.int code, .int size, .int many]) H s2 :=
      I1.call' (ch := []) (hos.trans os1.symm) (Un.kept kp2) (I1.hok.kept kp2) hba fun b z => by simp at z
    have hea : s2.heap.get? s1.heap.objs.size = some go := hk2 s1.heap.objs.size go hpushed
    have hgd : ∀ v, go.data ≠ .cell v := fun v q => by rw [hgd0] at q; cases q
    have I3 : Inv (gcxOf P w K mg base pN qual scope f cdv Aw outer s H E00 [(s1.heap.objs.size, go)]) xs (start pN [.int code, .int size, .int many]) H s2 := Inv.pinnedG I2 fun p hp => by
      rcases List.mem_append.mp hp with z | z
      · rw [List.mem_singleton.mp z]
        exact ⟨hea, I1.hok.fresh (Nat.le_refl _), Nat.ne_of_gt lt1, I1.nofs (Nat.le_refl _), hgd⟩
      · obtain ⟨x1, x2, x3⟩ := hxs p z
        exact ⟨x1, I1.hok.fresh (Nat.le_of_lt x2), Nat.ne_of_gt (Nat.lt_trans lt1 x2), I1.nofs (Nat.le_of_lt x2), x3⟩
    -- the state's own word
    have word : ∀ {σ' : L2.St} {s3 : Shared}, Inv (gcxOf P w K mg base pN qual scope f cdv Aw outer s H E00 [(s1.heap.objs.size, go)]) xs σ' H s3 →
        (s3.os = s.os ∧ AllBare s3.gens ∧ Un (frs outer) [] H H s.heap s3.heap ∧ HOk P w H s3.heap ∧ s3.heap.IsGen s1.heap.objs.size s1.gens.size ∧ s3.heap.NoLimit ∧ ∀ p ∈ xs, s3.heap.get? p.1 = some p.2) := fun {σ' s3} J =>
      ⟨J.os, J.bare, J.base, J.hok, hgen _ (J.pin (s1.heap.objs.size, go) (List.mem_append_left _ (List.mem_singleton.mpr rfl))).1, J.nolimit, fun p hp => (J.pin p (List.mem_append_right _ hp)).1⟩
    have fall : ∀ (e : Value) (s' : Shared), (gcxOf P w K mg base pN qual scope f cdv Aw outer s H E00 [(s1.heap.objs.size, go)]).xe e s' → ∀ Φ : End → Shared → Prop, SegG (model P w) Aw Φ (.func (l5 ++ [.For (.Name "_" pt) (.Call (.Name "range" pr) [.Name "many" pmm] [] pcl) (loopBody p0 p0' p0'' p1 p2 p3 p4 p5 q1 q2 q3 q4 q5 q6 q7 q8 q9 q10 q11 k1 k2) [] pf]) (envOfC qual scope s.heap.objs.size f cdv))
        (Sem.wrap (fun _ => .raise e) .raise id id (leaving (envOfC qual scope s.heap.objs.size f cdv) e)) [] s' := fun e s' hx Φ => by
      refine sg_wrap ?_
      rw [over_func]
      refine wpAny_mono (show wpAny (model P w) (Aw.deeper (envOfC qual scope s.heap.objs.size f cdv)) (leaving (envOfC qual scope s.heap.objs.size f cdv) e) (fun _ s'' => CX P w outer H s E00 e s'' ∧ ∀ p ∈ [(s1.heap.objs.size, go)], s''.heap.get? p.1 = some p.2) (fun _ _ => False) s' from hx) (fun _ s'' q => ?_) fun _ s'' q => q.elim
      obtain ⟨⟨_, _, _, _, _, _, _, _, _, _, _, _, z⟩, _⟩ := q
      exact z.elim
    refine sg_func (sg_app (sg_wrap ?_))
    rw [over_func]
    refine wpAny_mono (ht.run xs s2 _ H _ I3 hq) (fun fl s3 hs => ?_) fun e s' hx => fall e s' hx _
    cases fl with
    | brk => obtain ⟨_, _, _, q⟩ := hs; exact False.elim q
    | cont => obtain ⟨_, _, _, q⟩ := hs; exact False.elim q
    | ret u => obtain ⟨_, _, _, _, _, q⟩ := hs; exact False.elim q
    | next =>
      obtain ⟨σ3, H3, J3, e3, e4⟩ := hs
      subst e3
      subst e4
      refine sg_execs_cons (sg_For (fun _ => rfl) ?_)
      rw [over_func]
      have hvis : Vis scope ("many" : Str) := .inl S.many
      refine wpAny_mono (run_range (j := many) (pm := pmm) (p := pr) (pos := pcl) J3 S.range mra rfl hvis rfl hm0 hm1) (fun v s4 h4 => wpAny_mono h4 (fun itv s5 h5' => ?_) fun e s' hx => fall e s' hx _) fun e s' hx => fall e s' hx _
      obtain ⟨it, rfl, hLit, hpit, hrg, J5⟩ := h5'
      have hLit' : s.heap.objs.size < it := hLit
      have hait : s1.heap.objs.size < it := hpit (s1.heap.objs.size, go) (List.mem_append_left _ (List.mem_singleton.mpr rfl))
      have hlows : ∀ b ∈ s1.heap.objs.size :: xs.map (·.1), b < it := fun b hb => by
        rcases List.mem_cons.mp hb with z | z
        · rw [z]; exact hait
        · obtain ⟨p, hp, rfl⟩ := List.mem_map.mp z
          exact hpit p (List.mem_append_right _ hp)
      have hit0 : it ≠ (envOfC qual scope s.heap.objs.size f cdv).locals := Nat.ne_of_gt hLit'
      have hitG : it ≠ mainGlobals := Nat.ne_of_gt (Nat.lt_trans hG hLit')
      have fm5 : Fm (envOfC qual scope s.heap.objs.size f cdv) s5.heap size (code.fmod size) code := by
        obtain ⟨m, hn, hl5⟩ := J5.loc
        have get : ∀ (i : Nat) (x : Str) (n : Int), pN[i]? = some x → scope.names.lookup x = some NameKind.local → ([some (.int code), some (.int size), some (.int many), some (.int (code.fmod size)), some (.int code), none] : L2.St)[i]? = some (some (.int n)) → ∃ t, m x = some (.int n t) := fun i x n h1 h2 h3 => by
          obtain ⟨u, ru, lu⟩ := hl5 i x _ h1 h3 (.inl h2)
          obtain ⟨t, rfl⟩ := ru
          rcases lu with ⟨_, hm⟩ | ⟨hk, _⟩
          · exact ⟨t, hm⟩
          · have hk' : scope.names.lookup x = some .cell ∨ scope.names.lookup x = some .free := hk
            rw [h2] at hk'
            rcases hk' with z | z <;> cases z
        exact ⟨⟨m, hn, get 3 _ _ rfl S.slot rfl, get 4 _ _ rfl S.push rfl, get 1 _ _ rfl S.size rfl⟩, ⟨mg, J5.mod.glob.keeps J5.bk, tsh, msh⟩⟩
      intro pp
      have ltL : ∀ b o, s.heap.get? b = some o → b ≠ s.heap.objs.size ∧ b ≠ it := fun b o e => ⟨Nat.ne_of_lt (Heap.lt_size e), Nat.ne_of_lt (Nat.lt_trans (Heap.lt_size e) hLit')⟩
      refine path_first T hint nG hit0 hitG hz hlows (fun sa sb hja hm => ?_) rfl ?_ (fun sa hN hja => ?_) (fun s₀ sa hja => ?_) ⟨fm5, hrg⟩ (word J5)
      · obtain ⟨h', tk', rfl, hk⟩ := hm
        obtain ⟨a1, a2, a3, a4, a5, a6, a7⟩ := hja
        have hLn : H3 s.heap.objs.size = none := e0.hok.fresh (Nat.le_refl _)
        have hIn : H3 it = none := e0.hok.fresh (Nat.le_of_lt hLit')
        have nt : ∀ b u, H3 b = some u → b ≠ s.heap.objs.size ∧ b ≠ it := fun b u e => ⟨ne_of_none e hLn, ne_of_none e hIn⟩
        have hcS : cStatics < s.heap.objs.size := let ⟨_, hn, _⟩ := lim; hn.lt
        refine ⟨a1, a2, ⟨fun b o e n hb hx => ?_, fun b o e n hb hx => ?_, a3.free, fun b o e hx => ?_, a3.tups, a3.frzs, a3.tbls⟩, fun b u e => ?_, ?_, ?_, fun p hp => hk p.1 p.2 (Nat.ne_of_gt (Nat.lt_trans lt1 (hxs p hp).2.1)) (Nat.ne_of_lt (hlows p.1 (List.mem_cons_of_mem _ (List.mem_map.mpr ⟨p, hp, rfl⟩)))) (a7 p hp)⟩
        · exact hk b o (ltL b o e).1 (ltL b o e).2 (a3.keep b o e n hb hx)
        · obtain ⟨sl', e'⟩ := a3.slot b o e n hb hx
          exact ⟨sl', hk b _ (ltL b o e).1 (ltL b o e).2 e'⟩
        · obtain ⟨o', e'⟩ := a3.there b o e hx
          exact ⟨o', hk b _ (ltL b o e).1 (ltL b o e).2 e'⟩
        · refine (a4 b u e).stay (fun c v hc q => ?_) (fun _ z => z) fun _ _ z => z
          rcases hc with hc | hc
          · rw [hc] at q ⊢
            exact hk b v (nt b u e).1 (nt b u e).2 q
          · exact hk c v (nt c _ hc).1 (nt c _ hc).2 q
        · obtain ⟨o, n1, n2, ho, z⟩ := a5
          exact ⟨o, n1, n2, hk _ o (Nat.ne_of_gt lt1) (Nat.ne_of_lt hait) ho, z⟩
        · obtain ⟨mc, hns, hnn⟩ := a6
          exact ⟨mc, hns.at' fun o e => hk _ o (Nat.ne_of_lt hcS) (Nat.ne_of_lt (Nat.lt_trans hcS hLit')) e, hnn⟩
      · exact hrw.hd
      · exact sg_end (.ok (.ret .none)) ⟨rfl, hN, hja⟩
      · exact seg_end (.ok (.ret .none)) ⟨rfl, rfl, hja⟩
  exact ⟨_, _, _, _, rfl, main _ _ _ _ rfl rfl rfl fun h => Heap.get?_push_size _ rfl⟩
end
end Pth
set_option Elab.async false
set_option linter.all false
set_option maxRecDepth 100000
set_option maxHeartbeats 1000000
/-! Pf: a for over path(..), its body by a judgement; list(path(..)) -/
namespace Pth
open PySem PySem.Spec PyProof.Rows L2 GenW
open Sem (wp)
section
variable {M : Model}
theorem resume_first {A : Around} {Φ : End → Shared → Prop} {E : Value → Shared → Prop} {s : Shared} {g : Nat} {c : Code} {l : List Value} {α : Type} {k : GenResult → Sem α} {Q : α → Shared → Prop} (hg : s.gens[g]? = some (.fresh c))
    (hgo : SegG M A Φ c (M.den c) [] (s.setGen g .running))
    (hR : ∀ e s₁, Φ e s₁ → e.quiet = true ∧ wpAny M A (k e.result) Q E (s₁.setGen g e.genState)) : wpAny M A (.resume g (.send .none) l k) Q E s := by
  intro Γ p hΓ
  rw [Sem.wp_resume]
  obtain ⟨e₁, s₁, hr, he⟩ := hgo (Γ.wake c p) p rfl (hΓ.wake c p)
  obtain ⟨hq, hw⟩ := hR e₁ s₁ he
  exact ⟨_, _, by unfold Wakes; rw [hg]; exact ⟨e₁, s₁, hr, hq, rfl, rfl⟩, hw Γ p hΓ⟩
theorem resume_later {A : Around} {R : GenEnd} {Y : Protocol} {n : Nat} {E : Value → Shared → Prop} {s : Shared} {g : Nat} {k₀ : Resume → Sem PySem.Fin} {l₀ : List Value} {c₀ : Code} {p₀ : Pos} {fs₀ : List Frame} {cl₀ : Bool} {r : Resume} {l : List Value} {α : Type} {k : GenResult → Sem α} {Q : α → Shared → Prop}
    (hg : s.gens[g]? = some (.suspended k₀ l₀ c₀ p₀ fs₀ cl₀))
    (hgo : Seg M A R Y n (s.setGen g .running) c₀ (k₀ r) fs₀ (s.setGen g .running))
    (hR : ∀ e s₁, SegEnd R Y n (Seg.next M A R Y n) (s.setGen g .running) e s₁ → e.quiet = true ∧ wpAny M A (k e.result) Q E (s₁.setGen g e.genState)) : wpAny M A (.resume g r l k) Q E s := by
  intro Γ p hΓ
  rw [Sem.wp_resume]
  obtain ⟨e₁, s₁, hr, he⟩ := seg_iff.mp hgo (Γ.wake c₀ p) p₀ rfl (hΓ.wake c₀ p)
  obtain ⟨hq, hw⟩ := hR e₁ s₁ he
  exact ⟨_, _, by unfold Wakes; rw [hg]; exact ⟨e₁, s₁, hr, hq, rfl, rfl⟩, hw Γ p hΓ⟩
end
section
variable {P : Program} {w : World} {A : Around} {E : Value → Shared → Prop} {s : Shared}
theorem next_first {a : Addr} {g : Nat} {c : Code} {Φ : End → Shared → Prop} {Q : Option Value → Shared → Prop} (hh : A.handled = none) (hl : s.heap.NoLimit) (hroom : A.depth < recursionLimit) (hg : s.heap.IsGen a g) (hgs : s.gens[g]? = some (.fresh c))
    (hgo : SegG (model P w) A.in1 Φ c ((model P w).den c) [] (s.setGen g .running))
    (hR : ∀ e s₁, Φ e s₁ → (e = .ret (.ok (.ret .none)) ∧ ∀ h', (∀ b o, s₁.heap.get? b = some o → h'.get? b = some o) → Q none { s₁.setGen g .finished with heap := h' }) ∨
      ∃ v gd l k c' p' fs, e = .susp v gd l k c' p' fs ∧ e.quiet = true ∧ Q (some v) (s₁.setGen g e.genState)) :
    wpAny (model P w) A (pyNext (.ref a)) Q E s := by
  unfold pyNext
  refine wpAny_bind (wpAny_attempt (wpAny_callSpecial?_slot (name := Str.ofString "__next__") hg.typeIs slot_gen_next
    (wpAny_call_entry slot_gen_next hg.typeIs entry_gen_next ?_ (args_gen_next _))))
  show wpAny _ A.in1 (Builtin.Generator.genWake (.ref a) (.send .none)) _ _ s
  unfold Builtin.Generator.genWake
  refine wpAny_bind (wpAny_holding (wpAny_genNumber hg (wpAny_bind (wpAny_genState hgs ?_))))
  refine wpAny_bind (wpAny_roomToWake hl hroom ?_)
  show wpAny _ A.in1 (.resume g (.send .none) [] _) _ _ s
  refine resume_first hgs hgo fun e s₁ he => ?_
  rcases hR e s₁ he with ⟨rfl, h⟩ | ⟨v, gd, l, k, c', p', fs, rfl, hq, h⟩
  · refine ⟨rfl, ?_⟩
    show wpAny _ A.in1 (newExc (.type "StopIteration") [] >>= _) _ _ _
    refine wpAny_bind ?_
    simp only [newExc, newTuple]
    refine wpAny_bind (wpAny_newObj_type ?_ (by size_fits))
    refine wpAny_bind (m := firstArgMember _ _) (wpAny_of_eq (a := Value.none) (by first | rfl | (simp only [firstArgMember]; rfl)) ?_)
    refine wpAny_newObj_type ?_ (by size_fits)
    simp only [raiseNew]
    refine wpAny_bind (wpAny_bind (wpAny_handled ?_))
    first | rw [show A.in1.handled = none from hh] | rw [hh]
    refine wpAny_throw ?_
    refine wpAny_bind (wpAny_isInstance (T := "StopIteration") (b := true) ⟨_, Heap.get?_push_size _ rfl, rfl⟩ isSubtype_stop ?_)
    exact wpAny_pure (h _ fun b o hb => Heap.get?_push_of_some _ (Heap.get?_push_of_some _ hb))
  · exact ⟨hq, wpAny_pure ⟨v, rfl, wpAny_pure h⟩⟩
theorem next_later {a : Addr} {g n : Nat} {R : GenEnd} {Y : Protocol} {k₀ : Resume → Sem PySem.Fin} {l₀ : List Value} {c₀ : Code} {p₀ : Pos} {fs₀ : List Frame} {cl₀ : Bool} {Q : Option Value → Shared → Prop} (hh : A.handled = none) (hl : s.heap.NoLimit) (hroom : A.depth < recursionLimit) (hg : s.heap.IsGen a g)
    (hgs : s.gens[g]? = some (.suspended k₀ l₀ c₀ p₀ fs₀ cl₀))
    (hgo : Seg (model P w) A.in1 R Y n (s.setGen g .running) c₀ (k₀ (.send .none)) fs₀ (s.setGen g .running))
    (hR : ∀ r s₁, R n (s.setGen g .running) r s₁ → r = .ok (.ret .none) ∧ ∀ h', (∀ b o, s₁.heap.get? b = some o → h'.get? b = some o) → Q none { s₁.setGen g .finished with heap := h' })
    (hY : ∀ v gd l k c' p' fs s₁, (End.susp v gd l k c' p' fs).quiet = true → Y (n - 1) (s.setGen g .running) v s₁ (fun r s'' => Seg.next (model P w) A.in1 R Y n c' (k r) fs s'') → Q (some v) (s₁.setGen g (End.susp v gd l k c' p' fs).genState)) :
    wpAny (model P w) A (pyNext (.ref a)) Q E s := by
  unfold pyNext
  refine wpAny_bind (wpAny_attempt (wpAny_callSpecial?_slot (name := Str.ofString "__next__") hg.typeIs slot_gen_next
    (wpAny_call_entry slot_gen_next hg.typeIs entry_gen_next ?_ (args_gen_next _))))
  show wpAny _ A.in1 (Builtin.Generator.genWake (.ref a) (.send .none)) _ _ s
  unfold Builtin.Generator.genWake
  refine wpAny_bind (wpAny_holding (wpAny_genNumber hg (wpAny_bind (wpAny_genState hgs ?_))))
  refine wpAny_bind (wpAny_roomToWake hl hroom ?_)
  show wpAny _ A.in1 (.resume g (.send .none) [] _) _ _ s
  refine resume_later hgs hgo fun e s₁ he => ?_
  cases e with
  | ret r =>
    obtain ⟨rfl, h⟩ := hR r s₁ he
    refine ⟨rfl, ?_⟩
    show wpAny _ A.in1 (newExc (.type "StopIteration") [] >>= _) _ _ _
    refine wpAny_bind ?_
    simp only [newExc, newTuple]
    refine wpAny_bind (wpAny_newObj_type ?_ (by size_fits))
    refine wpAny_bind (m := firstArgMember _ _) (wpAny_of_eq (a := Value.none) (by first | rfl | (simp only [firstArgMember]; rfl)) ?_)
    refine wpAny_newObj_type ?_ (by size_fits)
    simp only [raiseNew]
    refine wpAny_bind (wpAny_bind (wpAny_handled ?_))
    first | rw [show A.in1.handled = none from hh] | rw [hh]
    refine wpAny_throw ?_
    refine wpAny_bind (wpAny_isInstance (T := "StopIteration") (b := true) ⟨_, Heap.get?_push_size _ rfl, rfl⟩ isSubtype_stop ?_)
    exact wpAny_pure (h _ fun b o hb => Heap.get?_push_of_some _ (Heap.get?_push_of_some _ hb))
  | susp v gd l k c' p' fs =>
    obtain ⟨hq, h⟩ := he
    exact ⟨hq, wpAny_pure ⟨v, rfl, wpAny_pure (hY v gd l k c' p' fs s₁ hq h)⟩⟩
end

/-! ### the consumer -/
/-- what path takes -/
def POk (code size many : Int) : Prop := 0 ≤ code ∧ code < 4294967296 ∧ size ∈ ([8, 16, 32, 64, 128, 256, 512, 1024, 2048, 4096] : List Int) ∧ 0 ≤ many ∧ many < 2 ^ 62
/-- path, called -/
def PathDef (P : Program) (w : World) (K : PySem.W.Frag) (mg : Str → Option Value) (base : Heap) (k : Nat) (f : Addr) (fd : FuncData) : Prop :=
  ∀ {code size many : Int}, POk code size many → ∀ {A : Around} {outer : List Env} {s : Shared} {H : Hp} {args : Args} {us : List Value}, Room k A → Env0 P w K mg base A outer s H → BindsTo s fd args (pP.zip us) → Vals [.int code, .int size, .int many] us →
    codeAny (model P w) A (.call (.ref f) args) (fun r s' => match r with | .ok (.ret u) => ∃ a g c env, u = .ref a ∧ PMade P w k outer H s many.toNat size code a g c env s' | _ => False) s
section
variable {X : Cx} {pins : List (Addr × Obj)} {σ : L2.St} {H : Hp} {s : Shared}
/-- with other generators -/
theorem Inv.withG (I : Inv X pins σ H s) {G : Array GenState} (h : AllBare G) : Inv X pins σ H (Fk.gw s G) := ⟨I.ok, I.os, h, I.base, I.loc, I.cell, I.free, I.freeC, I.pin, I.hok, I.len⟩
/-- where the generator at a stands, i slots out, asleep -/
structure Asleep (X : Cx) (B : Around) (env : Env) (a : Addr) (g : Nat) (N : Nat) (size code : Int) (low : Nat) (i : Nat) (it : Addr) (H : Hp) (s : Shared) : Prop where
  lowIt : low ≤ it
  gen : s.heap.IsGen a g
  st : LSy env it N size code (i - 1) s.heap
  nT : ∀ b ∈ [a, env.locals, it], H b = none
  at_ : ∃ k l c p fs cl, s.gens[g]? = some (.suspended k l c p fs cl) ∧ cl = false ∧ ∀ s'', Slp env it s s'' → Seg (model X.prog X.w) B (RP (fun _ _ => True) env.locals it N) (YP (fun _ _ => True) env it N size code) (N - i) s'' c (k (.send .none)) fs s''
/-- at the loop's head, i slots out -/
inductive Head (X : Cx) (B : Around) (s0 : Shared) (σ0 : L2.St) (H0 : Hp) (env : Env) (a : Addr) (g : Nat) (N : Nat) (size code : Int) (low : Nat) : Nat → L2.St → Hp → Shared → Prop
  | begin : Head X B s0 σ0 H0 env a g N size code low 0 σ0 H0 s0
  | amid {i : Nat} {it : Addr} {σ : L2.St} {H : Hp} {s : Shared} : 0 < i → Asleep X B env a g N size code low i it H s → Head X B s0 σ0 H0 env a g N size code low i σ H s
/-- the slots, as they come: Pv i holds ahead of the turn i -/
def tForP (i : Nat) (ta : TA) (tb : TS) : TS := fun D σ H => ta σ H fun vs H1 => ∃ code size many : Int, vs = [.int code, .int size, .int many] ∧ POk code size many ∧ ∃ Pv : Nat → L2.St → Hp → Prop, Pv 0 σ H1 ∧
  (∀ n σ' H', n < many.toNat → Pv n σ' H' → tb { D with nx := Pv (n + 1), ct := Pv (n + 1), bk := D.nx } (σ'.set i (some (.int (sl size code n)))) H') ∧ ∀ σ' H', Pv many.toNat σ' H' → D.nx σ' H'

/-- the generator's own things have turned -/
theorem inv_mv {L it : Addr} {s' : Shared} (I : Inv X pins σ H s) (m : Mv L it s s') (f1 : FpOk X pins H L) (f2 : FpOk X pins H it) : Inv X pins σ H s' := by
  obtain ⟨h', tk, rfl, k⟩ := m
  obtain ⟨a0, a1, a2, a3, a4, a5⟩ := f1
  obtain ⟨b0, b1, b2, b3, b4, b5⟩ := f2
  have ne : ∀ b, b ∉ [L, it] → b ≠ L ∧ b ≠ it := fun b hb => ⟨fun z => hb (by rw [z]; simp), fun z => hb (by rw [z]; simp)⟩
  have nt : ∀ b u, H b = some u → b ≠ L ∧ b ≠ it := fun b u e => ⟨ne_of_none e a0, ne_of_none e b0⟩
  refine I.step (g' := s.gens) (d' := s.drawn) (ch := [L, it]) (fun b hb => ?_) (fun b o _ _ hc e _ => k b o (ne b hc).1 (ne b hc).2 e) (fun b o _ _ hc e _ => ⟨o.slots, k b o (ne b hc).1 (ne b hc).2 e⟩) (fun _ _ _ _ n => n)
    (fun b o hc e => ⟨o, k b o (ne b hc).1 (ne b hc).2 e⟩) (fun _ _ e => e) (fun _ _ _ e => e) (fun b ps e => ⟨#[], by rw [e]; simp⟩) (fun m hm => ?_) (fun b u e => ?_) I.bare
  · rcases List.mem_cons.mp hb with e | hb
    · rw [e]; exact ⟨a3, a1, a4, a5⟩
    · rw [List.mem_singleton.mp hb]; exact ⟨b3, b1, b4, b5⟩
  · obtain ⟨o, es, ep, ho, r⟩ := hm
    exact ⟨o, es, ep, k _ o (Ne.symm a1) (Ne.symm b1) ho, r⟩
  · refine (I.hok b u e).stay (fun c v hc q => ?_) (fun _ q => q) fun _ _ q => q
    rcases hc with z | z
    · rw [z] at q ⊢
      exact k b v (nt b u e).1 (nt b u e).2 q
    · exact k c v (nt c _ z).1 (nt c _ z).2 q
theorem turn_body {B : Around} {env : Env} {a g : Nat} {N : Nat} {size code : Int} {low : Nat} {i ix : Nat} {it : Addr} {x : Str} {px : Pos} {body : List Stmt} {tb : TS} {D : Ends} {N' : L2.St → Hp → Prop} {v : V} {u : Value} {E : Value → Shared → Prop}
    (I : Inv X pins σ H s) (hA : Asleep X B env a g N size code low i it H s) (yg : ∀ b ∈ [a, env.locals, it], ∀ H' : Hp, H' b = none → FpOk X pins H' b) (hN : X.N.Nodup) (hi : X.N[ix]? = some x) (hx : Loc X.env.scope x) (hf : X.fn x = true ∨ X.env.scope.names.lookup x = some .local)
    (hbd : PSs X.nox body tb) (rv : RelV v u) (ht : tb { D with nx := N', ct := N', bk := D.nx } (σ.set ix (some v)) H) :
    wpAny (model X.prog X.w) X.A (assign (.Name x px) X.env u) (fun _ s6 => wpAny (model X.prog X.w) X.A (execs body X.env) (fun f s7 => match f with
      | .next | .cont => ∃ σ7 H7, Inv X pins σ7 H7 s7 ∧ N' σ7 H7 ∧ Asleep X B env a g N size code low i it H7 s7
      | .brk => ∃ σ7 H7, Inv X pins σ7 H7 s7 ∧ D.nx σ7 H7
      | .ret u => ∃ v σ7 H7, Inv X pins σ7 H7 s7 ∧ RelV v u ∧ D.rt v H7) E s6) E s := by
  obtain ⟨hlow, hgen, hst, hnT, ⟨k, l, c, p, fs, cl, hgs, hcl, hsl⟩⟩ := hA
  have R := Fk.rel_faked s.gens
  have bF : AllBare (Fk.faked s.gens) := Fk.bare_faked I.bare
  have I5 : Inv X pins σ H (Fk.gw s (Fk.faked s.gens)) := Inv.withG I bF
  obtain ⟨mm, hmm, _⟩ := hst.fm.ns
  have hob : ∀ b ∈ [a, env.locals, it], ∃ o, s.heap.get? b = some o ∧ ∀ v, o.data ≠ .cell v := fun b hb => by
    rcases List.mem_cons.mp hb with e | hb
    · rw [e]
      obtain ⟨o, n1, n2, ho, _, hd, _⟩ := hgen
      exact ⟨o, ho, fun v z => by rw [hd] at z; cases z⟩
    · rcases List.mem_cons.mp hb with e | hb
      · rw [e]
        obtain ⟨o, es, ep, ho, hd, _⟩ := hmm
        exact ⟨o, ho, fun v z => by rw [hd] at z; cases z⟩
      · rw [List.mem_singleton.mp hb]
        exact ⟨_, hst.rg, fun v z => by
          have z' : Data.fields _ = Data.cell v := z
          cases z'⟩
  have Ip : Inv X (pins ++ pinsAt [a, env.locals, it] s.heap) σ H (Fk.gw s (Fk.faked s.gens)) := I5.pinned (fun b hb => yg b hb H (hnT b hb)) hob
  have hbare : ∀ i x, Fk.sleepers s.gens i = some x → x.bare = true := Fk.sleepers_bare I.bare
  -- over the replaced ones
  have h1 : wpAny (model X.prog X.w) X.A (assign (.Name x px) X.env u) (fun _ s6 => wpAny (model X.prog X.w) X.A (execs body X.env) (SP X.nox (pins ++ pinsAt [a, env.locals, it] s.heap) { D with nx := N', ct := N', bk := D.nx }) (fun _ _ => False) s6) (fun _ _ => False) (Fk.gw s (Fk.faked s.gens)) := by
    refine wpAny_assign_Name (store_ok Ip hN hi hx rv (fun s6 I6 => ?_) hf)
    exact hbd.run _ s6 _ H _ (I6.wish _) ht
  have h2 := Fk.wpAny_fk (G := s.gens) R h1
  refine wpAny_mono h2 (fun _ s6 h6 => ?_) fun _ _ ⟨_, _, z⟩ => z.elim
  obtain ⟨G0, R0, h6⟩ := h6
  have h7 := Fk.wpAny_fk (s := Fk.gw s6 G0) (G := s6.gens) R0 h6
  refine wpAny_mono h7 (fun f s7 q7 => ?_) fun _ _ ⟨_, _, z⟩ => z.elim
  obtain ⟨G1, R1, q7⟩ := q7
  have real : ∀ {σ7 : L2.St} {H7 : Hp}, Inv X.nox (pins ++ pinsAt [a, env.locals, it] s.heap) σ7 H7 (Fk.gw s7 G1) → Inv X (pins ++ pinsAt [a, env.locals, it] s.heap) σ7 H7 s7 := fun {σ7 H7} J => by
    have b7 : AllBare s7.gens := Fk.bare_real R1 hbare J.bare
    exact Inv.withG (s := Fk.gw s7 G1) J.unwish b7
  have asl : ∀ {σ7 : L2.St} {H7 : Hp}, Inv X (pins ++ pinsAt [a, env.locals, it] s.heap) σ7 H7 s7 → Asleep X B env a g N size code low i it H7 s7 := fun {σ7 H7} J => by
    have kept : ∀ b ∈ [a, env.locals, it], ∀ o, s.heap.get? b = some o → s7.heap.get? b = some o ∧ H7 b = none := fun b hb o e => by
      have := J.pin (b, o) (List.mem_append_right _ (List.mem_append_right _ (mem_pinsAt hb e)))
      exact ⟨this.1, this.2.1⟩
    have slp : Slp env it s s7 := fun b o hb e => by
      rcases hb with e1 | e1 | e1
      · exact (kept b (by rw [e1]; simp) o e).1
      · exact (kept b (by rw [e1]; simp) o e).1
      · obtain ⟨og, es, ep, ho, _⟩ := I.mod.glob
        have z1 := I.bk _ _ ho
        have z2 := J.bk _ _ ho
        rw [e1] at e ⊢
        rw [z1] at e
        cases e
        exact z2
    refine ⟨hlow, ?_, hst.keeps slp, fun b hb => ?_, k, l, c, p, fs, cl, ?_, hcl, fun s'' z => hsl s'' fun b o hb e => z b o hb (slp b o hb e)⟩
    · obtain ⟨o, n1, n2, ho, z⟩ := hgen
      exact ⟨o, n1, n2, (kept a (by simp) o ho).1, z⟩
    · obtain ⟨o, ho, _⟩ := hob b hb
      exact (kept b hb o ho).2
    · exact (R1.fake g _ (Fk.sleepers_at hgs rfl)).2.2
  cases f with
  | next => obtain ⟨σ7, H7, J, n7⟩ := q7; exact ⟨σ7, H7, (real J).unpinned, n7, asl (real J)⟩
  | cont => obtain ⟨σ7, H7, J, n7⟩ := q7; exact ⟨σ7, H7, (real J).unpinned, n7, asl (real J)⟩
  | brk => obtain ⟨σ7, H7, J, n7⟩ := q7; exact ⟨σ7, H7, (real J).unpinned, n7⟩
  | ret u => obtain ⟨v7, σ7, H7, J, r7, n7⟩ := q7; exact ⟨v7, σ7, H7, (real J).unpinned, r7, n7⟩

/-- what a turn of the loop comes to -/
def TurnP (X : Cx) (pins : List (Addr × Obj)) (env : Env) (a g N : Nat) (size code : Int) (low : Nat) (it : Addr) (i : Nat) (D : Ends) (N' : L2.St → Hp → Prop) (f : Flow) (s7 : Shared) : Prop := match f with
  | .next | .cont => ∃ σ7 H7, Inv X pins σ7 H7 s7 ∧ N' σ7 H7 ∧ Asleep X X.A.in1 env a g N size code low i it H7 s7
  | .brk => ∃ σ7 H7, Inv X pins σ7 H7 s7 ∧ D.nx σ7 H7
  | .ret u => ∃ v σ7 H7, Inv X pins σ7 H7 s7 ∧ RelV v u ∧ D.rt v H7
theorem ps_forP {f : Addr} {fd : FuncData} {k ix : Nat} {nmp x : Str} {px p pos' pos : Pos} {e : Expr} {es : List Expr} {ta : TA} {body : List Stmt} {tb : TS}
    (F : PathDef X.prog X.w X.K X.mg X.base k f fd) (hr : Room (k + 1) X.A) (hg : Gl X nmp) (hm : X.mg nmp = some (.ref f)) (hk : PySem.W.keepIn X.K (.ref f) = true) (hb : Binds X.K fd pP []) (ha : PA X (e :: es) ta) (hp : PassesOwn (model X.prog X.w) X.A X.env X.xe) (hc : X.calm = true)
    (hN : X.N.Nodup) (hi : X.N[ix]? = some x) (hx : Loc X.env.scope x) (hbd : PSs X.nox body tb) (hf : X.fn x = true ∨ X.env.scope.names.lookup x = some .local := by first | exact .inl rfl | exact .inr rfl | assumption)
    (hdb : (nmp == ("__debug__" : Str)) = false := by decide) (he : starEach (e :: es) X.env = (false, eval e X.env) :: starEach es X.env := by rfl) (hpl : (backTo pos' (starEach es X.env)).any (·.1) = false := by rfl)
    (hs : ∀ v, foldedSetIterable (.Call (.Name nmp p) (e :: es) [] pos') X.env v = pure v := by intro _; rfl) :
    PS X (.For (.Name x px) (.Call (.Name nmp p) (e :: es) [] pos') body [] pos) (tForP ix ta tb) := by
  refine ⟨fun pins s σ H D I h => ?_⟩
  refine wpAny_For ?_ hs
  refine wpAny_Call_Name_kw (ld_glob I hg hm ?_ hdb)
  refine PySem.W.callWith_K (h₀ := X.base) I.ok.mod.kin hk (thn (ha.run pos' pins s σ H _ I h) fun us s1 ⟨vs, H1, I1, r1, q1⟩ => ⟨I1.kIn, ?_⟩) he hpl
  obtain ⟨code, size, many, rfl, ok, Pv, h0, hturn, hdone⟩ := q1
  have hl2 : us.length = 3 := r1.length.symm
  have hbt : BindsTo s1 fd ⟨us, []⟩ (pP.zip us) := by
    have := hb s1 us I1.kIn (by rw [List.append_nil]; exact hl2)
    rw [List.append_nil] at this
    exact this
  refine wpAny_call (codeAny_mono (F ok (hr.mono (Nat.le_succ _)) I1.env0 hbt r1) fun r s2 hq => ?_)
  cases r with
  | error e => exact False.elim hq
  | ok fl =>
  cases fl with
  | next => exact False.elim hq
  | brk => exact False.elim hq
  | cont => exact False.elim hq
  | ret u =>
  obtain ⟨a, g, c, env, rfl, m⟩ := hq
  refine wpAny_pyIter_gen m.gen ?_
  have hh : X.A.handled = none := I.ok.hd hc
  have hsz : s1.heap.objs.size ≤ s2.heap.objs.size := by
    have h1 : @LE.le Nat _ s1.heap.objs.size env.locals := m.young
    have h2 : @LT.lt Nat _ env.locals a := m.La
    have h3 : @Eq Nat (a + 1) s2.heap.objs.size := m.aE
    omega
  have I2 : Inv X pins σ H1 s2 := I1.call' (ch := []) m.os (Un.kept m.keep) (I1.hok.kept m.keep) m.bare fun b z => by simp at z
  have hgl : g < s2.gens.size := (Array.getElem?_eq_some_iff.mp m.fresh).1
  have yg : ∀ it : Addr, a + 1 ≤ it → ∀ b ∈ [a, env.locals, it], ∀ H' : Hp, H' b = none → FpOk X pins H' b := fun it hit b hb' H' hn => by
    have h1 : @LE.le Nat _ s1.heap.objs.size env.locals := m.young
    have h2 : @LT.lt Nat _ env.locals a := m.La
    have h3 : @LE.le Nat _ (a + 1) it := hit
    refine I1.fpOk ?_ hn
    show @LE.le Nat _ s1.heap.objs.size b
    rcases List.mem_cons.mp hb' with z | z
    · have z : @Eq Nat b a := z
      omega
    · rcases List.mem_cons.mp z with z | z
      · have z : @Eq Nat b env.locals := z
        omega
      · have z : @Eq Nat b it := List.mem_singleton.mp z
        omega
  -- a slot is out: the turn
  have go : ∀ (i : Nat) (it : Addr) (σ5 : L2.St) (H5 : Hp) (s5 : Shared) (t : Tok), i < many.toNat → a + 1 ≤ it → Inv X pins σ5 H5 s5 → Pv i σ5 H5 → Asleep X X.A.in1 env a g many.toNat size code (a + 1) (i + 1) it H5 s5 →
      wpAny (model X.prog X.w) X.A (assign (.Name x px) X.env (.int (sl size code i) t)) (fun _ s6 => wpAny (model X.prog X.w) X.A (execs body X.env) (TurnP X pins env a g many.toNat size code (a + 1) it (i + 1) D (Pv (i + 1))) (fun _ _ => False) s6) (fun _ _ => False) s5 := fun i it σ5 H5 s5 t hlt hit I5 hP hA => by
    refine wpAny_mono (turn_body I5 hA (yg it hit) hN hi hx hf hbd (v := .int (sl size code i)) ⟨t, rfl⟩ (hturn i σ5 H5 hlt hP)) (fun _ s6 h6 => wpAny_mono h6 (fun f s7 h7 => ?_) fun _ _ z => z) fun _ _ z => z
    cases f <;> exact h7
  refine codeAny_forLoop_any (fun n s' => ∃ i σ' H', i ≤ many.toNat ∧ n = many.toNat - i ∧ Inv X pins σ' H' s' ∧ Pv i σ' H' ∧ Head X X.A.in1 s2 σ H1 env a g many.toNat size code (a + 1) i σ' H' s') ?_ many.toNat ⟨0, σ, H1, Nat.zero_le _, by omega, I2, h0, .begin⟩
  rintro n s3 ⟨i, σ3, H3, hle, rfl, I3, hP, hd⟩
  -- behind the turn's body
  have fin : ∀ {it : Addr} {f : Flow} {s7 : Shared}, i < many.toNat → TurnP X pins env a g many.toNat size code (a + 1) it (i + 1) D (Pv (i + 1)) f s7 →
      (match f with
        | .next | .cont => ∃ m, m < many.toNat - i ∧ ∃ i σ' H', i ≤ many.toNat ∧ m = many.toNat - i ∧ Inv X pins σ' H' s7 ∧ Pv i σ' H' ∧ Head X X.A.in1 s2 σ H1 env a g many.toNat size code (a + 1) i σ' H' s7
        | .brk => SP X pins D .next s7
        | .ret v => SP X pins D (.ret v) s7) := fun {it f s7} hlt q => by
    cases f with
    | next => obtain ⟨σ7, H7, J, n7, z⟩ := q; exact ⟨many.toNat - (i + 1), by omega, i + 1, σ7, H7, by omega, rfl, J, n7, .amid (Nat.succ_pos _) z⟩
    | cont => obtain ⟨σ7, H7, J, n7, z⟩ := q; exact ⟨many.toNat - (i + 1), by omega, i + 1, σ7, H7, by omega, rfl, J, n7, .amid (Nat.succ_pos _) z⟩
    | brk => obtain ⟨σ7, H7, J, n7⟩ := q; exact ⟨σ7, H7, J, n7⟩
    | ret u => obtain ⟨v7, σ7, H7, J, r7, n7⟩ := q; exact ⟨v7, σ7, H7, J, r7, n7⟩
  -- the turn, from where the slot is out
  have turn : ∀ {it : Addr} {s5 : Shared} {t : Tok} {σ5 : L2.St} {H5 : Hp} {Z : Flow → Shared → Prop} {E : Value → Shared → Prop}, i < many.toNat → a + 1 ≤ it → Inv X pins σ5 H5 s5 → Pv i σ5 H5 → Asleep X X.A.in1 env a g many.toNat size code (a + 1) (i + 1) it H5 s5 →
      (∀ f s7, TurnP X pins env a g many.toNat size code (a + 1) it (i + 1) D (Pv (i + 1)) f s7 → Z f s7) →
      wpAny (model X.prog X.w) X.A (letOwnedTupleGo (.Name x px) (.ref a) (.int (sl size code i) t)) (fun _ s₁' => wpAny (model X.prog X.w) X.A (assign (.Name x px) X.env (.int (sl size code i) t)) (fun _ s₂ => wpAny (model X.prog X.w) X.A (execs body X.env) Z E s₂) E s₁') E s5 := fun {it s5 t σ5 H5 Z E} hlt hit I5 hP5 hA hZ => by
    refine wpAny_pure ?_
    exact wpAny_mono (go i it σ5 H5 s5 t hlt hit I5 hP5 hA) (fun _ s6 h6 => wpAny_mono h6 (fun f s7 h7 => hZ f s7 h7) fun _ _ z => z.elim) fun _ _ z => z.elim
  cases hd with
  | begin =>
    refine wpAny_gsz (n := g + 1) hgl (next_first hh I2.nolimit hr.depth m.gen m.fresh (m.wake X.A.in1 (s2.setGen g .running) [] hr.in1 I2.ok.frames (fun _ _ e => e) m.os (allBare_setGen m.bare rfl) (fun p hp => by simp at hp)) fun e s₁ he => ?_)
    cases e with
    | ret r =>
      obtain ⟨rfl, hN0, ⟨j1, j2, j3, j4, j5, j6, _⟩⟩ := he
      refine .inl ⟨rfl, fun h' hk' _ => ?_⟩
      have I4 : Inv X pins σ H1 s₁ := I1.call' (ch := []) j1 j3 j4 j2 fun b z => by simp at z
      have I5 : Inv X pins σ H1 { s₁.setGen g .finished with heap := h' } := Inv.withG (I4.kept (t' := s₁.toks) hk') (allBare_setGen j2 rfl)
      refine wpAny_execs_nil ?_
      rw [hN0] at hdone
      exact ⟨σ, H1, I5, hdone σ H1 hP⟩
    | susp v gd l k₁ c₁ p₁ fs₁ =>
      obtain ⟨hq, hN0, ⟨t, rfl⟩, ⟨j1, j2, j3, j4, j5, j6, _⟩, it, hit', hst, hsl⟩ := he
      have hit : a + 1 ≤ it := Nat.succ_le_of_lt (hit' a List.mem_cons_self)
      refine .inr ⟨_, gd, l, k₁, c₁, p₁, fs₁, rfl, hq, fun hsz' => ?_⟩
      have I4 : Inv X pins σ H1 s₁ := I1.call' (ch := []) j1 j3 j4 j2 fun b z => by simp at z
      have hcl : (gd || fs₁.any Frame.guarded) = false := by
        have : (!(gd || fs₁.any Frame.guarded)) = true := hq
        simpa using this
      have hb' : (End.susp (Value.int (sl size code 0) t) gd l k₁ c₁ p₁ fs₁).genState.bare = true := End.bare_of_quiet hq
      have I5 : Inv X pins σ H1 (s₁.setGen g (End.susp (Value.int (sl size code 0) t) gd l k₁ c₁ p₁ fs₁).genState) := Inv.withG I4 (allBare_setGen j2 hb')
      have hgs1 : g < s₁.gens.size := by
        have q : (s₁.setGen g (End.susp (Value.int (sl size code 0) t) gd l k₁ c₁ p₁ fs₁).genState).gens.size = s₁.gens.size := setGen_size _ _ _
        have hsz'' : g + 1 ≤ (s₁.setGen g (End.susp (Value.int (sl size code 0) t) gd l k₁ c₁ p₁ fs₁).genState).gens.size := hsz'
        omega
      refine turn hN0 hit I5 hP ⟨hit, j5, hst, fun b hb' => ?_, k₁, l, c₁, p₁, fs₁, _, setGen_at hgs1, hcl, hsl⟩ fun f s7 q => ?_
      · have yy : @LE.le Nat _ s1.heap.objs.size b := by
          have h1 : @LE.le Nat _ s1.heap.objs.size env.locals := m.young
          have h2 : @LT.lt Nat _ env.locals a := m.La
          have h3 : @LE.le Nat _ (a + 1) it := hit
          rcases List.mem_cons.mp hb' with z | z
          · have z : @Eq Nat b a := z
            omega
          · rcases List.mem_cons.mp z with z | z
            · have z : @Eq Nat b env.locals := z
              omega
            · have z : @Eq Nat b it := List.mem_singleton.mp z
              omega
        exact I1.hok.fresh yy
      · have := fin hN0 q
        cases f <;> exact this
  | @amid _ it _ _ _ hpos hA =>
    obtain ⟨hlow, hgen, hst, hnT, ⟨k₁, l₁, c₁, p₁, fs₁, cl₁, hgs, hcl, hsl⟩⟩ := hA
    have hgl3 : g < s3.gens.size := (Array.getElem?_eq_some_iff.mp hgs).1
    have fL : FpOk X pins H3 env.locals := yg it hlow _ (by simp) H3 (hnT _ (by simp))
    have fI : FpOk X pins H3 it := yg it hlow _ (by simp) H3 (hnT _ (by simp))
    have haL : a ≠ env.locals := Nat.ne_of_gt m.La
    have haI : a ≠ it := Nat.ne_of_lt (Nat.lt_of_lt_of_le (Nat.lt_succ_self a) hlow)
    have I3' : Inv X pins σ3 H3 (s3.setGen g .running) := Inv.withG I3 (allBare_setGen I3.bare rfl)
    refine wpAny_gsz (n := g + 1) hgl3 (next_later (n := many.toNat - i) hh I3.nolimit hr.depth hgen hgs (hsl (s3.setGen g .running) fun _ _ _ e => e) (fun r s₁ hR => ?_) fun v gd l k₂ c₂ p₂ fs₂ s₁ hq hY => ?_)
    · obtain ⟨rfl, hn0, hj⟩ := hR
      unfold Jr at hj
      rw [if_neg (by omega)] at hj
      refine ⟨rfl, fun h' hk' _ => ?_⟩
      have I4 : Inv X pins σ3 H3 s₁ := inv_mv I3' hj fL fI
      have I5 : Inv X pins σ3 H3 { s₁.setGen g .finished with heap := h' } := Inv.withG (I4.kept (t' := s₁.toks) hk') (allBare_setGen I4.bare rfl)
      refine wpAny_execs_nil ?_
      have e : i = many.toNat := by omega
      rw [← e] at hdone
      exact ⟨σ3, H3, I5, hdone σ3 H3 hP⟩
    · obtain ⟨i', t, hi', rfl, hj, hy, hkap⟩ := hY
      intro hsz'
      obtain ⟨m', hm'⟩ : ∃ m', many.toNat - i = m' + 1 := by
        cases hz : many.toNat - i with
        | succ m' => exact ⟨m', rfl⟩
        | zero =>
          have := hkap s₁ fun _ _ _ e => e
          rw [hz] at this
          exact False.elim this
      have ei : i' = i := by omega
      subst ei
      have hlt : i' < many.toNat := by omega
      unfold Jr at hj
      rw [if_neg (by omega)] at hj
      have I4 : Inv X pins σ3 H3 s₁ := inv_mv I3' hj fL fI
      have hcl2 : (gd || fs₂.any Frame.guarded) = false := by
        have : (!(gd || fs₂.any Frame.guarded)) = true := hq
        simpa using this
      have hb' : (End.susp (Value.int (sl size code i') t) gd l k₂ c₂ p₂ fs₂).genState.bare = true := End.bare_of_quiet hq
      have I5 : Inv X pins σ3 H3 (s₁.setGen g (End.susp (Value.int (sl size code i') t) gd l k₂ c₂ p₂ fs₂).genState) := Inv.withG I4 (allBare_setGen I4.bare hb')
      have hgs1 : g < s₁.gens.size := by
        have q : (s₁.setGen g (End.susp (Value.int (sl size code i') t) gd l k₂ c₂ p₂ fs₂).genState).gens.size = s₁.gens.size := setGen_size _ _ _
        have hsz'' : g + 1 ≤ (s₁.setGen g (End.susp (Value.int (sl size code i') t) gd l k₂ c₂ p₂ fs₂).genState).gens.size := hsz'
        omega
      have hgen1 : s₁.heap.IsGen a g := by
        obtain ⟨h', tk, rfl, k'⟩ := hj
        obtain ⟨o, n1, n2, ho, z⟩ := hgen
        exact ⟨o, n1, n2, k' _ o haL haI ho, z⟩
      refine turn hlt hlow I5 hP ⟨hlow, hgen1, hy, hnT, k₂, l, c₂, p₂, fs₂, _, setGen_at hgs1, hcl2, fun s'' z => ?_⟩ fun f s7 q => ?_
      · have := hkap s'' z
        rw [hm'] at this
        rw [show many.toNat - (i' + 1) = m' by omega]
        exact this
      · have := fin hlt q
        cases f <;> exact this
end
end Pth
set_option Elab.async false
set_option linter.all false
set_option maxRecDepth 100000
set_option maxHeartbeats 1000000
/-! Pl: list(path(..)) -/
namespace Pth
open PySem PySem.Spec PyProof.Rows L2 GenW
section
variable {X : Cx} {pins : List (Addr × Obj)} {σ : L2.St} {H : Hp} {s : Shared}
/-- an object of ours is tracked from now on -/
theorem inv_track {S : Addr} {o : HO} (I : Inv X pins σ H s) (f : FpOk X pins H S) (hs : ∃ u, s.heap.get? S = some u) (new : ObjOk X.prog X.w (upd H S o) s.heap S o) : Inv X pins σ (upd H S o) s := by
  obtain ⟨a0, a1, a2, a3, a4, a5⟩ := f
  have ne : ∀ b, b ∉ [S] → b ≠ S := fun b hb z => hb (by rw [z]; simp)
  have nt : ∀ b u, H b = some u → b ≠ S := fun b u e => ne_of_none e a0
  obtain ⟨hp, g, d, t, os⟩ := s
  refine I.step (g' := g) (d' := d) (t' := t) (h' := hp) (ch := [S]) (fun b hb => ?_) (fun b o _ _ _ e _ => e) (fun b o _ _ _ e _ => ⟨o.slots, e⟩) (fun b _ hc _ n => by rw [upd_ne (ne b hc)]; exact n)
    (fun b o _ e => ⟨o, e⟩) (fun b _ e => by rw [upd_ne (nt b _ e)]; exact e) (fun b _ _ e => by rw [upd_ne (nt b _ e)]; exact e) (fun b ps e => ⟨#[], by rw [upd_ne (nt b _ e), e]; simp⟩) (fun m hm => hm) (fun b u e => ?_) I.bare
  · rw [List.mem_singleton.mp hb]; exact ⟨a3, a1, a4, a5⟩
  · by_cases hb : b = S
    · rw [hb, upd_same] at e
      cases e
      rw [hb]
      exact new
    · rw [upd_ne hb] at e
      exact (I.hok b u e).stay (fun _ _ _ q => q) (fun c q => by rw [upd_ne (nt c _ q)]; exact q) fun c xs q => by rw [upd_ne (nt c _ q)]; exact q
/-- the slots, a list -/
def slots (size code many : Int) : List V := (List.range many.toNat).map fun i => V.int (sl size code i)
def tListP (ta : TA) : TE := fun σ H Q => ta σ H fun vs H1 => ∃ code size many : Int, vs = [.int code, .int size, .int many] ∧ POk code size many ∧ many.toNat ≤ sizeLine ∧ ∀ p, H1 p = none → Q (.ref p) (upd H1 p (.lst (slots size code many)))
/-- the list stands at S: i slots are in it -/
def InList (S : Addr) (size code : Int) (i : Nat) (s : Shared) : Prop := ∃ (acc : Array Value) (c : Nat), Vals ((List.range i).map fun i => V.int (sl size code i)) acc.toList ∧ s.heap.get? S = some (lstObj acc c)
theorem vals_snoc {size code : Int} {i : Nat} {acc : Array Value} {t : Tok} (h : Vals ((List.range i).map fun i => V.int (sl size code i)) acc.toList) : Vals ((List.range (i + 1)).map fun i => V.int (sl size code i)) (acc.push (.int (sl size code i) t)).toList := by
  rw [List.range_succ, List.map_append, Array.toList_push]
  exact h.append (.cons ⟨t, rfl⟩ .nil)
/-- the loop that fills the list, i slots being in it -/
theorem drainP {A : Around} {env : Env} {a g : Nat} {size code many : Int} {S it : Addr} {R : Result → Shared → Prop} {res : Value} (hh : A.handled = none) (hd : A.depth < recursionLimit) (hle : many.toNat ≤ sizeLine) (hL : env.locals ≠ S) (hI : it ≠ S) (haS : a ≠ S) (haL : a ≠ env.locals) (haI : a ≠ it) (hGS : mainGlobals ≠ S)
    (fS : FpOk X pins H S) (fL : FpOk X pins H env.locals) (fI : FpOk X pins H it)
    (hend : ∀ s', Inv X pins σ H s' → InList S size code many.toNat s' → R (.ok (.ret res)) s') :
    ∀ (r i : Nat) (s : Shared), 0 < i → i + r = many.toNat → Inv X pins σ H s → InList S size code i s → Asleep X A.in1.in1 env a g many.toNat size code 0 i it H s →
      codeAny (model X.prog X.w) A (.builtin "list.extend.loop" ⟨[.ref S, .ref a, res], []⟩) R s := by
  intro r
  induction r with
  | zero =>
    intro i s hpos hir I hin hA
    obtain ⟨hlow, hgen, hst, hnT, ⟨k₁, l₁, c₁, p₁, fs₁, cl₁, hgs, hcl, hsl⟩⟩ := hA
    have I' : Inv X pins σ H (s.setGen g .running) := Inv.withG I (allBare_setGen I.bare rfl)
    refine codeAny_builtin F.entry_extend_loop ?_
    rw [Around.under_plainId F.plain_extend_loop _]
    show wpAny _ A.in1 (pyNext (.ref a) >>= _) _ _ s
    refine wpAny_bind (next_later (A := A.in1) (n := many.toNat - i) hh I.nolimit hd hgen hgs (hsl (s.setGen g .running) fun _ _ _ e => e) (fun r s₁ hR => ?_) fun v gd l k₂ c₂ p₂ fs₂ s₁ hq hY => ?_)
    · obtain ⟨rfl, hn0, hj⟩ := hR
      unfold Jr at hj
      rw [if_neg (by omega)] at hj
      refine ⟨rfl, fun h' hk' => ?_⟩
      have I4 : Inv X pins σ H s₁ := inv_mv I' hj fL fI
      have I5 : Inv X pins σ H { s₁.setGen g .finished with heap := h' } := Inv.withG (I4.kept (t' := s₁.toks) hk') (allBare_setGen I4.bare rfl)
      refine wpAny_pure (hend _ I5 ?_)
      obtain ⟨acc, c, hv, hS⟩ := hin
      obtain ⟨h2, tk, rfl, k2⟩ := hj
      refine ⟨acc, c, ?_, hk' _ _ (k2 _ _ (Ne.symm hL) (Ne.symm hI) hS)⟩
      have e : many.toNat = i := by omega
      rw [e]; exact hv
    · obtain ⟨i', t, hi', rfl, hj, hy, hkap⟩ := hY
      have := hkap s₁ fun _ _ _ e => e
      rw [show many.toNat - i = 0 by omega] at this
      exact False.elim this
  | succ r ih =>
    intro i s hpos hir I hin hA
    obtain ⟨hlow, hgen, hst, hnT, ⟨k₁, l₁, c₁, p₁, fs₁, cl₁, hgs, hcl, hsl⟩⟩ := hA
    have hgl : g < s.gens.size := (Array.getElem?_eq_some_iff.mp hgs).1
    have I' : Inv X pins σ H (s.setGen g .running) := Inv.withG I (allBare_setGen I.bare rfl)
    refine codeAny_builtin F.entry_extend_loop ?_
    rw [Around.under_plainId F.plain_extend_loop _]
    show wpAny _ A.in1 (pyNext (.ref a) >>= _) _ _ s
    refine wpAny_bind (wpAny_gsz (n := g + 1) hgl (next_later (A := A.in1) (n := many.toNat - i) hh I.nolimit hd hgen hgs (hsl (s.setGen g .running) fun _ _ _ e => e) (fun r s₁ hR => ?_) fun v gd l k₂ c₂ p₂ fs₂ s₁ hq hY => ?_))
    · obtain ⟨rfl, hn0, hj⟩ := hR
      omega
    · obtain ⟨i', t, hi', rfl, hj, hy, hkap⟩ := hY
      intro hsz'
      have ei : i' = i := by omega
      subst ei
      unfold Jr at hj
      rw [if_neg (by omega)] at hj
      have I4 : Inv X pins σ H s₁ := inv_mv I' hj fL fI
      have hcl2 : (gd || fs₂.any Frame.guarded) = false := by
        have : (!(gd || fs₂.any Frame.guarded)) = true := hq
        simpa using this
      have hb' : (End.susp (Value.int (sl size code i') t) gd l k₂ c₂ p₂ fs₂).genState.bare = true := End.bare_of_quiet hq
      have I5 : Inv X pins σ H (s₁.setGen g (End.susp (Value.int (sl size code i') t) gd l k₂ c₂ p₂ fs₂).genState) := Inv.withG I4 (allBare_setGen I4.bare hb')
      have hgs1 : g < s₁.gens.size := by
        have q : (s₁.setGen g (End.susp (Value.int (sl size code i') t) gd l k₂ c₂ p₂ fs₂).genState).gens.size = s₁.gens.size := setGen_size _ _ _
        have hsz'' : g + 1 ≤ (s₁.setGen g (End.susp (Value.int (sl size code i') t) gd l k₂ c₂ p₂ fs₂).genState).gens.size := hsz'
        omega
      obtain ⟨h2, tk, rfl, k2⟩ := hj
      obtain ⟨acc, c, hv, hS⟩ := hin
      have hS1 : h2.get? S = some (lstObj acc c) := k2 _ _ (Ne.symm hL) (Ne.symm hI) hS
      have hal : acc.size = i' := by
        have := hv.length
        simpa using this.symm
      show wpAny _ A.in1 (updateSeq S (·.push (.int (sl size code i') t)) >>= _) _ _ _
      refine wpAny_bind ?_
      refine wpAny_updateSeq hS1 rfl (wpAny_pure ⟨plainId_quiet F.plain_extend_loop _, ?_⟩) (by omega) (by show (acc.push _).size ≤ sizeLine + 1; rw [Array.size_push]; omega)
      have keep3 : ∀ b o, b ≠ S → h2.get? b = some o → (h2.update S (Obj.mapSeq (·.push (.int (sl size code i') t)))).get? b = some o := fun b o hbS e => (Heap.get?_update_other _ _ (Ne.symm hbS)).trans e
      obtain ⟨s0, s1', s2, s3, s4, s5⟩ := fS
      refine ih (i' + 1) _ (by omega) (by omega) (I5.turned (it := S) (t' := tk) keep3 s0 s1' s3 s4 s5) ⟨_, _, vals_snoc hv, Heap.get?_update_self _ hS1 rfl⟩ ⟨Nat.zero_le _, ?_, ?_, hnT, k₂, l, c₂, p₂, fs₂, _, setGen_at hgs1, hcl2, fun s'' z => ?_⟩
      · obtain ⟨o, n1, n2, ho, z⟩ := hgen
        exact ⟨o, n1, n2, keep3 _ o haS (k2 _ o haL haI ho), z⟩
      · refine hy.keeps (s' := { heap := h2.update S (Obj.mapSeq (·.push (.int (sl size code i') t))), gens := s.gens, drawn := s.drawn, toks := tk, os := s.os }) fun b o hb e => ?_
        refine keep3 b o ?_ e
        rcases hb with e | e | e <;> rw [e] <;> first | exact hL | exact hI | exact hGS
      · have := hkap s'' fun b o hb e => z b o hb ?_
        · rw [show many.toNat - i' = r + 1 by omega] at this
          rw [show many.toNat - (i' + 1) = r by omega]
          exact this
        · refine keep3 b o ?_ e
          rcases hb with e | e | e <;> rw [e] <;> first | exact hL | exact hI | exact hGS

theorem drain0 {A : Around} {env : Env} {k a g : Nat} {c : Code} {size code many : Int} {S : Addr} {R : Result → Shared → Prop} {res : Value} {H1 : Hp} {s1 s2 : Shared} {cc : Nat} (hh : A.handled = none) (hd : A.depth < recursionLimit) (hle : many.toNat ≤ sizeLine)
    (I1 : Inv X pins σ H1 s1) (m : PMade X.prog X.w k X.stack H1 s1 many.toNat size code a g c env s2) (hr : Room k A.in1.in1) (hfr : A.in1.in1.frames = some X.stack) (hk : ∀ b o, s2.heap.get? b = some o → s.heap.get? b = some o) (hg : s.gens = s2.gens) (ho : s.os = s2.os)
    (hS : s.heap.get? S = some (lstObj #[] cc)) (haS : a < S)
    (hend : ∀ s', Inv X pins σ H1 s' → InList S size code many.toNat s' → R (.ok (.ret res)) s') :
    codeAny (model X.prog X.w) A (.builtin "list.extend.loop" ⟨[.ref S, .ref a, res], []⟩) R s := by
  have y1 : @LE.le Nat _ s1.heap.objs.size env.locals := m.young
  have y2 : @LT.lt Nat _ env.locals a := m.La
  have y3 : @LT.lt Nat _ a S := haS
  have yng : ∀ b : Addr, @LE.le Nat _ env.locals b → ∀ {H' : Hp}, H' b = none → FpOk X pins H' b := fun b hb H' hn => I1.fpOk (show @LE.le Nat _ s1.heap.objs.size b by omega) hn
  have ynn : ∀ b : Addr, @LE.le Nat _ env.locals b → H1 b = none := fun b hb => I1.hok.fresh (show @LE.le Nat _ s1.heap.objs.size b by omega)
  have hmG : @LT.lt Nat _ mainGlobals S := by
    obtain ⟨o, es, ep, ho, _⟩ := I1.mod.glob
    have := Heap.lt_size (I1.bk _ _ ho)
    have : @LT.lt Nat _ mainGlobals s1.heap.objs.size := this
    omega
  have hL : env.locals ≠ S := Nat.ne_of_lt (show @LT.lt Nat _ env.locals S by omega)
  have hgen : s.heap.IsGen a g := m.gen.keeps hk
  have hlim : s.heap.NoLimit := m.lim.keeps hk
  have hgs : s.gens[g]? = some (.fresh c) := by rw [hg]; exact m.fresh
  have hgl : g < s.gens.size := (Array.getElem?_eq_some_iff.mp hgs).1
  have hbare : AllBare s.gens := by rw [hg]; exact m.bare
  have fS : FpOk X pins H1 S := yng S (by omega) (ynn S (by omega))
  have fL : FpOk X pins H1 env.locals := yng _ (Nat.le_refl _) (ynn _ (Nat.le_refl _))
  refine codeAny_builtin F.entry_extend_loop ?_
  rw [Around.under_plainId F.plain_extend_loop _]
  show wpAny _ A.in1 (pyNext (.ref a) >>= _) _ _ s
  refine wpAny_bind (wpAny_gsz (n := g + 1) hgl (next_first (A := A.in1) hh hlim hd hgen hgs (m.wake A.in1.in1 (s.setGen g .running) [(S, lstObj #[] cc)] hr hfr (fun b o e => hk b o e) (ho.trans m.os) (allBare_setGen hbare rfl) (fun p hp => by
    rw [List.mem_singleton.mp hp]
    exact ⟨hS, haS, fun v z => by cases z⟩)) fun e s₁ he => ?_))
  cases e with
  | ret r =>
    obtain ⟨rfl, hN0, ⟨j1, j2, j3, j4, j5, j6, j7⟩⟩ := he
    refine .inl ⟨rfl, fun h' hk' _ => ?_⟩
    have I4 : Inv X pins σ H1 s₁ := I1.call' (ch := []) j1 j3 j4 j2 fun b z => by simp at z
    have I5 : Inv X pins σ H1 { s₁.setGen g .finished with heap := h' } := Inv.withG (I4.kept (t' := s₁.toks) hk') (allBare_setGen j2 rfl)
    refine wpAny_pure (hend _ I5 ⟨#[], cc, ?_, hk' _ _ (j7 (S, lstObj #[] cc) (List.mem_singleton.mpr rfl))⟩)
    rw [hN0]
    exact .nil
  | susp v gd l k₁ c₁ p₁ fs₁ =>
    obtain ⟨hq, hN0, ⟨t, rfl⟩, ⟨j1, j2, j3, j4, j5, j6, j7⟩, it, hit', hst, hsl⟩ := he
    refine .inr ⟨_, gd, l, k₁, c₁, p₁, fs₁, rfl, hq, fun hsz' => ?_⟩
    have hai : @LT.lt Nat _ a it := hit' a List.mem_cons_self
    have hSi : @LT.lt Nat _ S it := hit' S (by simp)
    have I4 : Inv X pins σ H1 s₁ := I1.call' (ch := []) j1 j3 j4 j2 fun b z => by simp at z
    have hcl2 : (gd || fs₁.any Frame.guarded) = false := by
      have : (!(gd || fs₁.any Frame.guarded)) = true := hq
      simpa using this
    have hb' : (End.susp (Value.int (sl size code 0) t) gd l k₁ c₁ p₁ fs₁).genState.bare = true := End.bare_of_quiet hq
    have I5 : Inv X pins σ H1 (s₁.setGen g (End.susp (Value.int (sl size code 0) t) gd l k₁ c₁ p₁ fs₁).genState) := Inv.withG I4 (allBare_setGen j2 hb')
    have hgs1 : g < s₁.gens.size := by
      have q : (s₁.setGen g (End.susp (Value.int (sl size code 0) t) gd l k₁ c₁ p₁ fs₁).genState).gens.size = s₁.gens.size := setGen_size _ _ _
      have hsz'' : g + 1 ≤ (s₁.setGen g (End.susp (Value.int (sl size code 0) t) gd l k₁ c₁ p₁ fs₁).genState).gens.size := hsz'
      omega
    have fI : FpOk X pins H1 it := yng it (by omega) (ynn it (by omega))
    have hS1 : s₁.heap.get? S = some (lstObj #[] cc) := j7 (S, lstObj #[] cc) (List.mem_singleton.mpr rfl)
    have haS' : a ≠ S := Nat.ne_of_lt y3
    have haL : a ≠ env.locals := Nat.ne_of_gt y2
    have haI : a ≠ it := Nat.ne_of_lt hai
    have hI : it ≠ S := Nat.ne_of_gt hSi
    have hGS : mainGlobals ≠ S := Nat.ne_of_lt hmG
    obtain ⟨hp1, g1, d1, t1, o1⟩ := s₁
    have hS1 : hp1.get? S = some (lstObj #[] cc) := hS1
    show wpAny _ A.in1 (updateSeq S (·.push (.int (sl size code 0) t)) >>= _) _ _ _
    refine wpAny_bind ?_
    refine wpAny_updateSeq hS1 rfl (wpAny_pure ⟨plainId_quiet F.plain_extend_loop _, ?_⟩) (by show (0 : Nat) ≤ sizeLine; exact Nat.zero_le _) (by show (1 : Nat) ≤ sizeLine + 1; omega)
    have keep3 : ∀ b o, b ≠ S → hp1.get? b = some o → (hp1.update S (Obj.mapSeq (·.push (.int (sl size code 0) t)))).get? b = some o := fun b o hbS e => (Heap.get?_update_other _ _ (Ne.symm hbS)).trans e
    obtain ⟨s0', s1', s2', s3', s4', s5'⟩ := id fS
    refine drainP (A := A) hh hd hle hL hI haS' haL haI hGS fS fL fI hend (many.toNat - 1) 1 _ (by omega) (by omega) (I5.turned (it := S) (t' := t1) keep3 s0' s1' s3' s4' s5') ⟨_, _, vals_snoc (i := 0) (acc := #[]) .nil, Heap.get?_update_self _ hS1 rfl⟩ ⟨Nat.zero_le _, ?_, ?_, fun b hb => ?_, k₁, l, c₁, p₁, fs₁, _, setGen_at hgs1, hcl2, fun s'' z => ?_⟩
    · obtain ⟨o, n1, n2, ho, z⟩ := j5
      exact ⟨o, n1, n2, keep3 _ o haS' ho, z⟩
    · refine hst.keeps (s' := { heap := hp1.update S (Obj.mapSeq (·.push (.int (sl size code 0) t))), gens := g1, drawn := d1, toks := t1, os := o1 }) fun b o hb e => ?_
      refine keep3 b o ?_ e
      rcases hb with e | e | e <;> rw [e] <;> first | exact hL | exact hI | exact hGS
    · refine ynn b ?_
      rcases List.mem_cons.mp hb with z | z
      · have z : @Eq Nat b a := z
        omega
      · rcases List.mem_cons.mp z with z | z
        · have z : @Eq Nat b env.locals := z
          omega
        · have z : @Eq Nat b it := List.mem_singleton.mp z
          omega
    · refine hsl s'' fun b o hb e => z b o hb (keep3 b o ?_ e)
      rcases hb with e | e | e <;> rw [e] <;> first | exact hL | exact hI | exact hGS

theorem inList_lst {P : Program} {w : World} {H' : Hp} {S : Addr} {size code many : Int} {s : Shared} (h : InList S size code many.toNat s) (hle : many.toNat ≤ sizeLine) : ObjOk P w H' s.heap S (.lst (slots size code many)) := by
  obtain ⟨acc, c, hv, hS⟩ := h
  refine ⟨?_, acc.toList, c, hv, hS⟩
  unfold slots
  rw [List.length_map, List.length_range]
  exact hle
theorem call_listP {A : Around} {env : Env} {k a g : Nat} {c : Code} {size code many : Int} {H1 : Hp} {s1 s2 : Shared} {Q : VK} {E : Value → Shared → Prop} (hA : A = X.A) (hle : many.toNat ≤ sizeLine) (hr : Room (k + 3) A) (I1 : Inv X pins σ H1 s1) (m : PMade X.prog X.w k X.stack H1 s1 many.toNat size code a g c env s2)
    (hQ : ∀ p, H1 p = none → Q (.ref p) (upd H1 p (.lst (slots size code many)))) :
    wpAny (model X.prog X.w) A (call (.type "list") [.ref a]) (EP X pins σ Q) E s2 := by
  have y1 : @LE.le Nat _ s1.heap.objs.size env.locals := m.young
  have y2 : @LT.lt Nat _ env.locals a := m.La
  have y3 : @Eq Nat (a + 1) s2.heap.objs.size := m.aE
  have hSa : s2.heap.objs.size ≠ a := Nat.ne_of_gt (show @LT.lt Nat _ a s2.heap.objs.size by omega)
  refine callType_codes (Q₁ := fun obj s₁ => obj = .ref s2.heap.objs.size ∧ s₁ = { s2 with heap := s2.heap.push { cls := .type "list", data := .seq #[] } }) F.called_list (F.typeCall_list_1 _) F.entry_list_init
    (code_list_new _ ⟨rfl, rfl⟩) fun obj s₁ h₁ => ?_
  obtain ⟨rfl, rfl⟩ := h₁
  have hS : (s2.heap.push { cls := .type "list", data := .seq #[] }).get? s2.heap.objs.size = some { cls := .type "list", data := .seq #[] } := Heap.get?_push_size _ rfl
  refine ⟨⟨_, hS, rfl⟩, F.args_list_init_2 _ _, ?_⟩
  show wpAny _ A.in1.in1 (do let old ← Builtin.List.listItems (.ref s2.heap.objs.size); Builtin.List.listUpdate (.ref s2.heap.objs.size) (fun _ => #[]); letGo old.toList.reverse; Builtin.List.listExtendWith (.ref s2.heap.objs.size) (.ref a) .none) _ _ _
  refine wpAny_bind ?_
  unfold Builtin.List.listItems
  refine wpAny_bind (wpAny_seqItems hS rfl (wpAny_pure ?_))
  show wpAny _ A.in1.in1 (updateSeq s2.heap.objs.size (fun _ => #[]) >>= fun _ => letGo (#[] : Array Value).toList.reverse >>= fun _ => Builtin.List.listExtendWith (.ref s2.heap.objs.size) (.ref a) .none) _ _ _
  refine wpAny_bind (wpAny_updateSeq hS rfl ?_)
  have hS2 := Heap.get?_update_self (Obj.mapSeq (fun _ => (#[] : Array Value))) hS rfl
  refine wpAny_bind (wpAny_letGo ?_)
  unfold Builtin.List.listExtendWith
  have up : ∀ (h : Heap) (f : Obj → Obj), (∀ b o, s2.heap.get? b = some o → h.get? b = some o) → ∀ b o, s2.heap.get? b = some o → (h.update s2.heap.objs.size f).get? b = some o := fun h f q b o e =>
    (Heap.get?_update_other _ _ (Ne.symm (Nat.ne_of_lt (Heap.lt_size e)))).trans (q b o e)
  have k1 : ∀ b o, s2.heap.get? b = some o → (s2.heap.push { cls := .type "list", data := .seq #[] }).get? b = some o := fun b o e => Heap.get?_push_of_some _ e
  have k2 := up _ (Obj.mapSeq (fun _ => (#[] : Array Value))) k1
  have gty : ∀ {h : Heap}, (∀ b o, s2.heap.get? b = some o → h.get? b = some o) → h.IsGen a g := fun {h} q => m.gen.keeps q
  refine wpAny_bind (wpAny_typeOf (Heap.IsGen.typeIs (s := { s2 with heap := _ }) (gty k2)) ?_)
  have h1 : Builtin.List.listSameRef (.ref s2.heap.objs.size) (.ref a) = false := by simp [Builtin.List.listSameRef, hSa]
  have h2 : (Value.type "generator" == Value.type "list") = false := by decide
  have h3 : (Value.type "generator" == Value.type "tuple") = false := by decide
  simp only [h1, h2, h3, Bool.or_false, Bool.false_eq_true, if_false]
  refine wpAny_bind (wpAny_pyIter_gen (s := { s2 with heap := _ }) (gty k2) ?_)
  refine wpAny_bind (wpAny_holding ?_)
  unfold Builtin.List.listLengthHint
  refine wpAny_bind (wpAny_specialOf (Heap.IsGen.typeIs (s := { s2 with heap := _ }) (gty k2)) F.gen_no_len ?_)
  show wpAny _ A.in1.in1 (specialOf (Value.ref a) (Str.ofString "__length_hint__") >>= _) _ _ _
  refine wpAny_bind (wpAny_specialOf (Heap.IsGen.typeIs (s := { s2 with heap := _ }) (gty k2)) F.gen_no_hint ?_)
  refine wpAny_pure ?_
  show wpAny _ A.in1.in1 (rule "list.extend.makes-room" >>= fun _ => Builtin.List.listTouch (.ref s2.heap.objs.size) >>= fun _ =>
    again (.builtin "list.extend.loop" ⟨[.ref s2.heap.objs.size, .ref a, .none], []⟩)) _ _ _
  refine wpAny_bind (wpAny_rule ?_)
  refine wpAny_bind ?_
  show wpAny _ A.in1.in1 (updateSeq s2.heap.objs.size (·.push .none) >>= fun _ => updateSeq s2.heap.objs.size (·.pop)) _ _ _
  refine wpAny_bind (wpAny_updateSeq hS2 rfl ?_)
  have hS3 := Heap.get?_update_self (Obj.mapSeq (·.push Value.none)) hS2 rfl
  refine wpAny_updateSeq (hz := by seq_fits) hS3 rfl ?_
  have hS4 := Heap.get?_update_self (Obj.mapSeq (·.pop)) hS3 rfl
  have k4 := up _ (Obj.mapSeq (·.pop)) (up _ (Obj.mapSeq (·.push Value.none)) k2)
  refine wpAny_pure ⟨plainId_quiet F.plain_extend_loop _, ?_⟩
  refine drain0 (A := A.in1) hr.hd (by have := hr.dp; show A.depth < _; omega) hle I1 m ⟨hr.hd, ?_, ?_⟩ (by rw [hA]; exact I1.ok.frames) k4 rfl rfl hS4 (show @LT.lt Nat _ a s2.heap.objs.size by omega) fun s' I' hin => ⟨rfl, ?_⟩
  · have := hr.dp
    show A.depth + 3 * k + 5 < _
    omega
  · have := hr.un
    show A.units + 1 + 1 + 1 + 16 * k + 200 < _
    omega
  · have hn : H1 s2.heap.objs.size = none := I1.hok.fresh (show @LE.le Nat _ s1.heap.objs.size s2.heap.objs.size by omega)
    have fS : FpOk X pins H1 s2.heap.objs.size := I1.fpOk (show @LE.le Nat _ s1.heap.objs.size s2.heap.objs.size by omega) hn
    have hob : ∃ u, s'.heap.get? s2.heap.objs.size = some u := by
      obtain ⟨acc, c, _, h⟩ := hin
      exact ⟨_, h⟩
    exact ⟨.ref s2.heap.objs.size, _, inv_track I' fS hob (inList_lst hin hle), rfl, hQ _ hn⟩
/-- list(path(..)) -/
theorem pe_listP {f : Addr} {fd : FuncData} {k : Nat} {nmp nml : Str} {p p1 pos' pos : Pos} {e : Expr} {es : List Expr} {ta : TA}
    (F : PathDef X.prog X.w X.K X.mg X.base k f fd) (hr : Room (k + 3) X.A) (hg : Gl X nmp) (hm : X.mg nmp = some (.ref f)) (hk : PySem.W.keepIn X.K (.ref f) = true) (hb : Binds X.K fd pP []) (ha : PA X (e :: es) ta)
    (hgl : Gl X nml) (hmg : X.mg nml = none) (hv : bootBuiltins nml = some (.type "list")) (hnm : nml ≠ "__name__" := by decide) (hdl : (nml == ("__debug__" : Str)) = false := by decide)
    (hdb : (nmp == ("__debug__" : Str)) = false := by decide) (he : starEach (e :: es) X.env = (false, eval e X.env) :: starEach es X.env := by rfl) (hpl : (backTo pos' (starEach es X.env)).any (·.1) = false := by rfl)
    (he1 : starEach [.Call (.Name nmp p1) (e :: es) [] pos'] X.env = (false, eval (.Call (.Name nmp p1) (e :: es) [] pos') X.env) :: starEach [] X.env := by rfl) :
    PE X (.Call (.Name nml p) [.Call (.Name nmp p1) (e :: es) [] pos'] [] pos) (tListP ta) := by
  refine ⟨fun pins s σ H Q I h => ?_⟩
  refine wpAny_Call_Name_kw (ld_blt I hgl hmg hv ?_ hnm hdl)
  refine PyProof.Rows.callWith_type1 ?_ he1 rfl
  rw [he1]
  show wpAny _ _ (spliced ((false, eval (.Call (.Name nmp p1) (e :: es) [] pos') X.env) :: backTo pos (starEach [] X.env))) _ _ s
  refine Calls.spliced_cons ?_
  refine wpAny_Call_Name_kw (ld_glob I hg hm ?_ hdb)
  refine PySem.W.callWith_K (h₀ := X.base) I.ok.mod.kin hk (thn (ha.run pos' pins s σ H _ I h) fun us s1 ⟨vs, H1, I1, r1, q1⟩ => ⟨I1.kIn, ?_⟩) he hpl
  obtain ⟨code, size, many, rfl, ok, hle, hq⟩ := q1
  have hl2 : us.length = 3 := r1.length.symm
  have hbt : BindsTo s1 fd ⟨us, []⟩ (pP.zip us) := by
    have := hb s1 us I1.kIn (by rw [List.append_nil]; exact hl2)
    rw [List.append_nil] at this
    exact this
  refine wpAny_call (codeAny_mono (F ok (hr.mono (by omega)) I1.env0 hbt r1) fun r s2 hq' => ?_)
  cases r with
  | error e => exact False.elim hq'
  | ok fl =>
  cases fl with
  | next => exact False.elim hq'
  | brk => exact False.elim hq'
  | cont => exact False.elim hq'
  | ret u =>
  obtain ⟨a, g, c, env, rfl, m⟩ := hq'
  refine Calls.spliced_nil ?_
  exact call_listP rfl hle hr I1 m hq
end
end Pth
/-! mathematics of the paths -/
namespace K12
/-- the first slots of a path: slot, push, how many -/
def pathN (size : Nat) : Nat → Nat → Nat → List Nat
  | _, _, 0 => []
  | slot, push, n + 1 => slot :: pathN size ((5 * slot + push / 32 + 1) % size) (push / 32) n
def first (code size many : Nat) : List Nat := pathN size (code % size) code many

theorem pathN_len (size : Nat) : ∀ (n slot push : Nat), (pathN size slot push n).length = n
  | 0, _, _ => rfl
  | n + 1, _, _ => by simp [pathN, pathN_len size n]
theorem pathN_lt {size : Nat} (h : 0 < size) : ∀ (n slot push : Nat), slot < size → ∀ x ∈ pathN size slot push n, x < size
  | 0, _, _, _, x, hx => by simp [pathN] at hx
  | n + 1, slot, push, hs, x, hx => by
    simp only [pathN, List.mem_cons] at hx
    rcases hx with rfl | hx
    · exact hs
    · exact pathN_lt h n _ _ (Nat.mod_lt _ h) x hx

/-- half the size -/
theorem pathN_half {half : Nat} (_h : 0 < half) : ∀ (n slot push s2 : Nat), s2 = slot % half → pathN half s2 push n = (pathN (2 * half) slot push n).map (· % half)
  | 0, _, _, _, _ => rfl
  | n + 1, slot, push, s2, e => by
    simp only [pathN, List.map_cons]
    rw [e]
    congr 1
    refine pathN_half _h n _ _ _ ?_
    rw [Nat.mod_mul_left_mod]
    simp [Nat.add_mod, Nat.mul_mod]
theorem first_half {half code n : Nat} (h : 0 < half) : first code half n = (first code (2 * half) n).map (· % half) := by
  refine pathN_half h n _ _ _ ?_
  rw [Nat.mod_mul_left_mod]

/-- the slots as a function -/
def slotAt (size code : Nat) : Nat → Nat
  | 0 => code % size
  | i + 1 => (5 * slotAt size code i + code / 32 ^ (i + 1) + 1) % size
theorem pathN_get (size code : Nat) : ∀ (n i : Nat), pathN size (slotAt size code i) (code / 32 ^ i) n = (List.range' i n).map (slotAt size code)
  | 0, i => rfl
  | n + 1, i => by
    simp only [pathN, List.range'_succ, List.map_cons]
    congr 1
    rw [← pathN_get size code n (i + 1)]
    rw [Nat.div_div_eq_div_mul, ← Nat.pow_succ]
    rfl
theorem first_eq (code size n : Nat) : first code size n = (List.range n).map (slotAt size code) := by
  have h := pathN_get size code n 0
  simp only [Nat.pow_zero, Nat.div_one] at h
  rw [List.range_eq_range']
  exact h

/-- behind the sixth step the pushes are 0 -/
theorem push_zero {code i : Nat} (h : code < 4294967296) (hi : 7 ≤ i) : code / 32 ^ i = 0 := by
  apply Nat.div_eq_of_lt
  refine Nat.lt_of_lt_of_le h ?_
  refine Nat.le_trans (show 4294967296 ≤ 32 ^ 7 by decide) ?_
  exact Nat.pow_le_pow_right (by decide) hi

/-! the cycle x -> 5 x + 1 modulo a power of two -/
theorem five_odd_pow (e : Nat) : 5 ^ e % 4 = 1 := by
  induction e with
  | zero => rfl
  | succ e ih => rw [Nat.pow_succ]; omega
/-- the order of 5 modulo 2 ^ (m + 2) is 2 ^ m -/
theorem order5 : ∀ (m d : Nat), 2 ^ (m + 2) ∣ 5 ^ d - 1 → 2 ^ m ∣ d
  | 0, d, _ => by simp
  | m + 1, d, h => by
    have h8 : 8 ∣ 5 ^ d - 1 := by
      refine Nat.dvd_trans ?_ h
      rw [show (8 : Nat) = 2 ^ 3 by rfl]
      exact Nat.pow_dvd_pow 2 (by omega)
    have hd : d % 2 = 0 := by
      rcases Nat.mod_two_eq_zero_or_one d with e | e
      · exact e
      · exfalso
        obtain ⟨k, rfl⟩ : ∃ k, d = 2 * k + 1 := ⟨d / 2, by omega⟩
        have h25 : 5 ^ (2 * k + 1) % 8 = 5 := by
          clear h h8 e
          induction k with
          | zero => rfl
          | succ k ih =>
            rw [show 2 * (k + 1) + 1 = (2 * k + 1) + 2 by omega, Nat.pow_add]
            rw [Nat.mul_mod, ih]
        obtain ⟨q, hq⟩ := h8
        have : 0 < 5 ^ (2 * k + 1) := Nat.pow_pos (by decide)
        omega
    obtain ⟨e, rfl⟩ : ∃ e, d = 2 * e := ⟨d / 2, by omega⟩
    have h5 := five_odd_pow e
    have hp : 0 < 5 ^ e := Nat.pow_pos (by decide)
    obtain ⟨t, ht⟩ : ∃ t, 5 ^ e = 4 * t + 1 := ⟨5 ^ e / 4, by omega⟩
    have hsq : 5 ^ (2 * e) - 1 = (5 ^ e - 1) * (2 * (2 * t + 1)) := by
      rw [Nat.two_mul, Nat.pow_add, ht]
      simp only [Nat.add_sub_cancel]
      have : (4 * t + 1) * (4 * t + 1) = 4 * t * (2 * (2 * t + 1)) + 1 := by
        simp only [Nat.mul_add, Nat.add_mul, Nat.mul_one, Nat.one_mul]
        have e1 : 4 * t * (2 * (2 * t)) = 16 * (t * t) := by
          rw [show 2 * (2 * t) = 4 * t by omega]
          rw [Nat.mul_mul_mul_comm]
        have e2 : 4 * t * (4 * t) = 16 * (t * t) := by rw [Nat.mul_mul_mul_comm]
        omega
      omega
    rw [hsq, Nat.pow_succ, Nat.mul_comm (2 ^ (m + 2)) 2] at h
    have h2 : 2 * 2 ^ (m + 2) ∣ 2 * ((5 ^ e - 1) * (2 * t + 1)) := by
      have e3 : (5 ^ e - 1) * (2 * (2 * t + 1)) = 2 * ((5 ^ e - 1) * (2 * t + 1)) := by
        rw [← Nat.mul_assoc, Nat.mul_comm (5 ^ e - 1) 2, Nat.mul_assoc]
      rw [← e3]; rw [show m + 2 = m + 1 + 1 by rfl]; exact h
    have h3 : 2 ^ (m + 2) ∣ (5 ^ e - 1) * (2 * t + 1) := Nat.dvd_of_mul_dvd_mul_left (by decide) h2
    have hco : Nat.Coprime (2 ^ (m + 2)) (2 * t + 1) := by
      apply Nat.Coprime.pow_left
      show Nat.gcd 2 (2 * t + 1) = 1
      rw [Nat.gcd_rec]
      rw [show (2 * t + 1) % 2 = 1 by omega]
      rfl
    have h4 : 2 ^ (m + 2) ∣ 5 ^ e - 1 := Nat.Coprime.dvd_of_dvd_mul_right hco h3
    have h5' := order5 m e h4
    rw [Nat.pow_succ, Nat.mul_comm]
    exact Nat.mul_dvd_mul_left 2 h5'

/-- the walk x -> 5 x + 1 modulo N from x -/
def orb (N : Nat) (x : Nat) : Nat → Nat
  | 0 => x
  | n + 1 => (5 * orb N x n + 1) % N
theorem orb_lt {N x : Nat} (h : x < N) : ∀ n, orb N x n < N
  | 0 => h
  | n + 1 => Nat.mod_lt _ (by omega)
/-- four times the place and one is a power of five times what it was -/
theorem orb_pow {N x : Nat} (h : x < N) (n : Nat) : (4 * orb N x n + 1) % (4 * N) = (5 ^ n * (4 * x + 1)) % (4 * N) := by
  induction n with
  | zero => simp [orb]
  | succ n ih =>
    have e : (4 * orb N x (n + 1) + 1) % (4 * N) = (5 * (4 * orb N x n + 1)) % (4 * N) := by
      show (4 * ((5 * orb N x n + 1) % N) + 1) % (4 * N) = _
      have h1 : 4 * ((5 * orb N x n + 1) % N) = (4 * (5 * orb N x n + 1)) % (4 * N) := (Nat.mul_mod_mul_left 4 _ N).symm
      rw [h1, Nat.mod_add_mod]
      congr 1
      omega
    rw [e, Nat.mul_mod, ih, ← Nat.mul_mod, Nat.pow_succ, ← Nat.mul_assoc, Nat.mul_comm (5 ^ n) 5]
theorem odd_dvd {m y z : Nat} (hy : y % 2 = 1) (h : 2 ^ m ∣ z * y) : 2 ^ m ∣ z := by
  refine Nat.Coprime.dvd_of_dvd_mul_right ?_ h
  apply Nat.Coprime.pow_left
  show Nat.gcd 2 y = 1
  rw [Nat.gcd_rec, hy]
  rfl
theorem orb_ne {m x i j : Nat} (hx : x < 2 ^ m) (hij : i < j) (hj : j < i + 2 ^ m) : orb (2 ^ m) x i ≠ orb (2 ^ m) x j := by
  intro e
  have hi := orb_pow hx i
  have hj' := orb_pow hx j
  rw [← e] at hj'
  rw [hi] at hj'
  obtain ⟨d, rfl⟩ : ∃ d, j = i + d := ⟨j - i, by omega⟩
  have hd0 : 0 < d := by omega
  have hle : 5 ^ i * (4 * x + 1) ≤ 5 ^ (i + d) * (4 * x + 1) := Nat.mul_le_mul_right _ (Nat.pow_le_pow_right (by decide) (by omega))
  have hdv : 4 * 2 ^ m ∣ 5 ^ (i + d) * (4 * x + 1) - 5 ^ i * (4 * x + 1) := Nat.dvd_of_mod_eq_zero (Nat.sub_mod_eq_zero_of_mod_eq hj'.symm)
  have e4 : 4 * 2 ^ m = 2 ^ (m + 2) := by rw [Nat.pow_add]; omega
  rw [e4] at hdv
  have e5 : 5 ^ (i + d) * (4 * x + 1) - 5 ^ i * (4 * x + 1) = (5 ^ d - 1) * (5 ^ i * (4 * x + 1)) := by
    rw [Nat.pow_add, Nat.sub_mul, Nat.one_mul]
    congr 1
    rw [Nat.mul_comm (5 ^ i) (5 ^ d), Nat.mul_assoc]
  rw [e5] at hdv
  have hodd : (5 ^ i * (4 * x + 1)) % 2 = 1 := by
    have h5 := five_odd_pow i
    rw [Nat.mul_mod]
    rw [show 5 ^ i % 2 = 1 by omega, show (4 * x + 1) % 2 = 1 by omega]
  have h1 := order5 m d (odd_dvd hodd hdv)
  have := Nat.le_of_dvd hd0 h1
  omega

theorem len_le : ∀ (N : Nat) (l : List Nat), l.Nodup → (∀ x ∈ l, x < N) → l.length ≤ N
  | 0, l, _, h => by
    cases l with
    | nil => exact Nat.le_refl _
    | cons a t => exact absurd (h a List.mem_cons_self) (Nat.not_lt_zero _)
  | N + 1, l, nd, h => by
    by_cases hm : N ∈ l
    · have h1 := len_le N (l.erase N) (nd.erase _) (fun x hx => by
        have hx' := (nd.mem_erase_iff).mp hx
        have := h x hx'.2
        have := hx'.1
        omega)
      rw [List.length_erase_of_mem hm] at h1
      omega
    · have h1 := len_le N l nd (fun x hx => by
        have h2 := h x hx
        have h3 : x ≠ N := fun e => hm (e ▸ hx)
        omega)
      omega
theorem all_mem : ∀ (N : Nat) (l : List Nat), l.Nodup → (∀ x ∈ l, x < N) → l.length = N → ∀ x, x < N → x ∈ l := by
  intro N l nd h hl x hx
  refine Classical.byContradiction fun hm => ?_
  have h1 := len_le N (x :: l) (List.nodup_cons.mpr ⟨hm, nd⟩) (fun y hy => by
    rcases List.mem_cons.mp hy with rfl | hy
    · exact hx
    · exact h y hy)
  rw [List.length_cons] at h1
  omega
/-- from the sixth step on a path goes round the whole cycle -/
theorem slotAt_lt {size : Nat} (h : 0 < size) (code i : Nat) : slotAt size code i < size := by
  cases i <;> exact Nat.mod_lt _ h
theorem slotAt_orb {size code : Nat} (hc : code < 4294967296) (i : Nat) : slotAt size code (6 + i) = orb size (slotAt size code 6) i := by
  induction i with
  | zero => rfl
  | succ i ih =>
    show (5 * slotAt size code (6 + i) + code / 32 ^ (6 + i + 1) + 1) % size = (5 * orb size (slotAt size code 6) i + 1) % size
    rw [ih, push_zero hc (by omega), Nat.add_zero]
def tailOf (code size : Nat) : List Nat := (first code size (size + 6)).drop 6
theorem tailOf_eq (code size : Nat) : tailOf code size = (List.range size).map fun i => slotAt size code (6 + i) := by
  unfold tailOf
  rw [first_eq, ← List.map_drop, List.range_eq_range', List.drop_range', List.range_eq_range', List.range'_eq_map_range]
  rw [List.map_map]
  rw [show size + 6 - 6 = size by omega, List.range_eq_range']
  apply List.map_congr_left
  intro a _
  simp
theorem tail_nodup {m code : Nat} (hc : code < 4294967296) : (tailOf code (2 ^ m)).Nodup := by
  rw [tailOf_eq]
  have hp : 0 < 2 ^ m := Nat.pow_pos (by decide)
  rw [List.Nodup, List.pairwise_map]
  refine List.Pairwise.imp_of_mem ?_ (List.pairwise_lt_range (n := 2 ^ m))
  intro i j hi hj hij
  rw [List.mem_range] at hi hj
  rw [slotAt_orb hc, slotAt_orb hc]
  exact orb_ne (slotAt_lt hp _ _) hij (by omega)
theorem tail_lt {size : Nat} (h : 0 < size) (code : Nat) : ∀ x ∈ tailOf code size, x < size := by
  intro x hx
  rw [tailOf_eq] at hx
  obtain ⟨i, _, rfl⟩ := List.mem_map.mp hx
  exact slotAt_lt h _ _
theorem tail_len (code size : Nat) : (tailOf code size).length = size := by rw [tailOf_eq, List.length_map, List.length_range]
theorem tail_perm {m code : Nat} (hc : code < 4294967296) : (tailOf code (2 ^ m)).Perm (List.range (2 ^ m)) := by
  have hp : 0 < 2 ^ m := Nat.pow_pos (by decide)
  refine (List.perm_ext_iff_of_nodup (tail_nodup hc) List.nodup_range).mpr fun x => ⟨fun hx => ?_, fun hx => ?_⟩
  · exact List.mem_range.mpr (tail_lt hp code x hx)
  · exact all_mem _ _ (tail_nodup hc) (tail_lt hp code) (tail_len _ _) x (List.mem_range.mp hx)
theorem first_mem {m code : Nat} (hc : code < 4294967296) (x : Nat) : x ∈ first code (2 ^ m) (2 ^ m + 6) ↔ x < 2 ^ m := by
  have hp : 0 < 2 ^ m := Nat.pow_pos (by decide)
  constructor
  · intro hx
    exact pathN_lt hp _ _ _ (Nat.mod_lt _ hp) x hx
  · intro hx
    have : x ∈ tailOf code (2 ^ m) := (tail_perm hc).symm.subset (List.mem_range.mpr hx)
    exact List.mem_of_mem_drop this

/-! what two codes share -/
theorem slots_same {size a b : Nat} : ∀ (i : Nat), (∀ j, j ≤ i → a / 32 ^ j % size = b / 32 ^ j % size) → slotAt size a i = slotAt size b i
  | 0, h => by
    have := h 0 (Nat.le_refl _)
    simpa [slotAt] using this
  | i + 1, h => by
    have ih := slots_same i (fun j hj => h j (by omega))
    have h1 := h (i + 1) (Nat.le_refl _)
    show (5 * slotAt size a i + a / 32 ^ (i + 1) + 1) % size = (5 * slotAt size b i + b / 32 ^ (i + 1) + 1) % size
    rw [ih, Nat.add_assoc, Nat.add_assoc, Nat.add_mod, Nat.add_mod _ (b / 32 ^ (i + 1) + 1), Nat.add_mod (a / 32 ^ (i + 1)), Nat.add_mod (b / 32 ^ (i + 1)), h1]
theorem step_same {size a b i : Nat} (hs : 0 < size) (h : slotAt size a i = slotAt size b i) : slotAt size a (i + 1) = slotAt size b (i + 1) ↔ a / 32 ^ (i + 1) % size = b / 32 ^ (i + 1) % size := by
  show (5 * slotAt size a i + a / 32 ^ (i + 1) + 1) % size = (5 * slotAt size b i + b / 32 ^ (i + 1) + 1) % size ↔ _
  rw [h]
  have e : ∀ c : Nat, 5 * slotAt size b i + c + 1 = (5 * slotAt size b i + 1) + c := fun c => by omega
  rw [e, e]
  constructor
  · intro q
    have : ∀ x y d : Nat, (d + x) % size = (d + y) % size → x % size = y % size := by
      intro x y d q
      have h1 : ((d + x : Nat) : Int) % size = ((d + y : Nat) : Int) % size := by exact_mod_cast q
      have h2 : ((x : Nat) : Int) % size = ((y : Nat) : Int) % size := by
        have h3 : (size : Int) ∣ ((d + x : Nat) : Int) - ((d + y : Nat) : Int) := Int.dvd_of_emod_eq_zero (Int.emod_eq_emod_iff_emod_sub_eq_zero.mp h1)
        apply Int.emod_eq_emod_iff_emod_sub_eq_zero.mpr
        apply Int.emod_eq_zero_of_dvd
        have e3 : ((d + x : Nat) : Int) - ((d + y : Nat) : Int) = (x : Int) - y := by omega
        rw [← e3]; exact h3
      exact_mod_cast h2
    exact this _ _ _ q
  · intro q
    rw [Nat.add_mod, q, ← Nat.add_mod]
/-- codes that are equal modulo size * 32 ^ k share k + 1 slots -/
theorem share {size a b k : Nat} (h : a % (size * 32 ^ k) = b % (size * 32 ^ k)) : ∀ i, i ≤ k → slotAt size a i = slotAt size b i := by
  intro i hi
  refine slots_same i fun j hj => ?_
  have e : size * 32 ^ k = 32 ^ j * (size * 32 ^ (k - j)) := by
    have : 32 ^ k = 32 ^ j * 32 ^ (k - j) := by rw [← Nat.pow_add]; congr 1; omega
    rw [this, ← Nat.mul_assoc, Nat.mul_comm size, Nat.mul_assoc]
  have h1 : a % (32 ^ j * (size * 32 ^ (k - j))) / 32 ^ j = b % (32 ^ j * (size * 32 ^ (k - j))) / 32 ^ j := by rw [← e, h]
  rw [Nat.mod_mul_right_div_self, Nat.mod_mul_right_div_self] at h1
  have h2 : a / 32 ^ j % (size * 32 ^ (k - j)) % size = b / 32 ^ j % (size * 32 ^ (k - j)) % size := by rw [h1]
  rw [Nat.mod_mul_right_mod, Nat.mod_mul_right_mod] at h2
  exact h2
theorem first_take {a size n k : Nat} (h : k ≤ n) : (first a size n).take k = (List.range k).map (slotAt size a) := by
  rw [first_eq, ← List.map_take, List.take_range]
  rw [Nat.min_eq_left h]
/-- two starts of paths are equal: slot by slot -/
theorem take_same {a b size n k : Nat} (h : k ≤ n) : (first a size n).take k = (first b size n).take k ↔ ∀ i, i < k → slotAt size a i = slotAt size b i := by
  rw [first_take h, first_take h]
  constructor
  · intro q i hi
    have := List.map_inj_left.mp q i (List.mem_range.mpr hi)
    exact this
  · intro q
    exact List.map_congr_left fun i hi => q i (List.mem_range.mp hi)
/-- the law's question at a turn -/
theorem turn_same {a b size n k : Nat} (hs : 0 < size) (h : k + 1 ≤ n) (q : (first a size n).take k = (first b size n).take k) :
    ((first a size n).take (k + 1) = (first b size n).take (k + 1)) ↔ a / 32 ^ k % size = b / 32 ^ k % size := by
  rw [take_same (by omega)] at q ⊢
  cases k with
  | zero =>
    constructor
    · intro z
      have := z 0 (by omega)
      simpa [slotAt] using this
    · intro z i hi
      obtain rfl : i = 0 := by omega
      simpa [slotAt] using z
  | succ k =>
    have hk := q k (by omega)
    constructor
    · intro z
      exact (step_same hs hk).mp (z (k + 1) (by omega))
    · intro z i hi
      by_cases e : i < k + 1
      · exact q i e
      · obtain rfl : i = k + 1 := by omega
        exact (step_same hs hk).mpr z
end K12
set_option Elab.async false
set_option linter.all false
set_option maxRecDepth 100000
set_option maxHeartbeats 1000000
/-! Xo: own exception classes whose __init__ stores one field, over any built-in base: made as a value, raised, kept, asked for their class, their field read -/
namespace Xo
open PySem PySem.Spec PyProof.Rows L2 Builtin Builtin.ObjectAttr
/-- what the written part says of the class at C -/
structure XC (K : PySem.W.Frag) (C : Addr) : Prop where
  base : ∃ (B newId initId : String) (bmB : List Value), ExcBaseFacts B newId initId bmB ∧ StoreFacts B bmB "object.__setattr__" "object" ∧ PySem.W.excInitIn K C bmB newId = true ∧ PySem.W.excOver K C bmB = true
  hd : PySem.W.hasDictIn K C = true
  sa : PySem.W.findIn K (.ref C) "__setattr__" = some (some (.builtin "object.__setattr__"))
  ga : PySem.W.findIn K (.ref C) "__getattribute__" = some (some (.builtin "BaseException.__getattribute__"))
  gg : PySem.W.findIn K (.ref C) "__getattr__" = some none
  exC : PySem.W.subIn K (.ref C) (.type "BaseException") = some true
  tyC : PySem.W.typeIn K (.ref C) = some (.type "type")
  kC : PySem.W.keepIn K (.ref C) = true
section
variable {X : Cx} {pins : List (Addr × Obj)} {σ : L2.St} {H : Hp} {s : Shared} {a C : Addr} {f : Str} {y : V} {u : Value} {E : Value → Shared → Prop} {A : Around}
/-- the first store into a fresh exception -/
theorem store1 {K : PySem.W.Frag} {prog : Program} {w : World} {name : Str} {tk : Tok} {v : Value} {x : Addr} {fv : Array Value} {R : Result → Shared → Prop} (T : XC K C) (X : K.In s.heap)
    (hx : s.heap.get? x = some { cls := .ref C, data := .fields fv }) (hno : PySem.W.findIn K (.ref C) name = some none)
    (hq : ∀ h' tk' dx, (∀ b o, b ≠ x → s.heap.get? b = some o → h'.get? b = some o) → s.heap.objs.size ≤ dx → dx ≠ x → h'.get? x = some { cls := .ref C, dict := some dx, data := .fields fv } →
      h'.Ns1 dx (fun y => if y = name then some v else none) → R (.ok (.ret .none)) { s with heap := h', toks := tk' }) :
    codeAny (model prog w) A (.call (.builtin "object.__setattr__") ⟨[.ref x, .str name tk, v], []⟩) R s := by
  obtain ⟨B, newId, initId, bmB, fb, sf, ii, ov⟩ := T.base
  obtain ⟨cd, hc, hdd⟩ := PySem.W.any_some T.hd
  have I : PySem.W.InstAt s.heap x { cls := .ref C, data := .fields fv } C none := ⟨hx, rfl, rfl, trivial⟩
  refine PySem.W.osa_openX (r := none) sf X I ov (show PySem.W.takerIn K C name = some none from NoAttr.taker hno) fun b => ?_
  have hcls : PySem.W.Looks (model prog w) s.heap (classData C) cd := PySem.W.looks_clsIn X hc
  have hxs : x ≠ s.heap.objs.size := Nat.ne_of_lt (Heap.lt_size hx)
  have hdd' : cd.hasDict = true := hdd
  obtain ⟨nm, bs, mro, ns, qn, hd, sn, sb, ab, col, del⟩ := cd
  dsimp only at hdd'
  subst hdd'
  obtain ⟨hp, g, d, t, os⟩ := s
  dsimp only
  unfold storeInOwnDict ownDictForStores
  repeat (first | with_reducible refine HandSPX.store_in_new ?_ ?_ | with_reducible refine wpAny_loadPart_at hx ?_ | with_reducible refine hcls.at ?_ | wp_step)
  · exact ⟨_, #[], _, (Heap.get?_update_ne _ _ _ _ (Ne.symm hxs)).trans (Heap.get?_push_at rfl rfl), rfl, fun e z => absurd z (by simp), fun _ => rfl⟩
  · intro h1 tk1 n1 sb1
    have hx1 : (hp.push { cls := .type "dict", data := .dict #[] }).get? x = some { cls := .ref C, data := .fields fv } := Heap.get?_push_of_some _ hx
    exact hq h1 tk1 hp.objs.size (fun b o hb z => (sb1.2 b (Nat.ne_of_lt (Heap.lt_size z))).trans ((Heap.get?_update_ne _ _ _ _ hb).trans (Heap.get?_push_of_some _ z))) (Nat.le_refl _) (Ne.symm hxs) ((sb1.2 x hxs).trans (Heap.get?_update_self _ hx1 rfl)) n1
theorem ost1 {Q : Unit → Shared → Prop} (T : XC X.K C) (I : Inv X pins σ H s) (e : H a = some (exo a C none)) (hno : PySem.W.findIn X.K (.ref C) f = some none) (ry : RelV y u)
    (h : ∀ dx s', H dx = none → dx ≠ a → Inv X pins σ (upd (upd H a (exo a C (some dx))) dx (exd dx [(f, y)])) s' → Q () s') : wpAny (model X.prog X.w) A (setAttr (.ref a) f u) Q E s := by
  obtain ⟨t1, ho⟩ := exo_at I.hok e
  obtain ⟨h0, g, d, t, os⟩ := s
  refine PySem.W.set_plain I.kIn (od := none) ⟨ho, rfl, rfl, trivial⟩ T.sa ?_
  refine store1 T I.kIn ho hno fun h1 tk1 dx k dn dne hx hn => ?_
  have hnd : H dx = none := I.hok.fresh dn
  have J := I.write (t' := tk1) (x := a) (e := a) (o := exo a C (some dx)) (by rw [e]; exact True.intro) (.inl rfl) k ⟨_, hx⟩ (exo_ok hx)
  have fp : FpOk X pins (upd H a (exo a C (some dx))) dx := I.fpOk dn (by rw [upd_ne dne]; exact hnd)
  obtain ⟨o, es, ep, hob, hr⟩ := id hn
  exact h dx _ hnd dne (Pth.inv_track J fp ⟨o, hob⟩ (exd_ok hn (relO_put (fs := []) ry fun _ => True.intro)))
end
/-- self.f = v in such an __init__ -/
def tOst1 (f : Str) (to te : TE) (K : PySem.W.Frag) : TS := fun D σ H => te σ H fun y H1 => to σ H1 fun x H2 => ∃ a C : Addr, x = .ref a ∧ XC K C ∧ PySem.W.findIn K (.ref C) f = some none ∧ H2 a = some (exo a C none) ∧
  ∀ dx, H2 dx = none → dx ≠ a → D.nx σ (upd (upd H2 a (exo a C (some dx))) dx (exd dx [(f, y)]))
theorem ps_ost1 {X : Cx} {o e : Expr} {to te : TE} {f : Str} {p' pos : Pos} (ho : PE X o to) (he : PE X e te) (hs : swapsWith e (some (.Attribute o f p')) pos.line X.env = pure false := by rfl) : PS X (.Assign [.Attribute o f p'] e pos) (tOst1 f to te X.K) := by
  refine ⟨fun pins s σ H D I h => ?_⟩
  refine plainObj_wpAny_Assign_Attribute (thn (he.run pins s σ H _ I h) fun v s1 ⟨y, H1, I1, r1, q1⟩ => thn (ho.run pins s1 σ H1 _ I1 q1) fun u s2 ⟨x, H2, I2, r2, a, C, ex, T, hno, ea, q⟩ => ?_) hs
  subst ex
  cases (show u = Value.ref a from r2)
  exact ost1 T I2 ea hno r1 fun dx s3 n ne J => ⟨σ, _, J, q dx n ne⟩
/-- the promise of such an __init__ -/
def spXI (K : PySem.W.Frag) (f : Str) : Sp := fun vs H Q _ => ∃ (a C : Addr) (v : V), vs = [.ref a, v] ∧ XC K C ∧ PySem.W.findIn K (.ref C) f = some none ∧ H a = some (exo a C none) ∧
  ∀ d, H d = none → d ≠ a → Q .non (upd (upd H a (exo a C (some d))) d (exd d [(f, v)]))
theorem ok_xinit {P : Program} {w : World} {K : PySem.W.Frag} {mg : Str → Option Value} {base : Heap} {qual fld : Str} {st : Stmt} {fa : Addr} {fd : FuncData} {p1 p2 p3 p4 : Pos} (F : Fun K "__init__" qual st fa fd) (S : FnScope ["self", fld] ["self", fld] (defScope st))
    (hb : defBody st = [.Assign [.Attribute (.Name "self" p1) fld p2] (.Name fld p3) p4]) (hd1 : (fld == ("__debug__" : Str)) = false) (hd2 : (fld == ("__classdict__" : Str)) = false) : FnOk P w K mg base CX0 1 fa fd ["self", fld] (spXI K fld) := by
  refine F.ok S (fun vs H Q E h => ?_) (fun cdv A outer s H vs Q E hr h => ?_)
  · obtain ⟨a, C, v, rfl, _⟩ := h
    rfl
  · obtain ⟨a, C, v, rfl, T, hno, ea, k⟩ := h
    rw [hb]
    refine ⟨_, pss_one (ps_ost1 (pe_var (i := 0) rfl ((S.par "self" (by simp)).elim (fun z => .inl z) (fun z => .inr (.inl z)))) (pe_var (i := 1) rfl ((S.par fld (by simp)).elim (fun z => .inl z) (fun z => .inr (.inl z))) hd1 hd2)), ?_⟩
    exact ⟨v, rfl, .ref a, rfl, a, C, rfl, T, hno, ea, fun d hd hne => k d hd hne⟩
/-- the class's own def __init__, promised -/
structure XI (X : Cx) (C : Addr) (fld : Str) : Prop where
  T : XC X.K C
  no : PySem.W.findIn X.K (.ref C) fld = some none
  ini : ∃ (fI : Addr) (fd : FuncData), PySem.W.findIn X.K (.ref C) "__init__" = some (some (.ref fI)) ∧ PySem.W.typeIn X.K (.ref fI) = some (.type "function") ∧ Binds X.K fd ["self", fld] [] ∧ FnOk X.prog X.w X.K X.mg X.base CX0 1 fI fd ["self", fld] (spXI X.K fld)
section
variable {X : Cx} {pins : List (Addr × Obj)} {σ : L2.St} {H : Hp} {s : Shared} {C : Addr} {fld x : Str} {v : V} {u : Value} {e : Expr} {te : TE} {p pos : Pos}
theorem upd2 {H : Hp} {a : Addr} {o o' : HO} : upd (upd H a o) a o' = upd H a o' := by
  funext b
  unfold upd
  split <;> rfl
/-- the two objects behind the call's start -/
abbrev xHeap (h : Heap) (us : List Value) (C : Addr) : Heap := (h.push (PySem.W.kdv_tup us)).push (HandSPX.excO C h.objs.size)
theorem inv_start_x (I : Inv X pins σ H s) (us : List Value) : H (s.heap.objs.size + 1) = none ∧ (∀ b o, s.heap.get? b = some o → (xHeap s.heap us C).get? b = some o) ∧
    Inv X pins σ (upd H (s.heap.objs.size + 1) (exo (s.heap.objs.size + 1) C none)) { s with heap := xHeap s.heap us C } := by
  have hsz : s.heap.objs.size ≤ s.heap.objs.size + 1 := Nat.le_succ _
  have kk : ∀ b o, s.heap.get? b = some o → (xHeap s.heap us C).get? b = some o := fun b o q => Heap.get?_push_of_some _ (Heap.get?_push_of_some _ q)
  have hg : (xHeap s.heap us C).get? (s.heap.objs.size + 1) = some (HandSPX.excO C s.heap.objs.size) := by heap_get
  exact ⟨I.hok.fresh hsz, kk, I.laid (t' := s.toks) (o := exo (s.heap.objs.size + 1) C none) kk hsz (exo_ok hg)⟩
/-- C(v), the call -/
theorem run_x {R : Result → Shared → Prop} (T : XI X C fld) (hr : Room 2 X.A) (I : Inv X pins σ H s) (rv : RelV v u) {Q1 : VK}
    (hq1 : ∀ d, H d = none → d ≠ s.heap.objs.size + 1 → Q1 .non (upd (upd H (s.heap.objs.size + 1) (exo (s.heap.objs.size + 1) C (some d))) d (exd d [(fld, v)])))
    (hR : ∀ s', CE X.stack X.prog X.w (upd H (s.heap.objs.size + 1) (exo (s.heap.objs.size + 1) C none)) { s with heap := xHeap s.heap [u] C } Q1 .none s' → R (.ok (.ret (.ref (s.heap.objs.size + 1)))) s')
    (hQn : ∀ v' H', Q1 v' H' → v' = .non) : codeAny (model X.prog X.w) X.A (.call (.ref C) ⟨[u], []⟩) R s := by
  obtain ⟨hn, kk, I2⟩ := inv_start_x (C := C) I [u]
  obtain ⟨fI, fd, iC, tI, hb, F1⟩ := T.ini
  obtain ⟨B, newId, initId, bmB, fb, sf, ii, ov⟩ := T.T.base
  obtain ⟨nm, N, qn, bs, bm, hdct, sn, sub, ab, col, dd, k0, k1, k2, k3, k5, hC, hT⟩ := PySem.W.excInit_of I.kIn ii
  have hsp : spXI X.K fld [V.ref (s.heap.objs.size + 1), v] (upd H (s.heap.objs.size + 1) (exo (s.heap.objs.size + 1) C none)) Q1 E0 := by
    refine ⟨_, C, v, rfl, T.T, T.no, upd_same, fun d hd hne => ?_⟩
    rw [upd2]
    exact hq1 d (by rwa [upd_ne hne] at hd) hne
  obtain ⟨h0, g, dr, tk, os⟩ := s
  refine HandSPX.call_own fb hT hC (PySem.W.looks_findIn I.kIn iC) (fun self => PySem.W.bind_fn I.kIn self tI) (show 1 ≤ sizeLine by decide)
    (codeAny_mono (F1.run _ X.stack _ _ ⟨[Value.ref (h0.objs.size + 1), u], []⟩ [Value.ref (h0.objs.size + 1), u] [V.ref (h0.objs.size + 1), v] Q1 E0 (hr.make C [u] []) (I2.env0.make C [u] []) (hb _ [Value.ref (h0.objs.size + 1), u] I2.kIn rfl) (.cons (show L2.RelV (V.ref (h0.objs.size + 1)) (Value.ref (h0.objs.size + 1)) from rfl) (.cons rv .nil)) hsp) fun r s' hq' => ?_)
  cases r with
  | error er => exact (show False from hq').elim
  | ok fl =>
    cases fl with
    | ret u' =>
      have hq2 := hq'
      obtain ⟨v', H', os', bare', un', hok', rv', q'⟩ := hq'
      have ev := hQn _ _ q'
      subst ev
      cases rv'
      exact ⟨rfl, hR s' hq2⟩
    | next => exact False.elim hq'
    | brk => exact False.elim hq'
    | cont => exact False.elim hq'
/-- C(e), as a value: a new exception at a, its dict at d -/
def tXmk (C : Addr) (fld : Str) (ta : TA) : TE := fun σ H Q => ta σ H fun vs H1 => ∃ v, vs = [v] ∧ ∀ a d, H1 a = none → H1 d = none → d ≠ a → Q (.ref a) (upd (upd H1 a (exo a C (some d))) d (exd d [(fld, v)]))
theorem pe_xmk {es : List Expr} {ta : TA} (T : XI X C fld) (hr : Room 2 X.A) (hg : Gl X x) (hm : X.mg x = some (.ref C)) (ha : PA X (e :: es) ta) (hdb : (x == ("__debug__" : Str)) = false := by decide)
    (hst : starEach (e :: es) X.env = (false, eval e X.env) :: starEach es X.env := by rfl) (hpl : (backTo pos (starEach es X.env)).any (·.1) = false := by rfl) : PE X (.Call (.Name x p) (e :: es) [] pos) (tXmk C fld ta) := by
  refine ⟨fun pins s σ H Q I h => ?_⟩
  refine wpAny_Call_Name_kw (ld_glob I hg hm ?_ hdb)
  refine PySem.W.callWith_K (h₀ := X.base) I.ok.mod.kin T.T.kC (thn (ha.run pos pins s σ H _ I h) fun us s1 ⟨vs, H1, I1, r1, v, ev, q1⟩ => ⟨I1.kIn, ?_⟩) hst hpl
  subst ev
  obtain ⟨u, rfl, ru⟩ := r1.one
  obtain ⟨hn, kk, I2⟩ := inv_start_x (C := C) I1 [u]
  refine wpAny_call (run_x (Q1 := fun v' H' => v' = .non ∧ Q (.ref (s1.heap.objs.size + 1)) H') T hr I1 ru (fun d hd hne => ⟨rfl, q1 _ d hn hd hne⟩) (fun s' c => ?_) fun v' H' q => q.1)
  obtain ⟨v', H', I3, _, _, q⟩ := I2.after c
  exact ⟨.ref (s1.heap.objs.size + 1), H', I3, rfl, q⟩
/-- C(e), to be raised -/
def tXraise (C : Addr) (fld : Str) (ta : TA) : L2.St → Hp → XK → Prop := fun σ H Q => ta σ H fun vs H1 => ∃ v, vs = [v] ∧ ∀ d, H1 d = none → Q (.ref C) (some d) (upd H1 d (.xd [(fld, v)]))
theorem pmk_x {es : List Expr} {ta : TA} (T : XI X C fld) (hr : Room 2 X.A) (hg : Gl X x) (hm : X.mg x = some (.ref C)) (ha : PA X (e :: es) ta) (hdb : (x == ("__debug__" : Str)) = false := by decide)
    (hst : starEach (e :: es) X.env = (false, eval e X.env) :: starEach es X.env := by rfl) (hpl : (backTo pos (starEach es X.env)).any (·.1) = false := by rfl) : PMk X (.Call (.Name x p) (e :: es) [] pos) (tXraise C fld ta) := by
  intro pins s σ H Q I h
  refine wpAny_Call_Name_kw (ld_glob I hg hm ?_ hdb)
  refine PySem.W.callWith_K (h₀ := X.base) I.ok.mod.kin T.T.kC (thn (ha.run pos pins s σ H _ I h) fun us s1 ⟨vs, H1, I1, r1, v, ev, q1⟩ => ⟨I1.kIn, ?_⟩) hst hpl
  subst ev
  obtain ⟨u, rfl, ru⟩ := r1.one
  obtain ⟨hn, kk, I2⟩ := inv_start_x (C := C) I1 [u]
  refine wpAny_call (run_x (Q1 := fun v' H' => v' = .non ∧ ∃ d, H1 d = none ∧ d ≠ s1.heap.objs.size + 1 ∧ H' = upd (upd H1 (s1.heap.objs.size + 1) (exo (s1.heap.objs.size + 1) C (some d))) d (exd d [(fld, v)])) T hr I1 ru
    (fun d hd hne => ⟨rfl, d, hd, hne, rfl⟩) (fun s' c => ?_) fun v' H' q => q.1)
  obtain ⟨v', H', os', bare', un', hok', rv', ev, d, hd, hne, eH⟩ := c
  subst eH
  obtain ⟨h0, g, dr, tk, os⟩ := s1
  obtain ⟨h2, g2, d2, t2, os2⟩ := s'
  have eD : upd (del (upd (upd H1 (h0.objs.size + 1) (exo (h0.objs.size + 1) C (some d))) d (exd d [(fld, v)])) (h0.objs.size + 1)) d (.xd [(fld, v)]) = upd H1 d (.xd [(fld, v)]) := by
    funext b
    by_cases hb : b = d
    · rw [hb, upd_same, upd_same]
    · rw [upd_ne hb, upd_ne hb]
      by_cases hb2 : b = h0.objs.size + 1
      · rw [hb2, del_same]
        exact hn.symm
      · rw [del_ne hb2, upd_ne hb, upd_ne hb2]
  exact mk_end (raises_own T.T.exC T.T.tyC) I1 (Nat.le_succ _) kk un' hok' os' bare' (by rw [upd_ne (Ne.symm hne), upd_same]) upd_same hd (by rw [eD]; exact q1 d hd)
end
end Xo
set_option Elab.async false
set_option linter.all false
set_option maxRecDepth 100000
set_option maxHeartbeats 1000000
/-! Xt: try: .. except (A, B, C) as n: e = n, the exception kept -/
namespace Xo
open PySem PySem.Spec PyProof.Rows L2
/-- an exception that is kept: its class, its dict -/
def xob (a : Addr) (cls : Value) (d : Option Addr) : HO := .ext fun h => ∃ o vs, h.get? a = some o ∧ Zc cls d o ∧ o.data = .fields vs
theorem xob_ok {P : Program} {w : World} {H : Hp} {h : Heap} {a : Addr} {cls : Value} {d : Option Addr} {o : Obj} {vs : Array Value} (e : h.get? a = some o) (z : Zc cls d o) (f : o.data = .fields vs) : ObjOk P w H h a (xob a cls d) :=
  ⟨⟨o, vs, e, z, f⟩, ⟨o, e⟩, fun h1 h2 ⟨o', vs', e', z', f'⟩ k => ⟨o', vs', k _ e', z', f'⟩⟩
section
variable {X : Cx} {pins : List (Addr × Obj)} {σ : L2.St} {H : Hp} {s : Shared}
/-- tracked from now on, what the entry's heap had not -/
theorem inv_trackN {a : Addr} {o : HO} (I : Inv X pins σ H s) (h0 : X.s_0.heap.get? a = none) (hn : H a = none) (nL : a ≠ X.env.locals) (nC : ∀ y c, X.env.cells.lookup y = some c → c ≠ a) (nP : ∀ p ∈ X.pn ++ pins, p.1 ≠ a)
    (new : ObjOk X.prog X.w (upd H a o) s.heap a o) : Inv X pins σ (upd H a o) s := by
  have nt : ∀ {b u}, H b = some u → b ≠ a := fun {b u} e => ne_of_none e hn
  have n0 : ∀ {b u}, X.s_0.heap.get? b = some u → b ≠ a := fun {b u} e z => by
    rw [z, h0] at e
    cases e
  refine ⟨I.ok, I.os, I.bare, ⟨I.base.keep, I.base.slot, fun b u e n x => ?_, I.base.there, fun b xs e => ?_, fun b u v e => ?_, fun b ps e => ?_⟩, I.loc, I.cell, ?_, fun y c e => ?_, fun p hp => ?_, fun b u e => ?_, I.len⟩
  · rw [upd_ne (n0 e)]
    exact I.base.free b u e n x
  · have q := I.base.tups b xs e
    rw [upd_ne (nt q)]
    exact q
  · have q := I.base.frzs b u v e
    rw [upd_ne (nt q)]
    exact q
  · obtain ⟨more, q⟩ := I.base.tbls b ps e
    exact ⟨more, by rw [upd_ne (nt q)]; exact q⟩
  · rw [upd_ne (Ne.symm nL)]
    exact I.free
  · rw [upd_ne (nC y c e)]
    exact I.freeC y c e
  · obtain ⟨q1, q2, q3⟩ := I.pin p hp
    exact ⟨q1, by rw [upd_ne (nP p hp)]; exact q2, q3⟩
  · by_cases hb : b = a
    · rw [hb, upd_same] at e
      cases e
      rw [hb]
      exact new
    · rw [upd_ne hb] at e
      exact (I.hok b u e).stay (fun _ _ _ q => q) (fun c q => by rw [upd_ne (nt q)]; exact q) fun c xs q => by rw [upd_ne (nt q)]; exact q
theorem fl_keeps {B h h2 : Heap} {l : List Env} {a : Addr} {Z : Obj → Prop} (f : HandSPX.FlyingZ B l a Z h) (k : ∀ b o, h.get? b = some o → h2.get? b = some o) : HandSPX.FlyingZ B l a Z h2 := by
  obtain ⟨k1, k2, k3, oe, vs, T, oT, ts, e1, e2, e3, e4, e5, e6, e7, e8, e9⟩ := f
  exact ⟨fun b o q => k b o (k1 b o q), k2, Heap.FunFrames.of_keeps (fun b o e _ => ⟨o, k b o e, rfl⟩) k3, oe, vs, T, oT, ts, k _ _ e1, e2, e3, e4, e5, e6, k _ _ e7, e8, e9⟩
end
/-- what the clause wishes of an exception of the body -/
def wKeep (K : PySem.W.Frag) (cs : List Value) (i j : Nat) (D : Ends) : WX := fun cls d σ H => PySem.W.exmAny K cls cs = some true ∧ ∀ a, H a = none → D.nx (((σ.set i (some (.ref a))).set j (some (.ref a))).set i none) (upd H a (xob a cls d))
section
variable {X : Cx} {n y x1 x2 x3 : Str} {C1 C2 C3 : Addr} {i j k : Nat} {body : List Stmt} {q1 q2 q3 qt py pn pa pos pos' : Pos} {tb : WX → TS}
theorem ps_try_keep (hs : X.stack = X.env :: X.outer) (hf : X.env.frame = some X.env.locals) (hex : X.ex = []) (hN : X.N.Nodup) (hi : X.N[i]? = some n) (hln : X.env.kindOf n = some .local) (hj : X.N[j]? = some y) (hlj : X.env.kindOf y = some .local)
    (g1 : Gl X x1 ∧ X.mg x1 = some (.ref C1) ∧ (x1 == ("__debug__" : Str)) = false) (g2 : Gl X x2 ∧ X.mg x2 = some (.ref C2) ∧ (x2 == ("__debug__" : Str)) = false) (g3 : Gl X x3 ∧ X.mg x3 = some (.ref C3) ∧ (x3 == ("__debug__" : Str)) = false)
    (hdn : (n == ("__debug__" : Str)) = false) (hdc : (n == ("__classdict__" : Str)) = false)
    (hb : ∀ (W : WX) (pn : List (Addr × Obj)) (xe : Value → Shared → Prop), Takes (X.tr pn xe) W → PassesOwn (model X.prog X.w) X.A X.env xe → PSs (X.tr pn xe) body (tb W)) :
    PS X (.Try body [.ExceptHandler (some (.Tuple [.Name x1 q1, .Name x2 q2, .Name x3 q3] k qt)) (some n) [.Assign [.Name y py] (.Name n pn) pa] pos'] [] [] pos)
      (fun D σ H => tb (wKeep X.K [.ref C1, .ref C2, .ref C3] i j D) D σ H) := by
  refine ⟨fun pins s σ H D I h => ?_⟩
  have okX := I.ok
  have frX : X.A.frames = some (X.env :: X.outer) := by rw [okX.frames, hs]
  have locN : Loc X.env.scope n := .inl hln
  refine wpAny_Try_except ?_
  refine wpAny_mono ((hb (wKeep X.K [.ref C1, .ref C2, .ref C3] i j D) (X.pn ++ pins) (fun e t1 => wpAny (model X.prog X.w) X.A (noteFrame e X.env) (fun _ t2 => wpAny (model X.prog X.w) X.A (setFlight e none)
    (fun _ t3 => wpAny (model X.prog X.w) X.A (handleBy e X.env [.ExceptHandler (some (.Tuple [.Name x1 q1, .Name x2 q2, .Name x3 q3] k qt)) (some n) [.Assign [.Name y py] (.Name n pn) pa] pos']) (SP X pins D) X.xe t3) X.xe t2) X.xe t1)
    (fun u t xx => ?_) PassesOwn.looking).run [] s σ H D (I.toTry _) h) (fun fl t hsp => ?_) (fun e t he => he)
  · obtain ⟨a, B, t0, pins', σ', H', cls, d, rfl, J', nb, up, sky, na, hos, hag, hany, hnx⟩ := xx
    have J : Inv X pins σ' H' t0 := J'.ofTry okX
    have sky2 : Sky B (X.env :: X.outer) a (Zc cls d) X.env.locals t.heap := by rw [← hs]; exact sky
    show wpAny (model X.prog X.w) X.A (noteFrame (.ref a) X.env) _ _ _
    refine Sky.land Zc.steady frX hf sky2 fun h3 fl3 up3 => ?_
    have J3 : Inv X pins σ' H' { t with heap := h3 } := J.landed nb fl3.1 (up.trans up3) hos hag
    obtain ⟨o3, vs3, he3, hz3, hd3⟩ := fl3.there
    have nfr : a ∉ frs (X.env :: X.outer) := fun hm => by
      obtain ⟨_, o', e', hnf⟩ := fl3.2.2.1.mem hm
      rw [he3] at e'
      cases e'
      exact hnf _ hd3
    have nL : a ≠ X.env.locals := fun z => nfr (List.mem_filterMap.mpr ⟨X.env, List.mem_cons_self, by rw [hf, z]⟩)
    have nF : a ∉ X.fs := fun hm => by
      obtain ⟨e, he, q⟩ := List.mem_filterMap.mp hm
      exact nfr (List.mem_filterMap.mpr ⟨e, List.mem_cons_of_mem _ he, q⟩)
    have S3 := J3.suite he3 hd3 na nL nF
    -- the tuple of the classes
    refine wpAny_handleBy_cons (codeAny_handlers_test ?_) (by intro q; cases q)
    refine wpAny_Tuple (wpAny_items_cons (ld_glob (X := X.suite a ((a, o3) :: (X.pn ++ pins))) S3 g1.1 g1.2.1 (wpAny_items_cons (ld_glob (X := X.suite a ((a, o3) :: (X.pn ++ pins))) S3 g2.1 g2.2.1
      (wpAny_items_cons (ld_glob (X := X.suite a ((a, o3) :: (X.pn ++ pins))) S3 g3.1 g3.2.1 (wpAny_items_nil ⟨(show 3 ≤ sizeLine by decide), ?_⟩) g3.2.2)) g2.2.2)) g1.2.2))
    have kp : ∀ b o, h3.get? b = some o → (h3.push { cls := .type "tuple", data := .seq [Value.ref C1, .ref C2, .ref C3].toArray }).get? b = some o := fun _ _ z => Heap.get?_push_of_some _ z
    have htp : (h3.push { cls := .type "tuple", data := .seq [Value.ref C1, .ref C2, .ref C3].toArray }).get? h3.objs.size = some { cls := .type "tuple", data := .seq [Value.ref C1, .ref C2, .ref C3].toArray } := Heap.get?_push_size h3 rfl
    show wpAny _ _ (excMatches (.ref a) (.ref h3.objs.size)) _ _ { t with heap := h3.push { cls := .type "tuple", data := .seq [Value.ref C1, .ref C2, .ref C3].toArray } }
    generalize h3.push { cls := .type "tuple", data := .seq [Value.ref C1, .ref C2, .ref C3].toArray } = h4 at kp htp
    have fl4 := fl_keeps fl3 kp
    have he4 := kp _ _ he3
    have LT : PySem.W.Looks (model X.prog X.w) h4 (typeOf (.ref a)) cls := fun A Q E s k q => wpAny_typeOf_ref (k _ _ he4) (by rw [hz3.1]; exact q)
    refine (PySem.W.exm_tup3 (M := model X.prog X.w) (J3.kIn.keeps kp) LT htp hany).here ?_
    refine codeAny_handlers_suite_as ?_
    refine HandSPX.lands_againZ fl4 fun h5 fl5 up5 => ?_
    have J5 : Inv X pins σ' H' { t with heap := h5 } := J.landed nb fl5.1 (((up.trans up3).trans (Heap.UpToSlots.of_keeps kp)).trans up5) hos hag
    obtain ⟨o5, vs5, he5, hz5, hd5⟩ := fl5.there
    have S5 := J5.suite he5 hd5 na nL nF
    refine store_ok (X := X.suite a ((a, o5) :: (X.pn ++ pins))) (v := .ref a) S5 hN hi locN rfl (fun t6 S6 => ?_) (.inr hln)
    have suite : PSs (X.suite a ((a, o5) :: (X.pn ++ pins))) [.Assign [.Name y py] (.Name n pn) pa] (tAsg (tVar i) (gName j)) := pss_one (ps_set (i := j) hN hj (.inl hlj) (pe_var (i := i) hi (.inl hln) hdn hdc) (by rfl) (.inr hlj))
    have hil : i < σ'.length := by
      rw [J.len]
      exact (List.getElem?_eq_some_iff.mp hi).1
    refine wpAny_mono (suite.run [] t6 _ H' { nx := fun σ6 H6 => σ6 = (σ'.set i (some (.ref a))).set j (some (.ref a)) ∧ H6 = H', rt := fun _ _ => False } S6 ⟨.ref a, by rw [List.getElem?_set_self hil], rfl, rfl⟩) (fun fl t7 hsp => ?_) (fun _ _ z => False.elim z)
    cases fl with
    | next =>
      obtain ⟨σ7, H7, S7, rfl, rfl⟩ := hsp
      have J7 := S7.unsuite okX
      obtain ⟨he7, _⟩ := S7.pin (a, o5) (List.mem_append_left _ List.mem_cons_self)
      have n0 : ∀ b o, t0.heap.get? b = some o → b ≠ a := fun b o e z => by
        rw [z] at e
        have q := nb a o e (by rw [hs]; exact nfr)
        rw [fl3.2.1] at q
        cases q
      have hs0 : X.s_0.heap.get? a = none := by
        cases q : X.s_0.heap.get? a with
        | none => rfl
        | some o =>
          obtain ⟨o', q'⟩ := J.base.there a o q (by rw [hex]; simp)
          exact absurd rfl (n0 a o' q')
      have J8 := inv_trackN (o := xob a cls d) J7 hs0 na nL (fun y c e z => by
        obtain ⟨v, oc, q1, q2⟩ := J7.cell y c e
        rw [z, he7] at q1
        cases q1
        rw [hd5] at q2
        cases q2) (fun p hp => n0 _ _ (J.pin p hp).1) (xob_ok he7 hz5 hd5)
      exact gone_ok J8 hN hi hln fun t9 J9 => ⟨_, _, J9, hnx a na⟩
    | brk =>
      obtain ⟨_, _, _, q⟩ := hsp
      exact False.elim q
    | cont =>
      obtain ⟨_, _, _, q⟩ := hsp
      exact False.elim q
    | ret u =>
      obtain ⟨_, _, _, _, _, q⟩ := hsp
      exact False.elim q
  · cases fl with
    | next =>
      obtain ⟨σ', H', J', q⟩ := hsp
      exact wpAny_execs_nil ⟨σ', H', J'.ofTry okX, q⟩
    | brk =>
      obtain ⟨σ', H', J', q⟩ := hsp
      exact ⟨σ', H', J'.ofTry okX, q⟩
    | cont =>
      obtain ⟨σ', H', J', q⟩ := hsp
      exact ⟨σ', H', J'.ofTry okX, q⟩
    | ret u =>
      obtain ⟨v, σ', H', J', r, q⟩ := hsp
      exact ⟨v, σ', H', J'.ofTry okX, r, q⟩
end
end Xo
set_option Elab.async false
set_option linter.all false
set_option maxRecDepth 100000
set_option maxHeartbeats 1000000
/-! Xi: a kept exception asked for its class; its field read -/
namespace PySem.W
open PySem PySem.Spec PySem.Calls PyProof.Rows
section
variable {prog : Program} {w : World} {A : Around} {E : Value → Shared → Prop} {s : Shared} {K : Frag} {x D : Addr} {ox od : Obj}
/-- its __class__ -/
theorem xi_class {Q : Option Value → Shared → Prop} (T : L2.ExcC K D) (X : K.In s.heap) (I : InstAt s.heap x ox D (some od)) (h : Q (some (.ref D)) { s with toks := s.toks + 1 }) : wpAny (model prog w) A (getAttr? (.ref x) "__class__") Q E s := by
  have fo : findObj K D (some od) "__class__" = some (.bind (.builtin "getset_descriptor.__get__") (.builtin "object.__class__")) := findObj_data (by obtain ⟨cd, hc, _⟩ := any_some T.hd; rw [hc]; rfl) T.ha T.hn T.ht
  obtain ⟨h0, g, d, t, os⟩ := s
  have K0 := I.type (M := model prog w)
  have K1 := looks_findIn (M := model prog w) X T.hg
  have K2 := looks_findIn (M := model prog w) X T.hk
  have K3 := looks_find (M := model prog w) X I fo
  have isB : Looks (model prog w) h0 (isInstance (.ref x) (.type "BaseException")) true := K0.andThen (looks_subIn X T.hs)
  have c0 : (false && onTheHeap (Value.builtin "BaseException.__getattribute__")) = false := rfl
  have c1 : (onTheHeap (Value.ref D) && Value.builtin "BaseException.__getattribute__" == Value.builtin "object.__getattribute__") = false := by
    rw [show (Value.builtin "BaseException.__getattribute__" == Value.builtin "object.__getattribute__") = false by decide +kernel]
    rfl
  unfold getAttr? getAttrBy? getAttrBy
  refine wpAny_bind (wpAny_mkText (wpAny_bind (wpAny_attempt (wpAny_holding (wpAny_bind (K0.at (wpAny_bind (K1.at ?_))))))))
  show wpAny _ _ (if (onTheHeap (Value.ref D) && Value.builtin "BaseException.__getattribute__" == Value.builtin "object.__getattribute__") = true then _ else _) _ _ ⟨h0, g, d, t + 1, os⟩
  rw [c1, if_neg Bool.false_ne_true]
  unfold getAttrByItsOwn hookBefore
  refine wpAny_bind ?_
  rw [if_pos (show onTheHeap (Value.ref D) = true from rfl)]
  refine K2.at (wpAny_bind (wpAny_attempt (wpAny_holding ?_)))
  unfold callGetattribute
  rw [c0, if_neg Bool.false_ne_true]
  unfold boundAndCalled
  rw [F.excAttr_ValueError.ga.bind (.ref x)]
  refine wpAny_bind (wpAny_pure ?_)
  refine wpAny_call (codeAny_call_builtin F.excAttr_ValueError.ga.plain F.entry_bexc_ga ?_)
  refine @check_slot (model prog w) _ _ ⟨h0, g, d, t + 1, os⟩ "BaseException.__getattribute__" "BaseException" "__getattribute__" (.ref x) [.str "__class__" t] [] _ (by decide +kernel) (by decide +kernel) isB (F.args_bexc_ga (.ref x) (.str "__class__" t)) ?_
  unfold Builtin.«object.__getattribute__»
  refine wpAny_bind (wpAny_of_eq (a := ((Value.ref x : Value), [Value.str "__class__" t])) (by first | rfl | (simp only [slotArgs]; rfl)) ?_)
  refine wpAny_bind (wpAny_pure (wpAny_bind (K0.at (wpAny_bind (K3.at ?_)))))
  refine wpAny_bind (wpAny_holding (wpAny_call (class_get (s := ⟨h0, g, d, t + 1, os⟩) X I T.hm ?_)))
  refine wpAny_pure ?_
  show wpAny _ _ (handedOut (.ref D)) _ _ ⟨h0, g, d, t + 1, os⟩
  rw [handedOut_of (v := .ref D) rfl]
  first
    | exact wpAny_pure (wpAny_pure h)
    | exact wpAny_pure h
    | exact wpAny_pure (wpAny_bind (wpAny_pure (wpAny_pure h)))
theorem xi_kit (T : L2.ExcC K D) : KitX K (.ref x) (.ref D) (fun h => InstAt h x ox D (some od)) where
  ty := fun _ _ _ I => I.type
  it := fun _ _ X _ => by
    obtain ⟨cd, hc, _⟩ := any_some T.hd
    unfold clsIn at hc
    split at hc
    · rename_i ho
      intro A' Q' E' s' k q
      unfold isType loadHead
      exact wpAny_bind (wpAny_loadPart (k _ _ (X _ _ ho)) (wpAny_pure q))
    · cases hc
  ne := fun h tp dd its n sl X htp => Bool.eq_false_iff.mpr fun q => by
    obtain ⟨cd, hc, _⟩ := any_some T.hd
    have e : D = tp := Value.ref.inj (beq_iff_eq.mp q)
    subst e
    unfold clsIn at hc
    split at hc
    · rename_i ho
      cases (X _ _ ho).symm.trans htp
    · cases hc
  ca := fun X I k => xi_class T X I k
end
end PySem.W
namespace Xo
open PySem PySem.Spec PyProof.Rows L2
/-- an exception of the class at C stands at a, its fields fs at d -/
def XAt (H : Hp) (a C d : Addr) (fs : List (Str × V)) : Prop := (H a = some (exo a C (some d)) ∨ H a = some (xob a (.ref C) (some d))) ∧ (H d = some (exd d fs) ∨ H d = some (.xd fs))
section
variable {X : Cx} {pins : List (Addr × Obj)} {σ : L2.St} {H : Hp} {s : Shared} {a C d : Addr} {fs : List (Str × V)}
theorem xat (I : Inv X pins σ H s) (h : XAt H a C d fs) : ∃ o od mA, PySem.W.InstAt s.heap a o C (some od) ∧ s.heap.get? d = some od ∧ s.heap.Ns1 d mA ∧ ∀ f, RelO (fs.lookup f) (mA f) := by
  have e1 : ∃ o vs, s.heap.get? a = some o ∧ Zc (.ref C) (some d) o ∧ o.data = .fields vs := by
    rcases h.1 with e | e
    · obtain ⟨t1, q⟩ := exo_at I.hok e
      exact ⟨_, _, q, ⟨rfl, rfl⟩, rfl⟩
    · have x : ObjOk X.prog X.w H s.heap a (.ext fun h => ∃ o vs, h.get? a = some o ∧ Zc (.ref C) (some d) o ∧ o.data = .fields vs) := I.hok a _ e
      exact x.1
  have e2 : ∃ mA, s.heap.Ns1 d mA ∧ ∀ f, RelO (fs.lookup f) (mA f) := by
    rcases h.2 with e | e
    · exact exd_at I.hok e
    · exact (show ObjOk X.prog X.w H s.heap d (.xd fs) from I.hok d _ e)
  obtain ⟨o, vs, q1, q2, q3⟩ := e1
  obtain ⟨mA, n1, r⟩ := e2
  obtain ⟨od, ho, hl⟩ := lookIn_ns n1
  exact ⟨o, od, mA, ⟨q1, q2.1, by unfold PySem.W.notCls; rw [q3] <;> rfl, by rw [q2.2]; exact ho⟩, ho, n1, r⟩
/-- isinstance(e, c): one class -/
def rIsX (K : PySem.W.Frag) : List V → Hp → VK → Prop := fun xs H Q => ∃ (a C d : Addr) (fs : List (Str × V)) (c : V) (cv : Value) (b : Bool), xs = [.ref a, c] ∧ XAt H a C d fs ∧ ExcC K C ∧ ClsV c cv ∧ PySem.W.kitOne K (.ref C) cv = some b ∧ Q (.bl b) H
theorem call_isX : CallR X (.builtin "isinstance") (rIsX X.K) := by
  intro pins s σ H xs us Q I r h
  obtain ⟨a, C, d, fs, c, cv, b, rfl, xa, T, hc, e, q⟩ := h
  obtain ⟨u1, u2, rfl, r1, r2⟩ := vals2 r
  obtain rfl : u1 = Value.ref a := r1
  obtain ⟨o, od, mA, J, _⟩ := xat I xa
  cases hc.eq r2
  exact PySem.W.kia_one (PySem.W.xi_kit T) I.kIn J e (fun z => nomatch z) fun tk => ⟨.bl b, H, I.tok tk, rfl, q⟩
/-- isinstance(e, (c1, ..)) -/
def rIsXT (K : PySem.W.Frag) : List V → Hp → VK → Prop := fun xs H Q => ∃ (a C d : Addr) (fs : List (Str × V)) (tp : Addr) (cs : List V) (us : List Value) (b : Bool), xs = [.ref a, .ref tp] ∧ XAt H a C d fs ∧ ExcC K C ∧ H tp = some (.tup cs) ∧ Paired ClsV cs us ∧ PySem.W.kitAny K (.ref C) us = some b ∧ Q (.bl b) H
theorem call_isXT : CallR X (.builtin "isinstance") (rIsXT X.K) := by
  intro pins s σ H xs us Q I r h
  obtain ⟨a, C, d, fs, tp, cs, ws, b, rfl, xa, T, hT, k, e, q⟩ := h
  obtain ⟨u1, u2, rfl, r1, r2⟩ := vals2 r
  obtain rfl : u1 = Value.ref a := r1
  obtain rfl : u2 = Value.ref tp := r2
  obtain ⟨o, od, mA, J, _⟩ := xat I xa
  obtain ⟨_, its, rv, ob, h1, h2, n, h3⟩ := (show ObjOk X.prog X.w H s.heap tp (.tup cs) from I.hok tp _ hT)
  cases ClsV.all k rv
  obtain ⟨oc, dct, dt, sl⟩ := ob
  dsimp only at h2 h3
  subst h2 h3
  exact PySem.W.kia_tup (PySem.W.xi_kit T) I.kIn J h1 e (fun z => nomatch z) fun tk => ⟨.bl b, H, I.tok tk, rfl, q⟩
/-- e.f -/
def tXfld (K : PySem.W.Frag) (f : Str) (te : TE) : TE := fun σ H Q => te σ H fun x H1 => ∃ (a C d : Addr) (fs : List (Str × V)) (v : V), x = .ref a ∧ XAt H1 a C d fs ∧ XC K C ∧ PySem.W.findIn K (.ref C) f = some none ∧ fs.lookup f = some v ∧ Q v H1
theorem pe_xfld {e : Expr} {te : TE} {n : Str} {pos : Pos} (he : PE X e te) (hb : attributeBase e n X.env (eval e X.env) = eval e X.env := by rfl) : PE X (.Attribute e n pos) (tXfld X.K n te) := by
  refine ⟨fun pins s σ H Q I h => ?_⟩
  refine attr_of hb (thn (he.run pins s σ H _ I h) fun u s1 ⟨x, H1, I1, rx, a, C, d, fs, v, ex, xa, T, hno, hl, q⟩ => ?_)
  subst ex
  obtain rfl : u = Value.ref a := rx
  obtain ⟨o, od, mA, J, ho, n1, r⟩ := xat I1 xa
  obtain ⟨od', ho', hl'⟩ := lookIn_ns n1
  rw [ho] at ho'
  cases ho'
  obtain ⟨u, hu, ru⟩ := RelO.some_of (v := v) (o := mA n) (by rw [← hl]; exact r n)
  exact HandSPX.exc_get I1.kIn J T.ga T.gg T.exC (PySem.W.findObj_own T.hd hno rfl (by rw [hl', hu])) (handed_of ru) ⟨v, H1, I1.tok _, ru, q⟩
end
end Xo
set_option Elab.async false
set_option linter.all false
set_option maxRecDepth 100000
set_option maxHeartbeats 1000000
/-! Lm: x(lambda: e) and x(lambda n=0: e), the lambda called by x -/
namespace Lm
open PySem PySem.Spec PyProof.Rows L2 LamX
/-- the lambda's function -/
abbrev lmFn (q : Str) (params : Arguments) (body : Expr) (scope : Scope) (cl : List (Str × Addr)) (dV doc pm : Value) (c' : Addr) (ctv : Value) : FuncData := PySem.W.kdv_fn "<lambda>" q params (.expr body) scope cl dV doc pm (.ref c') ctv
/-- what is asked of its names: captured ones, globals, and parameters that the maker's text has no name like -/
structure LmS (N : List Str) (sc scope : Scope) (own : List Str) : Prop where
  kind : scope.kind = .function
  co : scope.isCoroutine = false
  gen : scope.isGenerator = false
  noc : ∀ y ∈ scope.names, y.2 ≠ .cell
  loc : ∀ y ∈ scope.names, y.2 = .local → y.1 ∉ N
  free : ∀ y ∈ scope.names, y.2 = .free → sc.names.lookup y.1 = some .cell ∨ sc.names.lookup y.1 = some .free
  par : ∀ n ∈ own, scope.names.lookup n = some .local
def lmB (N : List Str) (sc scope : Scope) (own : List Str) : Bool :=
  decide (scope.kind = .function) && (!scope.isCoroutine && (!scope.isGenerator && ((scope.names.all fun y => !decide (y.2 = .cell)) && ((scope.names.all fun y => !decide (y.2 = .local) || !decide (y.1 ∈ N)) &&
    ((scope.names.all fun y => !decide (y.2 = .free) || (decide (sc.names.lookup y.1 = some .cell) || decide (sc.names.lookup y.1 = some .free))) && (own.all fun n => decide (scope.names.lookup n = some .local)))))))
theorem lm_by {N : List Str} {sc scope : Scope} {own : List Str} (h : lmB N sc scope own = true) : LmS N sc scope own := by
  unfold lmB at h
  simp only [Bool.and_eq_true, Bool.or_eq_true, Bool.not_eq_true', decide_eq_true_eq, decide_eq_false_iff_not, List.all_eq_true] at h
  obtain ⟨h1, h2, h3, h4, h5, h6, h7⟩ := h
  exact ⟨h1, h2, h3, h4, fun y hy e => (h5 y hy).elim (fun z => absurd e z) id, fun y hy e => (h6 y hy).elim (fun z => absurd e z) id, h7⟩
section
variable {X : Cx} {pins : List (Addr × Obj)} {σ : L2.St} {H : Hp} {s : Shared}
theorem LmS.has {scope : Scope} {own : List Str} (L : LmS X.N X.env.scope scope own) (ok : X.Ok) : ∀ y ∈ scope.names, y.2 = .free → ∃ c, X.env.cells.lookup y.1 = some c := fun y hy e =>
  (L.free y hy e).elim (fun k => ok.has _ (.inl k)) fun k => ok.has _ (.inr k)
/-- behind the defaults -/
theorem lm_tail {T : List (Addr × Str)} {c P : Addr} {params : Arguments} {body : Expr} {scope : Scope} {dV : Value} {pos : Pos} {E : Value → Shared → Prop} {Q : Value → Shared → Prop} (I : Inv X pins σ H s) (TB : TabB X.base X.mg c P) (hcode : X.env.code = .ref c)
    (hm : (P, X.env.qual ++ "<lambda>") ∈ T) (hu : ∀ p ∈ T, p.1 = P → p.2 = X.env.qual ++ "<lambda>") (hT : Tabs T H) (hfree : ∀ y ∈ scope.names, y.2 = .free → ∃ c, X.env.cells.lookup y.1 = some c)
    (h : ∀ (f c' : Addr) (doc pm ctv : Value) (H1 : Hp) (s' : Shared), Inv X pins σ H1 s' → ExtN H H1 → Tabs T H1 → (∀ b o, s.heap.get? b = some o → H b = none → s'.heap.get? b = some o ∧ H1 b = none) →
      s'.heap.get? f = some { cls := .type "function", data := .func (lmFn (X.env.qual ++ "<lambda>") params body scope (cloFrom X.env.cells scope.names []) dV doc pm c' ctv) } → H1 f = none → f ∉ frs X.stack → H1 c' = some (CodeO c' (X.env.qual ++ "<lambda>")) → Q (.ref f) s') :
    wpAny (model X.prog X.w) X.A (makeTail "<lambda>" (X.env.qual ++ "<lambda>") params (.expr body) scope X.env dV .none none pos pos.line) Q E s := by
  obtain ⟨ps, hP, ht, ha⟩ := hT _ hm
  have bP : s.heap.BuiltinsAt X.mg P := TB.bm.keeps I.bk
  have oP : s.heap.get? P = some { cls := .none, data := .fields ps } := I.hok P _ hP
  have out : ∀ f, s.heap.objs.size ≤ f → f ∉ frs X.stack := fun f hf z => by
    rcases List.mem_cons.mp (I.stkSub _ z) with e | e
    · have := I.lt
      rw [← e] at this
      exact Nat.lt_irrefl _ (Nat.lt_of_lt_of_le this hf)
    · exact I.nofs hf e
  cases hc : codeAmong pos ps.toList with
  | none =>
    refine PySem.W.kdv_makeTail (mg := X.mg) (c := c) (P := P) (ps := ps) (closure_ok hfree) I.ok.glob (I.mod.glob.keeps I.bk) hcode (TB.code.keeps I.bk) oP ht hc TB.gP bP fun c' ctv doc h1 tk hx hge hlt hrec htb => ?_
    obtain ⟨c2, oc, vs, t, e2, hoc, hd, hv⟩ := hrec
    cases e2
    have hz : s.heap.objs.size ≤ h1.objs.size := Nat.le_trans hge (Nat.le_of_lt hlt)
    have nC : H c' = none := I.hok.fresh hge
    have I1 := inv_table (t' := tk) (more := #[rawInt pos.line, rawInt pos.col, .ref c'])
      (h' := h1.push { cls := .type "function", data := .func (lmFn (X.env.qual ++ "<lambda>") params body scope (cloFrom X.env.cells scope.names []) dV doc ((X.mg "__name__").getD .none) c' ctv) }) I hP
      (fun b o hb e => Heap.get?_push_of_some _ (hx b o hb e)) (Heap.get?_push_of_some _ htb) hge ⟨oc, vs, t, Heap.get?_push_of_some _ hoc, hd, hv⟩
    have nPb : ∀ b, H b = none → b ≠ P := fun b e z => by
      rw [z, hP] at e
      cases e
    have eN : ExtN H (upd (upd H P (.tbl (ps ++ #[rawInt pos.line, rawInt pos.col, .ref c']))) c' (CodeO c' (X.env.qual ++ "<lambda>"))) := fun b o e n => by
      rw [upd_ne (ne_of_none e nC), upd_ne (fun z => n ps (Option.some.inj (e.symm.trans (by rw [z]; exact hP))))]
      exact e
    have eL : (ps ++ #[rawInt pos.line, rawInt pos.col, .ref c']).toList = ps.toList ++ [rawInt pos.line, rawInt pos.col, .ref c'] := by simp
    refine h h1.objs.size c' doc ((X.mg "__name__").getD .none) ctv _ _ I1 eN (fun p hp => ?_) (fun b o e n => ⟨Heap.get?_push_of_some _ (hx b o (nPb b n) e), ?_⟩) (Heap.get?_push_size _ rfl) ?_ (out _ hz) upd_same
    · by_cases hb : p.1 = P
      · rw [hu p hp hb, hb]
        refine ⟨_, by rw [upd_ne (ne_of_none hP nC), upd_same], by rw [eL]; exact PySem.TriplesOk_snoc _ _ _ _ ht, fun p' cv hcv => ?_⟩
        rw [eL] at hcv
        rcases among_app _ ht hcv with z | z
        · obtain ⟨c0, e1, e2⟩ := ha p' cv z
          exact ⟨c0, e1, eN _ _ e2 codeO_ne⟩
        · exact ⟨c', z, upd_same⟩
      · obtain ⟨ps', a1, a2, a3⟩ := hT p hp
        refine ⟨ps', by rw [upd_ne (ne_of_none a1 nC), upd_ne hb]; exact a1, a2, fun p' cv hcv => ?_⟩
        obtain ⟨c0, e1, e2⟩ := a3 p' cv hcv
        exact ⟨c0, e1, eN _ _ e2 codeO_ne⟩
    · rw [upd_ne (fun z => Nat.lt_irrefl _ (Nat.lt_of_lt_of_le (Heap.lt_size e) (by rw [z]; exact hge))), upd_ne (nPb b n)]
      exact n
    · rw [upd_ne (Nat.ne_of_gt hlt), upd_ne (Nat.ne_of_gt (Nat.lt_of_lt_of_le (Heap.lt_size oP) hz))]
      exact I.hok.fresh hz
  | some cv =>
    obtain ⟨c', e, hco⟩ := ha pos cv hc
    subst e
    refine PySem.W.kdv_makeTailHit (mg := X.mg) (c := c) (P := P) (ps := ps) (closure_ok hfree) I.ok.glob (I.mod.glob.keeps I.bk) hcode (TB.code.keeps I.bk) oP ht hc bP fun ctv doc h1 tk hx hz => ?_
    have I1 : Inv X pins σ H { s with heap := h1.push { cls := .type "function", data := .func (lmFn (X.env.qual ++ "<lambda>") params body scope (cloFrom X.env.cells scope.names []) dV doc ((X.mg "__name__").getD .none) c' ctv) }, toks := tk } :=
      I.kept fun b o e => Heap.get?_push_of_some _ (hx b o e)
    exact h h1.objs.size c' doc ((X.mg "__name__").getD .none) ctv H _ I1 (ExtN.refl H) hT (fun b o e n => ⟨Heap.get?_push_of_some _ (hx b o e), n⟩) (Heap.get?_push_size _ rfl) (I.hok.fresh hz) (out _ hz) hco
/-- a lambda stands at f, called without arguments it binds bs -/
def LamAt (h : Heap) (H : Hp) (fr : List Addr) (f : Addr) (FD : FuncData) (bs : List (Str × Value)) : Prop :=
  h.get? f = some { cls := .type "function", data := .func FD } ∧ H f = none ∧ f ∉ fr ∧ ∀ s2 : Shared, (∀ b o, h.get? b = some o → H b = none → b ∉ fr → s2.heap.get? b = some o) → BindsTo s2 FD ⟨[], []⟩ bs
/-- what the making leaves -/
def Made (X : Cx) (pins : List (Addr × Obj)) (σ : L2.St) (H : Hp) (T : List (Addr × Str)) (params : Arguments) (body : Expr) (scope : Scope) (own : List Str) (Q : Value → Shared → Prop) : Prop :=
  ∀ (f c' : Addr) (dV doc pm ctv : Value) (bs : List (Str × Value)) (H1 : Hp) (s' : Shared), Inv X pins σ H1 s' → ExtN H H1 → Tabs T H1 → bs.map (·.1) = own →
    LamAt s'.heap H1 (frs X.stack) f (lmFn (X.env.qual ++ "<lambda>") params body scope (cloFrom X.env.cells scope.names []) dV doc pm c' ctv) bs → H1 c' = some (CodeO c' (X.env.qual ++ "<lambda>")) → Q (.ref f) s'
theorem lm_make0 {T : List (Addr × Str)} {c P : Addr} {params : Arguments} {body : Expr} {scope : Scope} {pos : Pos} {E : Value → Shared → Prop} {Q : Value → Shared → Prop} (I : Inv X pins σ H s) (TB : TabB X.base X.mg c P) (hcode : X.env.code = .ref c)
    (hm : (P, X.env.qual ++ "<lambda>") ∈ T) (hu : ∀ p ∈ T, p.1 = P → p.2 = X.env.qual ++ "<lambda>") (hT : Tabs T H) (L : LmS X.N X.env.scope scope []) (hdef : defaultsOf params X.env = ([], []))
    (hbind : ∀ (q : Str) (cl : List (Str × Addr)) (doc pm ctv : Value) (c' : Addr), bindArgs (lmFn q params body scope cl .none doc pm c' ctv) ⟨[], []⟩ = pure []) (h : Made X pins σ H T params body scope [] Q) :
    wpAny (model X.prog X.w) X.A (eval (.Lambda params body scope pos) X.env) Q E s := by
  refine PySem.W.kla_eval hdef ?_
  rw [makeFunction_eq]
  simp only [List.zip_nil_right, List.filterMap_nil, List.isEmpty_nil, if_true, pure_bind]
  exact lm_tail I TB hcode hm hu hT (L.has I.ok) fun f c' doc pm ctv H1 s' I1 eN T1 kp hf hfn hfr hco => h f c' .none doc pm ctv [] H1 s' I1 eN T1 rfl ⟨hf, hfn, hfr, fun s2 _ => .of_eq (hbind _ _ _ _ _ _)⟩ hco
theorem lm_make1 {T : List (Addr × Str)} {c P : Addr} {params : Arguments} {body : Expr} {scope : Scope} {pos pd : Pos} {E : Value → Shared → Prop} {Q : Value → Shared → Prop} {n : Str} {z : Int} {kd : Nat} (I : Inv X pins σ H s) (TB : TabB X.base X.mg c P) (hcode : X.env.code = .ref c)
    (hm : (P, X.env.qual ++ "<lambda>") ∈ T) (hu : ∀ p ∈ T, p.1 = P → p.2 = X.env.qual ++ "<lambda>") (hT : Tabs T H) (L : LmS X.N X.env.scope scope [n]) (hd : params.defaults = [.Constant (.int z) kd pd]) (hk0 : params.kw_defaults = [])
    (hbind : ∀ (q : Str) (cl : List (Str × Addr)) (dV doc pm ctv u : Value) (c' : Addr), ∃ k : Option (Array Value) → Sem (List (Str × Value)), bindArgs (lmFn q params body scope cl dV doc pm c' ctv) ⟨[], []⟩ = seqItems? dV >>= k ∧ k (some [u].toArray) = pure [(n, u)])
    (h : Made X pins σ H T params body scope [n] Q) : wpAny (model X.prog X.w) X.A (eval (.Lambda params body scope pos) X.env) Q E s := by
  refine PySem.W.kdv_lam (by rw [hd]; rfl) hk0 ?_
  rw [hd]
  refine PySem.W.kdv_all1 (thn ((show PE X (.Constant (.int z) kd pd) (tC (.int z)) from pe_int).run pins s σ H (fun v H1 => v = .int z ∧ H1 = H) I ⟨rfl, rfl⟩) fun u s1 ⟨v, H1, I1, r1, q1⟩ => PySem.W.kdv_all0 ?_)
  obtain ⟨ev, eH⟩ := q1
  subst ev eH
  rw [makeFunction_eq]
  simp only [List.zip_nil_right, List.filterMap_nil, List.isEmpty_nil, if_true, pure_bind, List.isEmpty_cons, Bool.false_eq_true, if_false]
  refine wpAny_bind (wpAny_newTextTuple ?_)
  have I2 : Inv X pins σ H1 { s1 with heap := s1.heap.push (PySem.W.kdv_tup [u]) } := I1.kept (t' := s1.toks) fun b o e => Heap.get?_push_of_some _ e
  have ot : (s1.heap.push (PySem.W.kdv_tup [u])).get? s1.heap.objs.size = some (PySem.W.kdv_tup [u]) := Heap.get?_push_size _ rfl
  have nt : H1 s1.heap.objs.size = none := I1.hok.fresh (Nat.le_refl _)
  have tf : s1.heap.objs.size ∉ frs X.stack := fun hz => by
    rcases List.mem_cons.mp (I1.stkSub _ hz) with e | e
    · exact absurd I1.lt (by rw [← e]; exact Nat.lt_irrefl _)
    · exact I1.nofs (Nat.le_refl _) e
  refine lm_tail I2 TB hcode hm hu hT (L.has I.ok) fun f c' doc pm ctv H2 s' I3 eN T1 kp hf hfn hfr hco => h f c' (.ref s1.heap.objs.size) doc pm ctv [(n, u)] H2 s' I3 eN T1 rfl ⟨hf, hfn, hfr, fun s2 k2 => ?_⟩ hco
  obtain ⟨q1, q2⟩ := kp _ _ ot nt
  obtain ⟨k, e1, e2⟩ := hbind (X.env.qual ++ "<lambda>") (cloFrom X.env.cells scope.names []) (.ref s1.heap.objs.size) doc pm ctv u c'
  exact BindsTo.of_defaults rfl (k2 _ _ q1 q2 tf) rfl e1 e2
end
section
variable {X : Cx} {pins : List (Addr × Obj)} {σ : L2.St} {H HZ : Hp} {s s1 : Shared}
/-- the lambda's body begins: the maker's names are seen through their cells -/
theorem lm_start {A : Around} {outer : List Env} {E : XK} {scope : Scope} {own : List Str} {f c' : Addr} {g1 : Heap} {tk : Nat} {bs : List (Str × Value)} (I : Inv X pins σ H s) (L : LmS X.N X.env.scope scope own) (e0 : Env0 X.prog X.w X.K X.mg X.base A outer s1 HZ) (hd : A.handled = none)
    (un : Un (frs X.stack) [] H HZ s.heap s1.heap) (hns : g1.Ns s1.heap.objs.size fun y => bs.reverse.lookup y) (kp : ∀ b o, s1.heap.get? b = some o → g1.get? b = some o) : Inv (lamCx X A outer s1 HZ E scope f c') [] σ HZ { s1 with heap := g1, toks := tk } := by
  have fr := L.has I.ok
  have back : ∀ {y c}, (cloFrom X.env.cells scope.names []).lookup y = some c → X.env.cells.lookup y = some c := fun {y c} e => by
    rcases cloFrom_mem (PySem.mem_of_lookup e) with z | ⟨z1, z2⟩
    · cases z
    · obtain ⟨c1, q⟩ := fr _ z1 rfl
      have q : X.env.cells.lookup y = some c1 := q
      rw [q] at z2
      have z2 : c = c1 := z2
      rw [z2]
      exact q
  have seen : ∀ {y}, scope.names.lookup y = some .free → ∃ c, (cloFrom X.env.cells scope.names []).lookup y = some c := fun {y} e => by
    have e : (y, NameKind.free) ∈ scope.names := PySem.mem_of_lookup e
    exact mem_lookup (cloFrom_has (cells := X.env.cells) (acc := []) e)
  have cells : ∀ {c : Addr} {v : Option Value}, H c = none → s.heap.IsCell c v → g1.IsCell c v := fun {c v} n ⟨o, e1, e2⟩ => by
    obtain ⟨sl, q⟩ := un.any e1 n (by simp)
    exact ⟨_, kp _ _ q, e2⟩
  have ex0 : ∀ b : Addr, b ∉ (lamCx X A outer s1 HZ E scope f c').ex := fun b z => nomatch (show b ∈ ([] : List Addr) from z)
  refine ⟨⟨e0.mod, L.kind, rfl, rfl, Nat.le_refl _, fun y z c e1 e2 => I.ok.inj y z c (back e1) (back e2), fun y hy => ?_, fun y c z _ => ?_, fun _ => hd, Around.frames_deeper e0.frames, .inr ⟨rfl, rfl⟩, fun b z => absurd z (ex0 b), e0.bs, e0.bsz,
      fun b _ _ => ex0 b, fun b z => absurd z (ex0 b), e0.funs, e0.frf⟩,
    rfl, e0.bare, Un.kept kp, ⟨_, hns, fun i y v e1 e2 e3 => ?_⟩, fun y c e => ?_, e0.hok.fresh (Nat.le_refl _), fun y c e => ?_, fun q hq => (nomatch (show q ∈ ([] : List (Addr × Obj)) ++ [] from hq)), e0.hok.kept kp, I.len⟩
  · have hy : scope.names.lookup y = some .cell ∨ scope.names.lookup y = some .free := hy
    rcases hy with hy | hy
    · exact absurd rfl (L.noc _ (PySem.mem_of_lookup hy))
    · exact seen hy
  · exact Bool.noConfusion (show false = true from z)
  · have e3 : Vis scope y := e3
    rcases e3 with k | k | k
    · exact absurd (List.mem_of_getElem? e1) (L.loc _ (PySem.mem_of_lookup k) rfl)
    · exact absurd rfl (L.noc _ (PySem.mem_of_lookup k))
    · obtain ⟨m, hn, hl⟩ := I.loc
      have vis : Vis X.env.scope y := (L.free _ (PySem.mem_of_lookup k) rfl).elim (fun k => .inr (.inl k)) fun k => .inr (.inr k)
      obtain ⟨u, r, q⟩ := hl i y v e1 e2 vis
      obtain ⟨c2, h2⟩ := seen k
      refine ⟨u, r, .inr ⟨.inr k, c2, h2, ?_⟩⟩
      rcases q with ⟨k1, _⟩ | ⟨_, c3, e4, z⟩
      · have k1 : X.env.scope.names.lookup y = some .local := k1
        rcases L.free _ (PySem.mem_of_lookup k) rfl with k2 | k2
        · have k2 : X.env.scope.names.lookup y = some .cell := k2
          rw [k2] at k1
          cases k1
        · have k2 : X.env.scope.names.lookup y = some .free := k2
          rw [k2] at k1
          cases k1
      · rw [back h2] at e4
        cases e4
        exact cells (I.freeC y _ (back h2)) z
  · obtain ⟨v, z⟩ := I.cell y c (back e)
    exact ⟨v, cells (I.freeC y c (back e)) z⟩
  · obtain ⟨v, o, e1, e2⟩ := I.cell y c (back e)
    exact un.free c o e1 (I.freeC y c (back e)) (by simp)
/-- the callee's context: entered at s from X -/
abbrev gCx (X : Cx) (Ng : List Str) (x : Str) (sg : Scope) (g : Addr) (cdg : Value) (s : Shared) (H : Hp) : Cx := cxOf C8.CX0 X.prog X.w X.K X.mg X.base Ng x sg g cdg X.A X.stack s H C8.E0
/-- a(), in the def that got the lambda -/
theorem pe_actD {Ng : List Str} {x a : Str} {sg : Scope} {g f c' : Addr} {cdg dV doc pm ctv : Value} {params : Arguments} {body : Expr} {scope : Scope} {own : List Str} {bs : List (Str × Value)} {k i : Nat} {pn : List (Addr × Obj)} {xe : Value → Shared → Prop} {W : WX} {E : XK} {tb : TE} {p1 p2 : Pos}
    (I : Inv X pins σ H s) (L : LmS X.N X.env.scope scope own) (ho : bs.map (·.1) = own) (la : LamAt s.heap H (frs X.stack) f (lmFn (X.env.qual ++ "<lambda>") params body scope (cloFrom X.env.cells scope.names []) dV doc pm c' ctv) bs)
    (tk : Takes ((gCx X Ng x sg g cdg s H).tr pn xe) W) (hr : Room (k + 1) (X.A.deeper (envOfC x sg s.heap.objs.size g cdg)))
    (hbody : ∀ (A : Around) (outer : List Env) (s : Shared) (H : Hp), Room k (A.deeper (lamEnv X scope s.heap.objs.size f c')) → PE (lamCx X A outer s H E scope f c') body tb)
    (hN : Ng[i]? = some a) (hv : Vis sg a) (hd : (a == ("__debug__" : Str)) = false := by decide) (hcd : (a == ("__classdict__" : Str)) = false := by decide) :
    PE ((gCx X Ng x sg g cdg s H).tr pn xe) (.Call (.Name a p1) [] [] p2) (fun σZ HZ Q => σZ[i]? = some (some (.ref f)) ∧ HZ c' = some (CodeO c' (X.env.qual ++ "<lambda>")) ∧ (∀ cls d H', E cls d H' → W cls d σZ H') ∧ tb σ HZ Q) := by
  refine ⟨fun pinsZ sZ σZ HZ Q IZ h => ?_⟩
  obtain ⟨hs, hc, hW, ht⟩ := h
  obtain ⟨hf, hfn, hfr, hbi⟩ := la
  refine wpAny_Call_Name_kw (thn ((pe_var (pos := p1) (i := i) hN hv hd hcd).run pinsZ sZ σZ HZ (fun v H1 => v = .ref f ∧ H1 = HZ) IZ ⟨.ref f, hs, rfl, rfl⟩) fun u s1 ⟨v, H1, I1, r1, q1⟩ => ?_)
  obtain ⟨ev, eH⟩ := q1
  subst ev eH
  obtain rfl : u = Value.ref f := r1
  have kept : ∀ b o, s.heap.get? b = some o → H b = none → b ∉ frs X.stack → s1.heap.get? b = some o := fun b o e n nf => I1.base.keep b o e n nf (fun z => nomatch (show b ∈ ([] : List Addr) from z))
  have of1 := kept f _ hf hfn hfr
  refine PySem.W.callWith_F0 ⟨_, _, _, _, of1⟩ ?_
  have un : Un (frs X.stack) [] H H1 s.heap s1.heap := I1.base
  obtain ⟨⟨oc, vs, t, hoc, hdc, hvc⟩, _, _⟩ := I1.hok c' _ hc
  have rc : codeAny (model X.prog X.w) (X.A.deeper (envOfC x sg s.heap.objs.size g cdg)) (.call (.ref f) ⟨[], []⟩) (CR (L2.CX X.prog X.w) (envOfC x sg s.heap.objs.size g cdg :: X.stack) X.prog X.w H1 s1 Q E) s1 := by
    refine PySem.W.kla_callFunE hr.depth of1 rfl L.co L.gen rfl ⟨c', oc, vs, t, rfl, hoc, hdc, hvc⟩ ?_
    refine hbi s1 kept _ _ _ _ (wpAny_newFunctionEnv L.noc (fun y hy => L.par _ (by rw [← ho]; exact List.mem_map_of_mem hy)) (fun g1 hns hsb => ⟨I1.nolimit.fresh _ hsb, ?_⟩) L.kind)
    show codeAny _ _ (.expr body (lamEnv X scope s1.heap.objs.size f c')) _ _
    have kp : ∀ b o, s1.heap.get? b = some o → g1.get? b = some o := fun b o e => hsb.extBut b o (Nat.ne_of_lt (Heap.lt_size e)) (Heap.get?_push_of_some _ e)
    have J := lm_start (A := X.A.deeper (envOfC x sg s.heap.objs.size g cdg)) (outer := envOfC x sg s.heap.objs.size g cdg :: X.stack) (E := E) (f := f) (c' := c') (tk := s1.toks + bs.length) I L I1.env0 hr.hd un hns kp
    refine PySem.W.kla_codeExpr (wpAny_mono ((hbody _ _ s1 H1 (hr.deeper _)).run [] _ _ H1 Q J ht) (fun v s' hq => ?_) fun e s' hq => hq)
    obtain ⟨w', H', J', rv, q⟩ := hq
    exact ⟨w', H', J'.os, J'.bare, J'.base, J'.hok, rv, q⟩
  refine wpAny_call (codeAny_mono rc fun r s' hq => ?_)
  cases r with
  | error e => exact tk e s' (XE.of_call I1 hW hq)
  | ok fl =>
    cases fl with
    | ret u => exact I1.after hq
    | next => exact False.elim hq
    | brk => exact False.elim hq
    | cont => exact False.elim hq
end
/-- the def that calls what it got: a calls it, W the wish of its place; TT: what it makes of the lambda's reading -/
def Gives (X : Cx) (Ng : List Str) (x : Str) (sg : Scope) (g : Addr) (cdg : Value) (bg : List Stmt) (a : Str) (q : Str) (TT : (XK → Hp → VK → Prop) → Hp → VK → Prop) : Prop :=
  ∀ (f c' : Addr) (s : Shared) (H : Hp) (Q : VK) (tl : XK → Hp → VK → Prop),
    (∀ (W : WX) (pn : List (Addr × Obj)) (xe : Value → Shared → Prop) (E : XK) (p1 p2 : Pos), Takes ((gCx X Ng x sg g cdg s H).tr pn xe) W →
      PE ((gCx X Ng x sg g cdg s H).tr pn xe) (.Call (.Name a p1) [] [] p2) (fun σZ HZ Q => σZ[0]? = some (some (.ref f)) ∧ HZ c' = some (CodeO c' q) ∧ (∀ cls d H', E cls d H' → W cls d σZ H') ∧ tl E HZ Q)) →
    H c' = some (CodeO c' q) → TT tl H Q → ∃ t, PSs (gCx X Ng x sg g cdg s H).nox bg t ∧ t { nx := fun _ H' => Q .non H', rt := Q } (L2.start Ng [.ref f]) H
/-- the lambda expression, made -/
def LamPE (X : Cx) (T : List (Addr × Str)) (params : Arguments) (body : Expr) (scope : Scope) (own : List Str) (lpos : Pos) : Prop :=
  ∀ (pins : List (Addr × Obj)) (σ : L2.St) (H : Hp) (s : Shared) (E Q : Value → Shared → Prop), Inv X pins σ H s → Tabs T H → Made X pins σ H T params body scope own (Q) → wpAny (model X.prog X.w) X.A (eval (.Lambda params body scope lpos) X.env) Q E s
section
variable {X : Cx}
/-- x(lambda ..: body) -/
theorem pe_lamD {T : List (Addr × Str)} {TT : (XK → Hp → VK → Prop) → Hp → VK → Prop} {x a : Str} {g : Addr} {k : Nat} {pg : Arguments} {bg : List Stmt} {sg : Scope} {dV kV doc pm cdv ct oc : Value} {an od : Option Addr} {osl : Array (Option Value)} {Ng : List Str}
    {params : Arguments} {body : Expr} {scope : Scope} {own : List Str} {t : XK → TE} {p lpos pos : Pos} (hg : Gl X x) (hm : X.mg x = some (.ref g)) (hk : PySem.W.keepIn X.K (.ref g) = true)
    (lk : X.K.lookup g = some ⟨oc, od, .func (PySem.W.fnOf x x pg bg sg dV kV doc pm an cdv ct), osl⟩) (hcg : PySem.W.codeIn X.K cdv x = true) (hb : L2.Binds X.K (PySem.W.fnOf x x pg bg sg dV kV doc pm an cdv ct) [a] []) (Sg : FnScope Ng [a] sg) (hNg : Ng[0]? = some a) (hva : Vis sg a)
    (hG : Gives X Ng x sg g cdv bg a (X.env.qual ++ "<lambda>") TT) (hr : Room (k + 2) X.A) (L : LmS X.N X.env.scope scope own) (hmk : LamPE X T params body scope own lpos)
    (hbody : ∀ (A : Around) (outer : List Env) (s : Shared) (H : Hp) (E : XK) (f c' : Addr), Room k (A.deeper (lamEnv X scope s.heap.objs.size f c')) → PE (lamCx X A outer s H E scope f c') body (t E))
    (hdb : (x == ("__debug__" : Str)) = false := by decide) (hd : (a == ("__debug__" : Str)) = false := by decide) (hcd : (a == ("__classdict__" : Str)) = false := by decide) :
    PE X (.Call (.Name x p) [.Lambda params body scope lpos] [] pos) (tLam T TT t) := by
  refine ⟨fun pins s σ H Q I h => ?_⟩
  obtain ⟨hT, h⟩ := h
  refine wpAny_Call_Name_kw (ld_glob I hg hm ?_ hdb)
  refine PySem.W.callWith_K (h₀ := X.base) I.ok.mod.kin hk ?_ (by rfl) (by rfl)
  show wpAny _ _ (spliced ((false, eval (.Lambda params body scope lpos) X.env) :: backTo pos (starEach [] X.env))) _ _ s
  refine Calls.spliced_cons (hmk pins σ H s _ _ I hT fun f c' dV' doc' pm' ctv bs H1 s' I1 eN T1 ho la hco => ?_)
  refine Calls.spliced_nil ⟨I1.kIn, ?_⟩
  have rc : codeAny (model X.prog X.w) X.A (.call (.ref g) ⟨[.ref f], []⟩) (CR C8.CX0 X.stack X.prog X.w H1 s' Q C8.E0) s' := by
    refine run_ofS (N := Ng) (ps := [a]) (us := [.ref f]) (vs := [.ref f]) lk hcg Sg hr I1.env0 (hb s' [.ref f] I1.kIn rfl) (.cons rfl .nil) rfl fun hr2 => ?_
    obtain ⟨t', ht', hq'⟩ := hG f c' s' H1 Q (fun E H' Q' => t E σ H' Q') (fun W pn xe E p1 p2 tk => pe_actD (i := 0) I1 L ho la tk hr2 (fun A outer s H hr3 => hbody A outer s H E f c' hr3) hNg hva hd hcd) hco (h H1 eN T1)
    exact ⟨t', ht'.nox, hq'⟩
  refine wpAny_call (codeAny_mono rc fun r s2 hq => ?_)
  cases r with
  | error e => exact (show False from hq).elim
  | ok fl =>
    cases fl with
    | ret u => exact I1.after hq
    | next => exact False.elim hq
    | brk => exact False.elim hq
    | cont => exact False.elim hq
end
end Lm
set_option Elab.async false
set_option linter.all false
set_option maxRecDepth 100000
set_option maxHeartbeats 1000000
/-! Sd: xs.count(y) of flat things; the def that asks a deed for its answer or its error -/
namespace Sd
open PySem PySem.Spec PyProof.Rows L2 LamX Xo
section
variable {X : Cx}
theorem count_eq {y : V} : ∀ {ys : List V} {its : List Value}, Vals ys its → ys.all flatV = true → its.countP (eqU y) = ys.countP fun z => eqV z y
  | [], _, .nil, _ => rfl
  | z :: ys, _ :: _, .cons r rr, f => by
    rw [List.all_cons, Bool.and_eq_true] at f
    rw [List.countP_cons, List.countP_cons, count_eq rr f.2, eqU_of r f.1]
def rCountF (K : PySem.W.Frag) : V → List V → Hp → VK → Prop := fun x xs H Q => ∃ (a : Addr) (ys : List V) (y : V), x = V.ref a ∧ xs = [y] ∧ SqL K H a ys ∧ flatV y = true ∧ ys.all flatV = true ∧ Q (.int ((ys.countP fun z => eqV z y) : Nat)) H
theorem mt_countF : MtR X "list.count" (rCountF X.K) := by
  intro pins s σ H x xs v us Q I rx rxs h
  obtain ⟨a, ys, y, rfl, rfl, hs, fy, fys, q⟩ := h
  cases rx
  obtain ⟨uy, rfl, ry⟩ := rxs.one
  obtain ⟨its, rv, ⟨⟨cls, dd, data, sl⟩, n, ho, hc, hdn, hd⟩, hlen⟩ := I.list hs
  dsimp only at hc hd
  subst hc hd
  refine call_meets F.slot_list_count ⟨_, ho, rfl⟩ F.entry_list_count (F.args_list_count_2 _ _) (SeqAt.list_countAt a its.toArray n dd sl uy (eqU y)) ⟨ho, fun u hu => mem_eqAt ry fy rv fys u (by simpa using hu), ?_⟩
  refine ⟨.int ((ys.countP fun z => eqV z y) : Nat), H, I.tok _, ⟨s.toks, ?_⟩, q⟩
  show Value.int ((its.toArray.toList.countP (eqU y) : Nat) : Int) s.toks = _
  rw [show its.toArray.toList.countP (eqU y) = ys.countP fun z => eqV z y from count_eq rv fys]
end
end Sd
set_option Elab.async false
set_option linter.all false
set_option maxRecDepth 100000
set_option maxHeartbeats 1000000
/-! Gd: defs that are run where no repr is under way; repr of data; the law's start told so -/
namespace Gd
open PySem PySem.Spec PyProof.Rows L2 LamX
/-! ### the start of a law -/
section
variable {P : Program} {w : World} {K : PySem.W.Frag} {mg mb : Str → Option Value} {CX : CXT} {fa a : Addr} {cs : List (Addr × Addr)} {s1 : Shared} {vs : List Value} {ns : List Int}
/-- the tracked addresses at the start, and what they hold -/
structure Begin (P : Program) (w : World) (K : PySem.W.Frag) (cs : List (Addr × Addr)) (a : Addr) (ns : List Int) (h : Heap) (tr : List Addr) (H : Hp) : Prop where
  out : ∀ b, b ∉ tr → H b = none
  inn : ∀ b, b ∈ tr → K.lookup b = none ∧ ∃ o, h.get? b = some o ∧ ((∃ vs n, o.data = .seq vs n) ∨ o.data = .fields #[])
  tab : ∀ p ∈ cs, p.2 ∈ tr ∧ H p.2 = some (.tbl #[])
  row : SqL K H a (ns.map V.int)
  two : ∀ b, b ∈ tr → (∃ p ∈ cs, p.2 = b) ∨ ((¬ ∃ p ∈ cs, p.2 = b) ∧ ∃ o u, H b = some (.frz o u))
  hok : HOk P w H h
theorem begins (ka : K.In s1.heap) (tabs : ∀ p ∈ cs, s1.heap.get? p.2 = some { cls := .none, data := .fields #[] }) (ntK : ∀ p ∈ cs, K.lookup p.2 = none) (ha : s1.heap.get? a = some { cls := .type "list", data := .seq vs.toArray }) (hi : IntsAre vs ns) (hl : ns.length ≤ sizeLine) :
    ∃ tr H, Begin P w K cs a ns s1.heap tr H := by
  have rv := vals_ints hi
  have aT : ¬ ∃ p ∈ cs, p.2 = a := fun ⟨p, hp, e⟩ => by
    have q := tabs p hp
    rw [e, ha] at q
    have z := congrArg Obj.data (Option.some.inj q)
    cases z
  have mT : ∀ {b}, b ∈ cs.map (·.2) → ∃ p ∈ cs, p.2 = b := fun {b} hb => List.mem_map.mp hb
  have tM : ∀ p ∈ cs, p.2 ∈ cs.map (·.2) := fun p hp => List.mem_map.mpr ⟨p, hp, rfl⟩
  have tO : ∀ b, b ∈ cs.map (·.2) → K.lookup b = none ∧ ∃ o, s1.heap.get? b = some o ∧ ((∃ vs n, o.data = .seq vs n) ∨ o.data = .fields #[]) := fun b hb => by
    obtain ⟨p, hp, rfl⟩ := mT hb
    exact ⟨ntK p hp, _, tabs p hp, .inr rfl⟩
  cases hk : K.lookup a with
  | some o =>
    have e := ka a o hk
    rw [ha] at e
    cases e
    refine ⟨cs.map (·.2), fun b => if b ∈ cs.map (·.2) then some (.tbl #[]) else none, fun b hb => if_neg hb, tO, fun p hp => ⟨tM p hp, if_pos (tM p hp)⟩,
      .inr ⟨_, vs.toArray, _, hk, rfl, rfl, rfl, by rw [List.size_toArray, hi.length]; exact hl, by simpa using rv⟩, fun b hb => .inl (mT hb), fun b u z => ?_⟩
    by_cases hb : b ∈ cs.map (·.2)
    · have z := (if_pos hb).symm.trans z
      cases z
      obtain ⟨p, hp, rfl⟩ := mT hb
      exact tabs p hp
    · have z := (if_neg hb).symm.trans z
      cases z
  | none =>
    have na : a ∉ cs.map (·.2) := fun z => aT (mT z)
    refine ⟨a :: cs.map (·.2), fun b => if b = a then some (.frz { cls := .type "list", data := .seq vs.toArray } (.lst (ns.map V.int))) else if b ∈ cs.map (·.2) then some (.tbl #[]) else none, fun b hb => ?_, fun b hb => ?_, fun p hp => ?_,
      .inl (.inr ⟨{ cls := .type "list", data := .seq vs.toArray }, if_pos rfl⟩), fun b hb => ?_, fun b u z => ?_⟩
    · rw [List.mem_cons] at hb
      exact (if_neg fun z => hb (.inl z)).trans (if_neg fun z => hb (.inr z))
    · rcases List.mem_cons.mp hb with rfl | hb
      · exact ⟨hk, _, ha, .inl ⟨_, _, rfl⟩⟩
      · exact tO b hb
    · have np : p.2 ≠ a := fun z => aT ⟨p, hp, z⟩
      exact ⟨List.mem_cons_of_mem _ (tM p hp), (if_neg np).trans (if_pos (tM p hp))⟩
    · rcases List.mem_cons.mp hb with rfl | hb
      · exact .inr ⟨aT, _, _, if_pos rfl⟩
      · exact .inl (mT hb)
    · by_cases hb : b = a
      · have z := (if_pos hb).symm.trans z
        cases z
        rw [hb]
        exact ⟨ha, by rw [List.length_map]; exact hl, vs, _, rv, ha⟩
      · have z := (if_neg hb).symm.trans z
        by_cases hb2 : b ∈ cs.map (·.2)
        · have z := (if_pos hb2).symm.trans z
          cases z
          obtain ⟨p, hp, rfl⟩ := mT hb2
          exact tabs p hp
        · have z := (if_neg hb2).symm.trans z
          cases z
/-- the law's call, from its run where no repr is under way -/
theorem start_run (ka : K.In s1.heap) (gl : s1.heap.Ns mainGlobals mg) (bt : s1.heap.Ns builtinsNs mb) (bb : ∀ x : Str, x ≠ "__name__" → mb x = bootBuiltins x) (lim : s1.heap.NoLimit) (ng : s1.gens = #[])
    (tabs : ∀ p ∈ cs, s1.heap.get? p.2 = some { cls := .none, data := .fields #[] }) (ntK : ∀ p ∈ cs, K.lookup p.2 = none) (cod : ∀ p ∈ cs, PySem.W.CodeHd s1.heap p.1 p.2)
    (bmain : ∃ (bm : Addr) (ob : Obj), mg "__builtins__" = some (.ref bm) ∧ bm ≠ builtinsNs ∧ s1.heap.get? bm = some ob ∧ ob.cls = .type "module" ∧ ob.dict = some builtinsNs ∧ ob.data = .plain)
    (ha : s1.heap.get? a = some { cls := .type "list", data := .seq vs.toArray }) (hi : IntsAre vs ns) (hl : ns.length ≤ sizeLine)
    (run : ∀ (base : Heap) (H : Hp), K.In base → base.Ns mainGlobals mg → (∀ p ∈ cs, TabB base mg p.1 p.2) → (∀ p ∈ cs, H p.2 = some (.tbl #[])) → SqL K H a (ns.map V.int) → Env0 P w K mg base callerA [] s1 H →
      codeAny (model P w) callerA (.call (.ref fa) ⟨[.ref a], []⟩) (CR CX [] P w H s1 (fun v _ => v = .bl true) fun _ _ _ => False) s1)
    (no : ∀ H e s', CX [] H s1 (fun _ _ _ => False) e s' → False) :
    codeAny (model P w) callerA (.call (.ref fa) ⟨[.ref a], []⟩) (fun r s' => r = .ok (.ret (.bool true)) ∧ OldK s1.heap s'.heap ∧ s'.os = s1.os ∧ AllBare s'.gens) s1 := by
  obtain ⟨tr, H, B⟩ := begins (P := P) (w := w) ka tabs ntK ha hi hl
  -- the ground: what is not tracked
  have kept : ∀ {b : Addr} {o : Obj}, s1.heap.get? b = some o → (∀ vs n, o.data ≠ .seq vs n) → o.data ≠ .fields #[] → (PySem.W.hideAll s1.heap tr).get? b = some o := fun {b o} e h1 h2 => PySem.W.hideAll_get tr e fun hb => by
    obtain ⟨_, o', e', q⟩ := B.inn b hb
    rw [e] at e'
    cases e'
    rcases q with ⟨vs, n, q⟩ | q
    · exact h1 _ _ q
    · exact h2 q
  have kdict : ∀ {b : Addr} {m : Str → Option Value}, s1.heap.Ns b m → (PySem.W.hideAll s1.heap tr).Ns b m := fun {b m} ⟨o, es, ep, e, d, r⟩ => ⟨o, es, ep, kept e (fun vs n z => by rw [d] at z; cases z) (fun z => by rw [d] at z; cases z), d, r⟩
  have kb : K.In (PySem.W.hideAll s1.heap tr) := fun b o e => PySem.W.hideAll_get tr (ka b o e) fun hb => by
    rw [(B.inn b hb).1] at e
    cases e
  have md : L2.Mod K mg (PySem.W.hideAll s1.heap tr) := ⟨kb, kdict gl, ⟨mb, kdict bt, bb⟩, let ⟨mc, h1, h2⟩ := lim; ⟨mc, kdict h1, h2⟩⟩
  have tb : ∀ p ∈ cs, TabB (PySem.W.hideAll s1.heap tr) mg p.1 p.2 := fun p hp => by
    refine ⟨?_, ?_, fun z => ?_⟩
    · obtain ⟨o, us, file, tf, flags, tg, inF, text, tt, e1, r1, r2, rest⟩ := cod p hp
      obtain ⟨r3, _⟩ := id rest
      exact ⟨o, us, file, tf, flags, tg, inF, text, tt, kept e1 (fun vs n z => by rw [r2] at z; cases z) (fun z => by rw [r2] at z; cases z; simp at r3), r1, r2, rest⟩
    · obtain ⟨bm, ob, b1, b2, b3, b4, b5, b6⟩ := bmain
      refine ⟨bm, ob, b1, b2, fun q => ?_, fun q => ?_, kept b3 (fun vs n z => by rw [b6] at z; cases z) (fun z => by rw [b6] at z; cases z), b4, b5, b6⟩
      · obtain ⟨o, es, ep, e, d, _⟩ := gl
        rw [q, e] at b3
        cases b3
        rw [d] at b6
        cases b6
      · rw [q, tabs p hp] at b3
        cases b3
        cases b6
    · obtain ⟨o, es, ep, e, d, _⟩ := gl
      rw [z, tabs p hp] at e
      cases e
      cases d
  have e0 : Env0 P w K mg (PySem.W.hideAll s1.heap tr) callerA [] s1 H := by
    refine ⟨rfl, md, fun b o e => ⟨PySem.W.of_hideAll tr e, B.out b fun hb => ?_⟩, Nat.le_of_eq (PySem.W.hideAll_size _ _), trivial, fun b hb => (nomatch (show b ∈ ([] : List Addr) from hb)), B.hok, .of_eq ng⟩
    rw [PySem.W.hideAll_none tr hb] at e
    cases e
  refine codeAny_mono (run _ H kb (kdict gl) tb (fun p hp => (B.tab p hp).2) B.row e0) fun r s' h => ?_
  cases r with
  | error e => exact (no H e s' h).elim
  | ok fl =>
    cases fl with
    | next => exact False.elim h
    | brk => exact False.elim h
    | cont => exact False.elim h
    | ret u =>
      obtain ⟨v, H', hos, bare, un, hok', rv, ev⟩ := h
      have ev : v = .bl true := ev
      subst ev
      obtain rfl : u = Value.bool true := rv
      have same : ∀ b o, (¬ ∃ p ∈ cs, p.2 = b) → s1.heap.get? b = some o → s'.heap.get? b = some o := fun b o nb e => by
        by_cases hb : b ∈ tr
        · rcases B.two b hb with z | ⟨_, o1, u1, z⟩
          · exact absurd z nb
          · have q1 := (B.hok b _ z).1
            have q2 := (hok' b _ (un.frzs b o1 u1 z)).1
            rw [e] at q1
            cases q1
            exact q2
        · exact un.keep b o e (B.out b hb) (fun z => nomatch (show b ∈ ([] : List Addr) from z)) (by simp)
      have grew : ∀ p ∈ cs, ∃ more : Array Value, s'.heap.get? p.2 = some { cls := .none, data := .fields more } := fun p hp => by
        obtain ⟨more, z⟩ := un.tbls p.2 #[] (B.tab p hp).2
        exact ⟨_, hok' p.2 _ z⟩
      refine ⟨rfl, ⟨fun b o e => ?_, fun b o e => ?_⟩, hos, bare⟩
      · by_cases hb : ∃ p ∈ cs, p.2 = b
        · obtain ⟨p, hp, rfl⟩ := hb
          obtain ⟨more, hm⟩ := grew p hp
          rw [tabs p hp] at e
          cases e
          exact .inr (.inl ⟨((cod p hp).tab (tabs p hp)).isCodeTable, rfl, #[], more, rfl, by rw [Array.empty_append]; exact hm⟩)
        · exact .inl (same b o hb e)
      · by_cases hb : ∃ p ∈ cs, p.2 = b
        · obtain ⟨p, hp, rfl⟩ := hb
          obtain ⟨more, hm⟩ := grew p hp
          exact ⟨_, hm⟩
        · exact ⟨o, same b o hb e⟩
end
/-! ### defs that are run where no repr is under way -/
theorem deeper_guards (A : Around) (env : Env) : (A.deeper env).guards = A.guards := rfl
structure FnG (P : Program) (w : World) (K : PySem.W.Frag) (mg : Str → Option Value) (base : Heap) (k : Nat) (f : Addr) (fd : FuncData) (ps : List Str) (sp : Sp) : Prop where
  len : ∀ vs H Q E, sp vs H Q E → vs.length = ps.length
  run : ∀ (A : Around) (outer : List Env) (s : Shared) (H : Hp) (args : Args) (us : List Value) (vs : List V) (Q : VK) (E : XK), Room k A → A.guards = some [] → Env0 P w K mg base A outer s H → BindsTo s fd args (ps.zip us) → Vals vs us → sp vs H Q E →
    codeAny (model P w) A (.call (.ref f) args) (CR C8.CX0 outer P w H s Q E) s
section
variable {P : Program} {w : World} {K : PySem.W.Frag} {mg : Str → Option Value} {base : Heap}
theorem okG {x qual : Str} {st : Stmt} {f : Addr} {fd : FuncData} {N ps : List Str} {k : Nat} {sp : Sp} (F : Fun K x qual st f fd) (S : FnScope N ps (defScope st)) (len : ∀ vs H Q E, sp vs H Q E → vs.length = ps.length)
    (hbody : ∀ (cdv : Value) (A : Around) (outer : List Env) (s : Shared) (H : Hp) (vs : List V) (Q : VK) (E : XK), Room k (A.deeper (envOfC qual (defScope st) s.heap.objs.size f cdv)) → (A.deeper (envOfC qual (defScope st) s.heap.objs.size f cdv)).guards = some [] → sp vs H Q E →
      ∃ t, PSs (cxOf C8.CX0 P w K mg base N qual (defScope st) f cdv A outer s H E).nox (defBody st) t ∧ t { nx := fun _ H' => Q .non H', rt := Q } (L2.start N vs) H) : FnG P w K mg base (k + 1) f fd ps sp := by
  obtain ⟨oc, od, kV, doc, pm, an, cdv, ct, osl, rfl, lk, hcd⟩ := F.ex
  refine ⟨len, fun A outer s H args us vs Q E hr hgd e0 hb r h => run_ofS lk hcd S hr e0 hb r (len _ _ _ _ h) fun hr2 => ?_⟩
  obtain ⟨t, ht, q⟩ := hbody cdv A outer s H vs Q E hr2 hgd h
  exact ⟨t, ht.nox, q⟩
end
section
variable {X : Cx}
theorem pe_callG {k : Nat} {f : Addr} {fd : FuncData} {ps : List Str} {sp : Sp} {x : Str} {p pos : Pos} {e : Expr} {es : List Expr} {t : TA} (F : FnG X.prog X.w X.K X.mg X.base k f fd ps sp) (hr : Room k X.A) (hgd : X.A.guards = some []) (hg : Gl X x) (hm : X.mg x = some (.ref f)) (hk : PySem.W.keepIn X.K (.ref f) = true)
    (hb : Binds X.K fd ps []) (ha : PA X (e :: es) t) (hdb : (x == ("__debug__" : Str)) = false := by decide) (he : starEach (e :: es) X.env = (false, eval e X.env) :: starEach es X.env := by rfl)
    (hpl : (backTo pos (starEach es X.env)).any (·.1) = false := by rfl) : PE X (.Call (.Name x p) (e :: es) [] pos) (tCall sp [] C8.E0 t) := by
  refine ⟨fun pins s σ H Q I h => ?_⟩
  refine wpAny_Call_Name_kw (ld_glob I hg hm ?_ hdb)
  refine PySem.W.callWith_K (h₀ := X.base) I.ok.mod.kin hk (thn (ha.run pos pins s σ H _ I h) fun us s1 ⟨vs, H1, I1, r, q⟩ => ⟨I1.kIn, ?_⟩) he hpl
  have q : sp (vs ++ []) H1 Q C8.E0 := q
  rw [List.append_nil] at q
  have hl : us.length = ps.length := by rw [← r.length, F.len _ _ _ _ q]
  have hbt : BindsTo s1 fd ⟨us, []⟩ (ps.zip us) := by
    have z := hb s1 us I1.kIn (by rw [List.append_nil]; exact hl)
    rwa [List.append_nil] at z
  refine wpAny_call (codeAny_mono (F.run X.A X.stack s1 H1 ⟨us, []⟩ us vs Q C8.E0 hr hgd I1.env0 hbt r q) fun r' s' hq => ?_)
  cases r' with
  | error e => exact (show False from hq).elim
  | ok fl =>
    cases fl with
    | ret u => exact I1.after hq
    | next => exact False.elim hq
    | brk => exact False.elim hq
    | cont => exact False.elim hq
/-- repr of a list or tuple of data -/
def rRepr (K : PySem.W.Frag) : List V → Hp → VK → Prop := fun xs H Q => ∃ (a : Addr) (d : PyData), xs = [.ref a] ∧ Dp K H (.ref a) d ∧ d.showable = true ∧ d.hasDict = false ∧ d.depth ≤ 60 ∧ d.shown.length ≤ sizeLine ∧ Q (.str d.shown) H
theorem call_repr (hgd : X.A.guards = some []) (hu : X.A.units + 64 < cLine) : CallR X (.builtin "repr") (rRepr X.K) := by
  intro pins s σ H xs us Q I r h
  obtain ⟨a, d, rfl, hd, hs, hk, hdp, hz, q⟩ := h
  obtain rfl := Vals.ref1 r
  obtain ⟨as, rd⟩ := Dp.reads I d _ _ hd (show L2.RelV (V.ref a) (Value.ref a) from rfl)
  exact repr_of_reads' rd hs (fun z => by rw [hk] at z; cases z) hgd (by omega) (fun b o e => e) (fun h' u tk k => ⟨.str d.shown, H, I.kept (t' := tk) k, ⟨u, rfl⟩, q⟩) hz
end
/-! ### the walk's end -/
/-- what is known of the law at the head's heap -/
def LawAtG (l : PySem.W.OpenLaw) (w : World) (K : PySem.W.Frag) (k n : Nat) (x : Str) (mg : Str → Option Value) (fa : Addr) (h : Heap) : Prop :=
  ∃ (fd : FuncData) (cs : List (Addr × Addr)) (sp : Sp), (∀ p ∈ cs, h.get? p.2 = some { cls := .none, data := .fields #[] }) ∧ (∀ p ∈ cs, K.lookup p.2 = none) ∧ (∀ p ∈ cs, PySem.W.CodeHd h p.1 p.2) ∧ (∀ (s : Shared) (u : Value), BindsTo s fd ⟨[u], []⟩ [(x, u)]) ∧
    (∀ (H : Hp) (a : Addr) (ns : List Int), ns.length ≤ n → (∀ p ∈ cs, H p.2 = some (.tbl #[])) → SqL K H a (ns.map V.int) → sp [.ref a] H (fun v _ => v = .bl true) fun _ _ _ => False) ∧
    ∀ base : Heap, K.In base → base.Ns mainGlobals mg → (∀ p ∈ cs, TabB base mg p.1 p.2) → FnG l.prog w K mg base k fa fd [x] sp
theorem walk_ofG {l : PySem.W.OpenLaw} {n k : Nat} {q : Program} {loose : List Str} {XP : (Str → Option Value) → Heap → Prop} {YP : World → Heap → Prop} {d : DefRec} {K : Params → PySem.W.Frag} {x : Str}
    (hn : l.most = some n) (hn2 : n ≤ sizeLine) (hdf : d.params.defaults = []) (hr : Room k callerA) (hY : ∀ (w : World) (h : Heap), YP w h → (K w.params).In h)
    (F : ∀ (w : World) (mg : Str → Option Value) (fa : Addr) (h : Heap), YP w h → (K w.params).In h → h.Ns mainGlobals mg → mg d.name = some (.ref fa) → LawAtG l w (K w.params) k n x mg fa h) :
    PySem.W.WalkO q loose XP YP l.row.toRowW d [] (fun f vs => PySem.call f vs) := by
  refine Att.attach_callB hn hdf fun w s0 s1 mg mb fa o pm cd doc a vs ns G Y ho hd hcd hmg hobj hints hlen hbits hg => ?_
  have kx := hY w _ Y
  obtain ⟨fd, cs, sp, hT, nT, C, hb, hsp, hF⟩ := F w mg fa _ Y kx G.T.g hmg
  exact start_run (CX := C8.CX0) kx G.T.g G.T.b G.T.builtins G.T.nolimit hg hT nT C G.T.bmain hobj hints (Nat.le_trans hlen hn2)
    (fun base H kb nb tb htb hS e0 => (hF base kb nb tb).run callerA [] s1 H ⟨[.ref a], []⟩ [.ref a] [.ref a] _ _ hr rfl e0 (hb s1 (.ref a)) (.cons rfl .nil) (hsp H a ns hlen htb hS)) fun H e s' z => z
end Gd
set_option Elab.async false
set_option linter.all false
set_option maxRecDepth 100000
/-! Kw: f(k = v, ..), keywords alone -/
namespace Kw
open PySem PySem.Spec PyProof.Rows L2
theorem pe_callK0 {X : Cx} {CX : CXT} {k : Nat} {f : Addr} {fd : FuncData} {ps ks : List Str} {sp : Sp} {E : XK} {x : Str} {p pos : Pos} {kws : List Keyword} {tk : TA} {g : List Value → List Value → List Value} {gV : List V → List V → List V}
    (F : FnOk X.prog X.w X.K X.mg X.base CX k f fd ps sp) (hr : Room k X.A) (hg : Gl X x) (hm : X.mg x = some (.ref f)) (hk : PySem.W.keepIn X.K (.ref f) = true) (hb : KBinds X.K fd ps ks g gV) (hx : Passes CX X E) (hkw : PK X kws tk)
    (hall : (backToKw pos (keywordEach kws X.env)).all (·.1.isSome) = true := by rfl) (hks : (backToKw pos (keywordEach kws X.env)).filterMap (·.1) = ks := by rfl) (hdb : (x == ("__debug__" : Str)) = false := by decide)
    (hpl : ((backTo pos (starEach [] X.env)).any (·.1) || (backToKw pos (keywordEach kws X.env)).any (·.1.isNone)) = false := by rfl) : PE X (.Call (.Name x p) [] kws pos) (fun σ H Q => tk σ H fun zs H1 => sp (gV [] zs) H1 Q E) := by
  refine ⟨fun pins s σ H Q I h => ?_⟩
  refine wpAny_Call_Name_kw (ld_glob I hg hm ?_ hdb)
  refine PySem.W.callWith_KW0 (h₀ := X.base) I.ok.mod.kin hk hall (thn (hkw.run pos pins s σ H _ I h) fun ws s1 ⟨zs, H1, I1, rz, q⟩ => ⟨I1.kIn, ?_⟩) hpl
  rw [hks]
  exact run_fnk (us := []) (vs := []) F hr hb hx I1 .nil rz q
/-- one parameter, by place or by name -/
theorem kb1 {K : PySem.W.Frag} {fd : FuncData} {p : Str} (h0 : ∀ u : Value, bindArgs fd ⟨[u], []⟩ = pure [(p, u)]) (h1 : ∀ u : Value, bindArgs fd ⟨[], [(p, u)]⟩ = pure [(p, u)]) : KBinds K fd [p] [p] (fun us ws => us ++ ws) (fun vs zs => vs ++ zs) where
  to := fun s us ws _ hl => by
    match us, ws, hl with
    | [u], [], _ => exact .of_eq (h0 u)
    | [], [u], _ => exact .of_eq (h1 u)
    | [], [], hl => cases hl
    | _ :: _ :: _, _, hl => simp at hl
    | [_], _ :: _, hl => simp at hl
    | [], _ :: _ :: _, hl => simp at hl
  rel := fun r r' => r.append r'
end Kw
set_option Elab.async false
set_option linter.all false
set_option maxRecDepth 100000
namespace K16
open PySem L2
def top (i : Nat) : Stmt := PySem.Challenge.pw_entryhall_k16_slot_calls_with_bad_argume.main.body.getD i (.Pass ⟨0, 0, 0, 0⟩)
/-- a def of the text -/
structure Df (K : PySem.W.Frag) (mg : Str → Option Value) (name qual : Str) (st : Stmt) (ps : List Str) (f : Addr) (fd : FuncData) : Prop where
  F : Fun K name qual st f fd
  b : Binds K fd ps []
  g : mg name = some (.ref f)
/-- the built-ins stand as they are -/
structure Bl (mg : Str → Option Value) : Prop where
  isinstance : mg "isinstance" = none
  int : mg "int" = none
  bool : mg "bool" = none
  list : mg "list" = none
  range : mg "range" = none
  len : mg "len" = none
  min : mg "min" = none
  max : mg "max" = none
  sorted : mg "sorted" = none
  enumerate : mg "enumerate" = none
  repr : mg "repr" = none
  tuple : mg "tuple" = none
  divmod : mg "divmod" = none
section
variable {P : Program} {w : World} {K : PySem.W.Frag} {mg : Str → Option Value} {base : Heap}
theorem pInt {X : Cx} {pos : Pos} (hg : Gl X "int") (hm : X.mg "int" = none) : PE X (.Name "int" pos) (tC (.ty "int")) := pe_bltn (v := .ty "int") (u := .type "int") hg hm (by decide +kernel) rfl
theorem pBool {X : Cx} {pos : Pos} (hg : Gl X "bool") (hm : X.mg "bool" = none) : PE X (.Name "bool" pos) (tC (.ty "bool")) := pe_bltn (v := .ty "bool") (u := .type "bool") hg hm (by decide +kernel) rfl
end
theorem ixN_n {n j : Nat} (hj : j < n) : ixN n (j : Int) = some j := by
  unfold ixN
  rw [if_pos (by omega), if_pos (by omega)]
  simp
theorem iteNo {b : Bool} {p q : Prop} (h : b = false) (k : q) : if b = true then p else q := by
  subst h
  exact k
theorem iteYes {b : Bool} {p q : Prop} (h : b = true) (k : p) : if b = true then p else q := by
  subst h
  exact k
theorem upd_upd {H : Hp} {a : Addr} {x y : HO} : upd (upd H a x) a y = upd H a y := by
  funext b
  unfold upd
  split <;> rfl
/-! ### lists of ints as data -/
theorem dp_ints {K : PySem.W.Frag} {H : Hp} : ∀ gs : List Int, DpAll K H (gs.map V.int) (gs.map PyData.int)
  | [] => .nil
  | g :: gs => .cons (.int g) (dp_ints gs)
theorem can_ints : ∀ gs : List Int, PyData.canLayAll0 (gs.map PyData.int) = true
  | [] => by simp [PyData.canLayAll0]
  | g :: gs => by
    rw [List.map_cons, PyData.canLayAll0, can_ints gs]
    simp [PyData.canLay0]
theorem depth_ints : ∀ gs : List Int, PyData.depthAll (gs.map PyData.int) = 0
  | [] => by simp [PyData.depthAll]
  | g :: gs => by
    rw [List.map_cons, PyData.depthAll, depth_ints gs]
    simp [PyData.depth]
theorem shaped_ints (gs : List Int) : SeqAt.shaped (.list (gs.map PyData.int)) = true := by
  unfold SeqAt.shaped
  rw [PyData.canLay0, can_ints, PyData.depth, depth_ints]
  rfl
theorem eqv_nil : ∀ gs : List Int, PyData.eqv (.list (gs.map PyData.int)) (.list []) = gs.isEmpty
  | [] => by simp [PyData.eqv, PyData.eqvAll]
  | g :: gs => by simp [PyData.eqv, PyData.eqvAll]
/-! ### the law's draws -/
abbrev kRun : Key := .inr "run"
abbrev kGreat : Key := .inr "great"
abbrev kTurn : Key := .inr "turn"
def drK (r t : Int) (g : Addr) : List (Key × V) := [(kRun, .int r), (kGreat, .ref g), (kTurn, .int t)]
theorem nRG : ¬ (kRun = kGreat) := by decide +kernel
theorem nRT : ¬ (kRun = kTurn) := by decide +kernel
theorem nGR : ¬ (kGreat = kRun) := by decide +kernel
theorem nTR : ¬ (kTurn = kRun) := by decide +kernel
theorem nGT : ¬ (kGreat = kTurn) := by decide +kernel
theorem dr_run {r t : Int} {g : Addr} : valV (drK r t g) kRun = some (.int r) := by
  unfold drK valV
  rw [List.find?_cons, decide_eq_true rfl]
  rfl
theorem dr_great {r t : Int} {g : Addr} : valV (drK r t g) kGreat = some (.ref g) := by
  unfold drK valV
  rw [List.find?_cons, decide_eq_false nRG, List.find?_cons, decide_eq_true rfl]
  rfl
theorem dr_turn {r t : Int} {g : Addr} : valV (drK r t g) kTurn = some (.int t) := by
  unfold drK valV
  rw [List.find?_cons, decide_eq_false nRT, List.find?_cons, decide_eq_false nGT, List.find?_cons, decide_eq_true rfl]
  rfl
theorem put_run {r t z : Int} {g : Addr} : putK (drK r t g) kRun (.int z) = drK z t g := by
  unfold drK putK
  rw [if_pos (by simp)]
  simp only [List.map_cons, List.map_nil, if_true, if_neg nGR, if_neg nTR]
theorem put_turn {r t z : Int} {g : Addr} : putK (drK r t g) kTurn (.int z) = drK r z g := by
  unfold drK putK
  rw [if_pos (by simp)]
  simp only [List.map_cons, List.map_nil, if_true, if_neg nRT, if_neg nGT]
theorem dget_run {H : Hp} {d g : Addr} {r t : Int} (h : H d = some (.dK (drK r t g))) : DGet H d (.str "run") (some (.int r)) := by
  have := DGet.k (k := kRun) h
  rw [dr_run] at this
  exact this
theorem dget_great {H : Hp} {d g : Addr} {r t : Int} (h : H d = some (.dK (drK r t g))) : DGet H d (.str "great") (some (.ref g)) := by
  have := DGet.k (k := kGreat) h
  rw [dr_great] at this
  exact this
theorem dget_turn {H : Hp} {d g : Addr} {r t : Int} (h : H d = some (.dK (drK r t g))) : DGet H d (.str "turn") (some (.int t)) := by
  have := DGet.k (k := kTurn) h
  rw [dr_turn] at this
  exact this
theorem dput_run {H : Hp} {d g : Addr} {r t z : Int} (h : H d = some (.dK (drK r t g))) : DPut H d (.str "run") (.int z) (upd H d (.dK (drK z t g))) := by
  have := DPut.k (k := kRun) (v := .int z) h (by show 3 < sizeLine; decide)
  rw [put_run] at this
  exact this
theorem dput_turn {H : Hp} {d g : Addr} {r t z : Int} (h : H d = some (.dK (drK r t g))) : DPut H d (.str "turn") (.int z) (upd H d (.dK (drK r z g))) := by
  have := DPut.k (k := kTurn) (v := .int z) h (by show 3 < sizeLine; decide)
  rw [put_turn] at this
  exact this
/-- a remainder as a natural number -/
theorem fmod_nat (i : Int) {m : Int} (h : 0 < m) : ∃ n : Nat, i.fmod m = (n : Int) ∧ (n : Int) < m := by
  rw [Int.fmod_eq_emod_of_nonneg _ (by omega)]
  have h1 := Int.emod_nonneg i (show m ≠ 0 by omega)
  have h2 := Int.emod_lt_of_pos i h
  exact ⟨(i % m).toNat, by omega, by omega⟩
/-- a draw stands at d, its great ones at g -/
structure Draw (H : Hp) (d g : Addr) (r t : Int) (gs : List Int) : Prop where
  dc : H d = some (.dK (drK r t g))
  gl : H g = some (.lst (gs.map V.int))
  r0 : 0 ≤ r
  r1 : r < 2305843009213693951
/-- what a draw leaves -/
def Kept (H H' : Hp) (d g : Addr) : Prop := ∀ b o, H b = some o → b ≠ d → b ≠ g → H' b = some o
def DrawE (H : Hp) (d g : Addr) : Prop := ∃ r t gs, Draw H d g r t gs
section
variable {P : Program} {w : World} {K : PySem.W.Frag} {mg : Str → Option Value} {base : Heap}
abbrev sBegun : Stmt := top 37
abbrev sNext : Stmt := top 38
def spNext : Sp := fun vs H Q _ => ∃ (d g : Addr) (b : Nat), vs = [.ref d, .int (b : Int)] ∧ DrawE H d g ∧ 0 < b ∧ b < 2 ^ 62 ∧ ∀ (n : Nat) (H' : Hp), n < b → DrawE H' d g → Kept H H' d g → Q (.int (n : Int)) H'
theorem scNext : FnScope ["draw", "below", "great", "at", "found", "run"] ["draw", "below"] (defScope sNext) := ⟨rfl, rfl, rfl, by decide +kernel, rfl, by decide +kernel, by decide +kernel⟩
theorem ok_next {f : Addr} {fd : FuncData} (D : Df K mg "_law_next" "_law_next" sNext ["draw", "below"] f fd) (B : Bl mg) : FnOk P w K mg base CX0 1 f fd ["draw", "below"] spNext := by
  refine D.F.ok scNext (fun vs H Q E h => ?_) (fun cdv A outer s H vs Q E hr h => ?_)
  · obtain ⟨d, g, b, rfl, _⟩ := h
    rfl
  · obtain ⟨d, g, b, rfl, ⟨r, t, gs, dr⟩, b0, b1, k⟩ := h
    have hu := hu_of hr
    have hu64 := hr.units
    refine ⟨_, pss_cons (ps_asg (pe_tup (pa_cons (pe_op op_add (pe_dget hu (pv 0) pe_str (fun _ _ => rfl)) pe_int) (pa_cons (pe_dget hu (pv 0) pe_str (fun _ _ => rfl)) pa_nil))) (pg_tup rfl (pgs_cons (pg_sub (pv 0) pe_str (set_dict hu)) (pgs_cons (pg_name (i := 2) scNext.nd rfl (Or.inl rfl)) pgs_nil))))
      (pss_cons (ps_set (i := 3) scNext.nd rfl (Or.inl rfl) (pe_op op_modN (pe_dget hu (pv 0) pe_str (fun _ _ => rfl)) (pe_callB (call_max2 rfl) (by rfl) B.max (by decide +kernel) (pa_cons pe_int (pa_cons (pe_callB call_len_seq (by rfl) B.len PySem.boot_len (pa_cons (pv 2) pa_nil)) pa_nil)))))
      (pss_cons (ps_if (PW.pt (pw_and (pt_cmpR (op_neD hu64) (pv 2) (pe_lst pa_nil) (nomark _)) (pw_and1 (pt_cmpR op_gt (pe_ix ix_list (pv 2) (pv 3) (fun _ _ => rfl)) pe_int (nomark _)))))
        (pss_cons (ps_set (i := 4) scNext.nd rfl (Or.inl rfl) (pe_op op_modN (pe_ix ix_list (pv 2) (pv 3) (fun _ _ => rfl)) (pv 1)))
          (pss_cons (ps_asg (pe_op op_fdivW (pe_ix ix_list (pv 2) (pv 3) (fun _ _ => rfl)) (pv 1)) (pg_sub (pv 2) (pv 3) set_list (fun _ => rfl))) (pss_one (ps_ret (pv 4))))) pss_nil)
      (pss_cons (ps_set (i := 5) scNext.nd rfl (Or.inl rfl) (pe_op op_add (pe_op op_add (pe_op op_mul (pe_dget hu (pv 0) pe_str (fun _ _ => rfl)) pe_int) (pe_op op_mul pe_int (pe_dget hu (pv 0) pe_str (fun _ _ => rfl)))) pe_int))
      (pss_cons (ps_dput hu (pv 0) pe_str (pe_op op_modN (pv 5) pe_int) rfl)
      (pss_one (ps_ret (pe_op op_modN (pe_op op_fdivN (pe_dget hu (pv 0) pe_str (fun _ _ => rfl)) pe_int) (pv 1)))))))), ?_⟩
    -- draw['turn'], great = (draw['turn'] + 1, draw['great'])
    refine ⟨_, rfl, d, _, rfl, dget_turn dr.dc, _, _, rfl, rfl, _, rfl, d, _, rfl, dget_great dr.dc, (by show 2 ≤ sizeLine; decide), fun T hT => ?_⟩
    have ndT := ne_of_none dr.dc hT
    have ngT := ne_of_none dr.gl hT
    have ngd : g ≠ d := ne_of dr.gl dr.dc (by intro z; cases z)
    refine ⟨T, _, rfl, SqT.of upd_same, rfl, _, _, rfl, _, rfl, d, _, rfl, dput_turn (r := r) (t := t) (g := g) (by rw [upd_ne ndT]; exact dr.dc), _, _, rfl, rfl, ?_⟩
    have dr1 : Draw (upd (upd H T (.tup [.int (t + 1), .ref g])) d (.dK (drK r (t + 1) g))) d g r (t + 1) gs := ⟨upd_same, by rw [upd_ne ngd, upd_ne ngT]; exact dr.gl, dr.r0, dr.r1⟩
    have kp1 : Kept H (upd (upd H T (.tup [.int (t + 1), .ref g])) d (.dK (drK r (t + 1) g))) d g := fun c o e h1 h2 => by rw [upd_ne h1, upd_ne (ne_of_none e hT)]; exact e
    generalize hH1 : upd (upd H T (.tup [.int (t + 1), .ref g])) d (.dK (drK r (t + 1) g)) = H1 at dr1 kp1
    -- at = draw['turn'] % max(1, len(great))
    obtain ⟨j, ej, hj⟩ := fmod_nat (t + 1) (m := if ((gs.map V.int).length : Int) > 1 then ((gs.map V.int).length : Int) else 1) (by split <;> omega)
    refine ⟨_, rfl, d, _, rfl, dget_turn dr1.dc, _, rfl, g, _, rfl, .inl (SqL.of dr1.gl), _, _, rfl, _, _, rfl, rfl, (by show (if ((gs.map V.int).length : Int) > 1 then ((gs.map V.int).length : Int) else 1) ≠ 0; split <;> omega), ?_⟩
    dsimp only
    rw [ej]
    -- great != [] and great[at] > 0
    refine ⟨_, rfl, by show 0 ≤ sizeLine; decide, fun e he => ?_⟩
    have nde := ne_of_none dr1.dc he
    have nge := ne_of_none dr1.gl he
    have dr2 : Draw (upd H1 e (.lst [])) d g r (t + 1) gs := ⟨by rw [upd_ne nde]; exact dr1.dc, by rw [upd_ne nge]; exact dr1.gl, dr1.r0, dr1.r1⟩
    have kp2 : Kept H (upd H1 e (.lst [])) d g := fun c o h h1 h2 => by
      have z := kp1 c o h h1 h2
      rw [upd_ne (ne_of_none z he)]
      exact z
    refine ⟨_, _, .lst (SqL.of dr2.gl) (dp_ints gs), .lst (SqL.of upd_same) .nil, shaped_ints gs, (by decide +kernel), ?_⟩
    rw [eqv_nil]
    generalize hH2 : upd H1 e (.lst []) = H2 at dr2 kp2
    refine ⟨_, rfl, ?_⟩
    by_cases hc : gs ≠ [] ∧ ∃ y, gs[j]? = some y ∧ 0 < y
    · obtain ⟨hne, y, hy, y0⟩ := hc
      have hjl : j < gs.length := (List.getElem?_eq_some_iff.mp hy).1
      refine iteYes (by cases gs with | nil => exact absurd rfl hne | cons a b => rfl) ?_
      have hat : atI (gs.map V.int) (j : Int) = some (.int y) := atI_nat (by rw [List.getElem?_map, hy]; rfl)
      refine ⟨_, rfl, _, rfl, g, _, _, _, rfl, rfl, SqL.of dr2.gl, hat, _, _, rfl, rfl, _, rfl, iteYes (decide_eq_true y0) ?_⟩
      obtain ⟨n, en, hn⟩ := fmod_nat y (m := (b : Int)) (by omega)
      refine ⟨_, rfl, _, rfl, g, _, _, _, rfl, rfl, SqL.of dr2.gl, hat, _, rfl, _, _, rfl, rfl, (by show (b : Int) ≠ 0; omega), ?_⟩
      refine ⟨_, rfl, _, rfl, g, _, _, _, rfl, rfl, SqL.of dr2.gl, hat, _, rfl, _, _, rfl, rfl, wide_div (b := 62) (by omega) (by omega) (by decide) (by decide), ?_⟩
      refine ⟨_, rfl, _, rfl, g, _, _, _, rfl, rfl, dr2.gl, ixN_n (j := j) (by rw [List.length_map]; exact hjl), ?_⟩
      refine ⟨_, rfl, ?_⟩
      dsimp only
      rw [en]
      refine k n _ (by omega) ⟨r, t + 1, gs.set j (y / b), by rw [upd_ne ngd.symm]; exact dr2.dc, by rw [upd_same, List.map_set], dr2.r0, dr2.r1⟩ fun c o h h1 h2 => ?_
      rw [upd_ne h2]
      exact kp2 c o h h1 h2
    · have go : ∀ (A B : Prop), B → (gs ≠ [] → (∃ y, gs[j]? = some y ∧ ¬ 0 < y) → A) → if (!gs.isEmpty) = true then A else B := by
        intro A B hB hA
        cases hgs : gs with
        | nil => exact hB
        | cons a b =>
          rw [← hgs]
          refine iteYes (by rw [hgs]; rfl) (hA (by rw [hgs]; exact List.cons_ne_nil _ _) ?_)
          have hl : j < gs.length := by
            rw [List.length_map] at hj
            rw [hgs] at hj ⊢
            rw [List.length_cons] at hj ⊢
            split at hj <;> omega
          exact ⟨_, List.getElem?_eq_getElem hl, fun z => hc ⟨by rw [hgs]; exact List.cons_ne_nil _ _, _, List.getElem?_eq_getElem hl, z⟩⟩
      refine go _ _ ?_ ?_
      · refine iteNo rfl ?_
        have r0 := dr2.r0
        have r1 := dr2.r1
        refine ⟨_, rfl, d, _, rfl, dget_run dr2.dc, _, _, rfl, rfl, .inl ⟨by omega, by omega⟩, _, rfl, d, _, rfl, dget_turn dr2.dc, _, _, rfl, rfl, .inl ⟨by decide, by decide⟩, _, _, rfl, rfl, _, _, rfl, rfl, ?_⟩
        refine ⟨_, rfl, _, _, rfl, rfl, (by show (2305843009213693951 : Int) ≠ 0; decide), _, rfl, d, _, rfl, dput_run dr2.dc, ?_⟩
        obtain ⟨z, ez, hz⟩ := fmod_nat (r * 6364136223846793 + 1442695040888963 * (t + 1) + 11) (m := 2305843009213693951) (by decide)
        rw [ez]
        refine ⟨_, rfl, d, _, rfl, dget_run upd_same, _, _, rfl, rfl, ⟨by decide, by decide⟩, _, rfl, _, _, rfl, rfl, (by show (b : Int) ≠ 0; omega), ?_⟩
        obtain ⟨n, en, hn⟩ := fmod_nat ((z : Int).fdiv 32749) (m := (b : Int)) (by omega)
        dsimp only
        rw [en]
        refine k n _ (by omega) ⟨z, t + 1, gs, upd_same, by rw [upd_ne ngd]; exact dr2.gl, by omega, hz⟩ fun c o h h1 h2 => ?_
        rw [upd_ne h1]
        exact kp2 c o h h1 h2
      · rintro hne ⟨y, hy, y0⟩
        have hat : atI (gs.map V.int) (j : Int) = some (.int y) := atI_nat (by rw [List.getElem?_map, hy]; rfl)
        refine ⟨_, rfl, _, rfl, g, _, _, _, rfl, rfl, SqL.of dr2.gl, hat, _, _, rfl, rfl, _, rfl, iteNo (decide_eq_false y0) ?_⟩
        have r0 := dr2.r0
        have r1 := dr2.r1
        refine ⟨_, rfl, d, _, rfl, dget_run dr2.dc, _, _, rfl, rfl, .inl ⟨by omega, by omega⟩, _, rfl, d, _, rfl, dget_turn dr2.dc, _, _, rfl, rfl, .inl ⟨by decide, by decide⟩, _, _, rfl, rfl, _, _, rfl, rfl, ?_⟩
        refine ⟨_, rfl, _, _, rfl, rfl, (by show (2305843009213693951 : Int) ≠ 0; decide), _, rfl, d, _, rfl, dput_run dr2.dc, ?_⟩
        obtain ⟨z, ez, hz⟩ := fmod_nat (r * 6364136223846793 + 1442695040888963 * (t + 1) + 11) (m := 2305843009213693951) (by decide)
        rw [ez]
        refine ⟨_, rfl, d, _, rfl, dget_run upd_same, _, _, rfl, rfl, ⟨by decide, by decide⟩, _, rfl, _, _, rfl, rfl, (by show (b : Int) ≠ 0; omega), ?_⟩
        obtain ⟨n, en, hn⟩ := fmod_nat ((z : Int).fdiv 32749) (m := (b : Int)) (by omega)
        dsimp only
        rw [en]
        refine k n _ (by omega) ⟨z, t + 1, gs, upd_same, by rw [upd_ne ngd]; exact dr2.gl, by omega, hz⟩ fun c o h h1 h2 => ?_
        rw [upd_ne h1]
        exact kp2 c o h h1 h2
end
/-- for i, x in enumerate(a list) -/
theorem for_enumL {K : PySem.W.Frag} {a : Addr} {xs : List V} {g : TG} {tb : TS} {D : Ends} {σ : L2.St} {H : Hp} (Pv : Nat → L2.St → Hp → Prop) (h0 : Pv 0 σ H) (hl : ∀ i σ H, i ≤ xs.length → Pv i σ H → SqL K H a xs)
    (hs : ∀ i x T σ H, xs[i]? = some x → Pv i σ H → H T = none → g (.ref T) σ (upd H T (.tup [.int (i : Nat), x])) fun σ2 H2 => tb { D with nx := Pv (i + 1), ct := Pv (i + 1), bk := D.nx } σ2 H2) (hd : ∀ σ H, Pv xs.length σ H → D.nx σ H) :
    ∃ W : Nat → Nat → L2.St → Hp → Prop, (∃ m, W 0 m σ H) ∧ ∀ i m σ H, W i m σ H →
      ((Ite K a).stop i H ∧ D.nx σ H) ∨ ((Ite K a).go i H ∧ ∃ N : L2.St → Hp → Prop, (∀ σ' H', N σ' H' → ∃ m', m' < m ∧ W (i + 1) m' σ' H') ∧ ∀ x H', (Ite K a).yld i H x H' → g x σ H' fun σ2 H2 => tb { D with nx := N, ct := N, bk := D.nx } σ2 H2) := by
  refine ⟨fun i m σ H => m = xs.length - i ∧ i ≤ xs.length ∧ Pv i σ H, ⟨xs.length, by simp, Nat.zero_le _, h0⟩, ?_⟩
  rintro i m σ H ⟨rfl, hi, p⟩
  have q := hl i σ H hi p
  by_cases hlt : i < xs.length
  · refine .inr ⟨⟨xs, xs[i], q, by simp [hlt]⟩, Pv (i + 1), fun σ' H' p' => ⟨xs.length - (i + 1), by omega, rfl, hlt, p'⟩, fun x H' y => ?_⟩
    obtain ⟨T, x, rfl, hT, rfl, hx⟩ := y
    exact hs i x T σ H (hx xs q) p hT
  · have e : i = xs.length := by omega
    subst e
    exact .inl ⟨⟨xs, q, Nat.le_refl _⟩, hd σ H p⟩
section
variable {P : Program} {w : World} {K : PySem.W.Frag} {mg : Str → Option Value} {base : Heap}
theorem merge_dr {r t : Int} {g : Addr} : mergeK [] (drK r t g) = drK r t g := by
  unfold mergeK drK
  simp only [List.foldl_cons, List.foldl_nil]
  have e1 : putK ([] : List (Key × V)) kRun (.int r) = [(kRun, .int r)] := rfl
  have e2 : putK [(kRun, V.int r)] kGreat (.ref g) = [(kRun, .int r), (kGreat, .ref g)] := by
    unfold putK
    rw [if_neg (by simp; decide +kernel)]
    rfl
  have e3 : putK [(kRun, V.int r), (kGreat, .ref g)] kTurn (.int t) = [(kRun, .int r), (kGreat, .ref g), (kTurn, .int t)] := by
    unfold putK
    rw [if_neg (by simp; decide +kernel)]
    rfl
  rw [e1, e2, e3]
theorem same_new {H : Hp} {a : Addr} {o : HO} (h : H a = none) : Same H (upd H a o) := fun b u e => by
  rw [upd_ne (ne_of_none e h)]
  exact e
theorem int_at {ns : List Int} {i : Nat} {x : V} (h : (ns.map V.int)[i]? = some x) : ∃ z, x = V.int z ∧ ns[i]? = some z := by
  rw [List.getElem?_map] at h
  obtain ⟨z, hz, rfl⟩ := Option.map_eq_some_iff.mp h
  exact ⟨z, rfl, hz⟩
def spBegun (K : PySem.W.Frag) : Sp := fun vs H Q _ => ∃ (a : Addr) (ns : List Int), vs = [.ref a] ∧ SqL K H a (ns.map V.int) ∧ ns.length ≤ 63 ∧ ∀ d g H', DrawE H' d g → Same H H' → H d = none → H g = none → Q (.ref d) H'
theorem scBegun : FnScope ["script", "run", "k", "cell"] ["script"] (defScope sBegun) := ⟨rfl, rfl, rfl, by decide +kernel, rfl, by decide +kernel, by decide +kernel⟩
theorem ok_begun {f : Addr} {fd : FuncData} (D : Df K mg "_law_begun" "_law_begun" sBegun ["script"] f fd) (B : Bl mg) : FnOk P w K mg base CX0 1 f fd ["script"] (spBegun K) := by
  refine D.F.ok scBegun (fun vs H Q E h => ?_) (fun cdv A outer s H vs Q E hr h => ?_)
  · obtain ⟨a, ns, rfl, _⟩ := h
    rfl
  · obtain ⟨a, ns, rfl, hS, hlen, k⟩ := h
    refine ⟨_, pss_cons (ps_set (i := 1) scBegun.nd rfl (Or.inl rfl) (pe_op op_add pe_int (pe_op op_mul pe_int (pe_callB call_len_seq (by rfl) B.len PySem.boot_len (pa_cons (pv 0) pa_nil)))))
      (pss_cons (ps_for PassesOwn.never rfl (pi_enum (by rfl) B.enumerate (pa_cons (pv 0) pa_nil)) (pg_tup rfl (pgs_cons (pg_name (i := 2) scBegun.nd rfl (Or.inl rfl)) (pgs_cons (pg_name (i := 3) scBegun.nd rfl (Or.inl rfl)) pgs_nil)))
        (pss_one (ps_set (i := 1) scBegun.nd rfl (Or.inl rfl) (pe_op op_modN (pe_op op_add (pe_op op_add (pe_op op_mul (pv 1) pe_int) (pv 3)) (pe_op op_mul pe_int (pv 2))) pe_int))))
      (pss_one (ps_ret (pe_disp (pps_cons pe_str (pv 1) (pps_cons pe_str
        (pe_lc (own := [("cell", 3)]) (g := gName 3) rfl scBegun.nd (pi_list (pv 0)) (blkOk_by (own := [("cell", 3)]) (N := ["script", "run", "k", "cell"]) (sc := defScope sBegun) (by decide +kernel)) (fun _ _ _ _ _ => pg_name (i := 3) scBegun.nd rfl (Or.inl rfl)) (fun _ _ _ _ _ => pts_one (pt_cmpR op_ge (pv 3) (pe_op op_pow pe_int pe_int) (nomark _))) (fun _ _ _ _ _ => pv 3))
        (pps_cons pe_str pe_int pps_nil))) (by rfl) (by rfl) (fun z => by cases z) (by decide))))), ?_⟩
    refine ⟨_, rfl, a, _, rfl, .inl hS, _, _, rfl, rfl, .inl ⟨by decide, by decide⟩, _, _, rfl, rfl, ?_⟩
    refine ⟨_, rfl, a, _, rfl, hS, for_enumL (K := K) (a := a) (xs := ns.map V.int) (fun i σ H' => ∃ (r : Int) (v2 v3 : Option V), σ = [some (.ref a), some (.int r), v2, v3] ∧ 0 ≤ r ∧ r < 2305843009213693951 ∧ Same H H') ?_ (fun i σ H' _ ⟨_, _, _, _, _, _, sm⟩ => sm.seq hS) ?_ ?_⟩
    · rw [List.length_map]
      exact ⟨_, _, _, rfl, by omega, by omega, Same.refl H⟩
    · rintro i x T σ H' hi ⟨r, v2, v3, rfl, r0, r1, sm⟩ hT
      obtain ⟨z, rfl, _⟩ := int_at hi
      refine ⟨T, _, rfl, SqT.of upd_same, rfl, _, _, rfl, _, _, rfl, rfl, ?_⟩
      refine ⟨_, rfl, _, _, rfl, rfl, .inl ⟨by omega, by omega⟩, _, rfl, _, _, rfl, rfl, _, rfl, _, _, rfl, rfl, .inl ⟨by decide, by decide⟩, _, _, rfl, rfl, _, _, rfl, rfl, (by show (2305843009213693951 : Int) ≠ 0; decide), ?_⟩
      obtain ⟨n, en, hn⟩ := fmod_nat (r * 998244353 + z + 104723 * (i : Nat)) (m := 2305843009213693951) (by decide)
      dsimp only
      rw [en]
      refine ⟨_, _, _, rfl, by omega, hn, fun b o e => ?_⟩
      have := sm b o e
      rw [upd_ne (ne_of_none this hT)]
      exact this
    · rintro σ H' ⟨r, v2, v3, rfl, r0, r1, sm⟩
      intro d hd
      have S1 := sm.seq hS
      have nad : ∀ (xs : List V), SqL K H' a xs → SqL K (upd H' d (.dK [])) a xs := fun xs h => (same_new hd).seq h
      refine ⟨_, rfl, _, rfl, a, rfl, ⟨_, nad _ S1⟩, fun g hg => ?_⟩
      have ngd : d ≠ g := fun e => by
        rw [← e, upd_same] at hg
        cases hg
      have hg0 : H' g = none := by rwa [upd_ne ngd.symm] at hg
      refine lc_list (K := K) (a := a) (xs := ns.map V.int) (fun i H2 => ∃ acc : List Int, H2 = upd (upd H' d (.dK [])) g (.lst (acc.map V.int)) ∧ acc.length ≤ i) ⟨[], rfl, Nat.le_refl _⟩ ?_ ?_ ?_
      · rintro i H2 _ ⟨acc, rfl, _⟩
        exact (same_new hg).seq (nad _ S1)
      · rintro i x H2 hi ⟨acc, rfl, hl⟩
        obtain ⟨z, rfl, hz⟩ := int_at hi
        have hil : i < ns.length := (List.getElem?_eq_some_iff.mp hz).1
        refine ⟨rfl, _, rfl, _, _, rfl, rfl, ⟨by decide, by decide, by decide⟩, _, _, rfl, rfl, _, rfl, ?_⟩
        refine ite2 (fun _ => ?_) (fun _ => ?_)
        · refine ⟨_, rfl, acc.map V.int, upd_same, by rw [List.length_map]; exact small1000 (by omega), acc ++ [z], ?_, by rw [List.length_append]; show acc.length + 1 ≤ _; omega⟩
          rw [upd_upd, List.map_append]
          rfl
        · exact ⟨acc, rfl, by omega⟩
      · rintro H2 ⟨acc, rfl, hl⟩
        refine ⟨by rw [upd_ne ngd, upd_same], drK r 0 g, rfl, (by show 3 ≤ 15; decide), ?_⟩
        rw [merge_dr]
        refine k d g _ ⟨r, 0, acc, upd_same, by rw [upd_ne ngd.symm, upd_same], r0, r1⟩ (fun b o e => ?_) (sm.free hd) (sm.free hg0)
        have := sm b o e
        rw [upd_ne (ne_of_none this hd), upd_ne (ne_of_none this hg0), upd_ne (ne_of_none this hd)]
        exact this
end
end K16
set_option Elab.async false
set_option linter.all false
set_option maxRecDepth 100000
namespace K16
open PySem L2
/-! ### any thing that the law hands in -/
inductive Odd (H : Hp) : V → Prop
  | int (n : Int) : Odd H (.int n)
  | bl (b : Bool) : Odd H (.bl b)
  | non : Odd H .non
  | str (x : Str) : Odd H (.str x)
  | tup {a : Addr} {xs : List V} (h : H a = some (.tup xs)) : Odd H (.ref a)
  | lst {a : Addr} {xs : List V} (h : H a = some (.lst xs)) : Odd H (.ref a)
  | dk {a : Addr} {kvs : List (Key × V)} (h : H a = some (.dK kvs)) : Odd H (.ref a)
theorem Odd.same {H H' : Hp} {v : V} (h : Odd H v) (s : Same H H') : Odd H' v := by
  cases h with
  | int n => exact .int n
  | bl b => exact .bl b
  | non => exact .non
  | str x => exact .str x
  | tup h => exact .tup (s _ _ h)
  | lst h => exact .lst (s _ _ h)
  | dk h => exact .dk (s _ _ h)
/-- is it a whole number -/
def wh : V → Option Int
  | .int n => some n
  | _ => none
def isBl : V → Bool
  | .bl _ => true
  | _ => false
abbrev sWhole : Stmt := top 20
abbrev sBetween : Stmt := top 21
section
variable {P : Program} {w : World} {K : PySem.W.Frag} {mg : Str → Option Value} {base : Heap}
/-- isinstance(v, int), isinstance(v, bool) -/
theorem odd_ty {H : Hp} {v : V} (h : Odd H v) : ∃ t : String, TyX K H v (.type t) ∧ PySem.W.kitOne K (.type t) (.type "int") = some ((wh v).isSome || isBl v) ∧ PySem.W.kitOne K (.type t) (.type "bool") = some (isBl v) := by
  cases h with
  | int n => exact ⟨"int", .base (.int _), kit_ty (r := true) (by decide +kernel), kit_ty (r := false) (by decide +kernel)⟩
  | bl b => exact ⟨"bool", .base (.bl _), kit_ty (r := true) (by decide +kernel), kit_ty (r := true) (by decide +kernel)⟩
  | non => exact ⟨"NoneType", .base .non, kit_ty (r := false) (by decide +kernel), kit_ty (r := false) (by decide +kernel)⟩
  | str x => exact ⟨"str", .base (.str _), kit_ty (r := false) (by decide +kernel), kit_ty (r := false) (by decide +kernel)⟩
  | tup h => exact ⟨"tuple", .base (.tup h), kit_ty (r := false) (by decide +kernel), kit_ty (r := false) (by decide +kernel)⟩
  | lst h => exact ⟨"list", .base (.lst h), kit_ty (r := false) (by decide +kernel), kit_ty (r := false) (by decide +kernel)⟩
  | dk h => exact ⟨"dict", .base (.dK h), kit_ty (r := false) (by decide +kernel), kit_ty (r := false) (by decide +kernel)⟩
def spWhole : Sp := fun vs H Q _ => ∃ v : V, vs = [v] ∧ Odd H v ∧ Q (.bl (wh v).isSome) H
theorem scWhole : FnScope ["thing"] ["thing"] (defScope sWhole) := ⟨rfl, rfl, rfl, by decide +kernel, rfl, by decide +kernel, by decide +kernel⟩
theorem ok_whole {f : Addr} {fd : FuncData} (D : Df K mg "is_whole" "is_whole" sWhole ["thing"] f fd) (T : Bl mg) : FnOk P w K mg base CX0 1 f fd ["thing"] spWhole := by
  refine D.F.ok scWhole (fun vs H Q E h => ?_) (fun cdv A outer s H vs Q E hr h => ?_)
  · obtain ⟨n, rfl, _⟩ := h
    rfl
  · obtain ⟨v, rfl, o, k⟩ := h
    obtain ⟨t, ty, e1, e2⟩ := odd_ty (K := K) o
    refine ⟨_, pss_one (ps_ret (pe_and (pe_callB call_isi (by rfl) T.isinstance (by decide +kernel) (pa_cons (pv 0) (pa_cons (pInt (by rfl) T.int) pa_nil)))
      (pe_one (pe_not (pe_callB call_isi (by rfl) T.isinstance (by decide +kernel) (pa_cons (pv 0) (pa_cons (pBool (by rfl) T.bool) pa_nil))))))), ?_⟩
    refine ⟨_, rfl, _, _, _, _, _, rfl, .ty _, ty, e1, _, rfl, ?_⟩
    refine ite2 (fun e => ?_) (fun e => ?_)
    · refine ⟨_, rfl, _, _, _, _, _, rfl, .ty _, ty, e2, _, rfl, ?_⟩
      have : (!isBl v) = (wh v).isSome := by
        cases v <;> first | rfl | simp_all [wh, isBl]
      rw [this]
      exact k
    · have : (wh v).isSome = false := by
        cases v <;> first | rfl | simp_all [wh, isBl]
      rw [this] at k
      exact k
/-- low <= v <= high -/
def btw (v : V) (lo hi : Int) : Bool := match wh v with
  | some n => decide (lo ≤ n) && decide (n ≤ hi)
  | none => false
def spBetween : Sp := fun vs H Q _ => ∃ (v : V) (lo hi : Int), vs = [v, .int lo, .int hi] ∧ Odd H v ∧ Q (.bl (btw v lo hi)) H
theorem scBetween : FnScope ["thing", "low", "high"] ["thing", "low", "high"] (defScope sBetween) := ⟨rfl, rfl, rfl, by decide +kernel, rfl, by decide +kernel, by decide +kernel⟩
theorem wh_some {v : V} (h : (wh v).isSome = true) : ∃ n, v = .int n := by
  cases v <;> first | exact ⟨_, rfl⟩ | cases h
theorem ok_between {f f1 : Addr} {fd fd1 : FuncData} (D : Df K mg "is_between" "is_between" sBetween ["thing", "low", "high"] f fd) (D1 : Df K mg "is_whole" "is_whole" sWhole ["thing"] f1 fd1) (G1 : FnOk P w K mg base CX0 1 f1 fd1 ["thing"] spWhole) :
    FnOk P w K mg base CX0 2 f fd ["thing", "low", "high"] spBetween := by
  refine D.F.ok scBetween (fun vs H Q E h => ?_) (fun cdv A outer s H vs Q E hr h => ?_)
  · obtain ⟨n, lo, hi, rfl, _⟩ := h
    rfl
  · obtain ⟨v, lo, hi, rfl, o, k⟩ := h
    refine ⟨_, pss_one (ps_ret (pe_and (pe_call G1 hr rfl D1.g D1.F.kp D1.b .nil pass0 (pa_cons (pv 0) pa_nil)) (pe_one (pe_chain op_le op_le (pv 1) (pv 0) (pv 2))))), ?_⟩
    refine ⟨_, rfl, _, rfl, o, _, rfl, ?_⟩
    refine ite2 (fun e => ?_) (fun e => ?_)
    · obtain ⟨n, rfl⟩ := wh_some e
      refine ⟨_, rfl, _, rfl, _, _, rfl, rfl, _, rfl, ?_⟩
      have k : Q (.bl (decide (lo ≤ n) && decide (n ≤ hi))) H := k
      refine ite2 (fun e => ?_) (fun e => ?_)
      · refine ⟨_, rfl, _, _, rfl, rfl, ?_⟩
        rw [e, Bool.true_and] at k
        exact k
      · rw [Bool.eq_false_iff.mpr e, Bool.false_and] at k
        exact k
    · have : btw v lo hi = false := by
        unfold btw
        cases hw : wh v with
        | none => rfl
        | some n =>
          rw [hw] at e
          exact absurd rfl e
      rw [this] at k
      exact k
end
end K16
namespace K16
open PySem L2 Xo
abbrev sSize : Stmt := top 31
abbrev sNeedSize : Stmt := top 32
/-- a class of errors, as this text has it -/
structure XK (P : Program) (w : World) (K : PySem.W.Frag) (mg : Str → Option Value) (base : Heap) (name : Str) (C : Addr) (fld : Str) : Prop where
  g : mg name = some (.ref C)
  T : XC K C
  no : PySem.W.findIn K (.ref C) fld = some none
  ini : ∃ (fI : Addr) (fd : FuncData), PySem.W.findIn K (.ref C) "__init__" = some (some (.ref fI)) ∧ PySem.W.typeIn K (.ref fI) = some (.type "function") ∧ Binds K fd ["self", fld] [] ∧ FnOk P w K mg base CX0 1 fI fd ["self", fld] (spXI K fld)
theorem XK.to {X : Cx} {name : Str} {C : Addr} {fld : Str} (h : XK X.prog X.w X.K X.mg X.base name C fld) : XI X C fld := ⟨h.T, h.no, h.ini⟩
/-- the way out by an error of the class at C -/
def OutE (C : Addr) (fld : Str) (H : Hp) (E : L2.XK) : Prop := ∀ (d : Addr) (y : V), H d = none → E (.ref C) (some d) (upd H d (.xd [(fld, y)]))
def sizesI : List Int := [8, 16, 32, 64, 128, 256, 512, 1024, 2048, 4096]
def sizesV : List V := [.int 8, .int 16, .int 32, .int 64, .int 128, .int 256, .int 512, .int 1024, .int 2048, .int 4096]
def TupK (K : PySem.W.Frag) (a : Addr) (xs : List V) : Prop := ∃ (o : Obj) (its : Array Value) (n : Nat), K.lookup a = some o ∧ o.cls = .type "tuple" ∧ o.data = .seq its n ∧ its.size ≤ sizeLine ∧ Vals xs its.toList
theorem in_ints {z : Int} {l : List Int} : inV (.int z) (l.map V.int) = decide (z ∈ l) := by
  unfold inV
  rw [Bool.eq_iff_iff, List.any_eq_true, decide_eq_true_iff]
  constructor
  · rintro ⟨x, hx, e⟩
    obtain ⟨y, hy, rfl⟩ := List.mem_map.mp hx
    have e : (y == z) = true := e
    rw [← beq_iff_eq.mp e]
    exact hy
  · intro h
    exact ⟨_, List.mem_map.mpr ⟨z, h, rfl⟩, show (z == z) = true from beq_self_eq_true z⟩
/-- is it a size -/
def isSz (v : V) : Bool := match wh v with
  | some n => decide (n ∈ sizesI)
  | none => false
theorem sz_some {v : V} (h : isSz v = true) : ∃ n, v = .int n ∧ n ∈ sizesI := by
  cases v with
  | int n => exact ⟨n, rfl, of_decide_eq_true h⟩
  | _ => exact absurd (show false = true from h) Bool.false_ne_true
section
variable {P : Program} {w : World} {K : PySem.W.Frag} {mg : Str → Option Value} {base : Heap}
def spSize : Sp := fun vs H Q _ => ∃ v : V, vs = [v] ∧ Odd H v ∧ Q (.bl (isSz v)) H
theorem scSize : FnScope ["thing"] ["thing"] (defScope sSize) := ⟨rfl, rfl, rfl, by decide +kernel, rfl, by decide +kernel, by decide +kernel⟩
theorem ok_size {f f1 aS : Addr} {fd fd1 : FuncData} (D : Df K mg "is_size" "is_size" sSize ["thing"] f fd) (D1 : Df K mg "is_whole" "is_whole" sWhole ["thing"] f1 fd1) (G1 : FnOk P w K mg base CX0 1 f1 fd1 ["thing"] spWhole)
    (mS : mg "SIZES" = some (.ref aS)) (tS : TupK K aS sizesV) : FnOk P w K mg base CX0 2 f fd ["thing"] spSize := by
  refine D.F.ok scSize (fun vs H Q E h => ?_) (fun cdv A outer s H vs Q E hr h => ?_)
  · obtain ⟨n, rfl, _⟩ := h
    rfl
  · obtain ⟨v, rfl, o, k⟩ := h
    refine ⟨_, pss_one (ps_ret (pe_and (pe_call G1 hr rfl D1.g D1.F.kp D1.b .nil pass0 (pa_cons (pv 0) pa_nil)) (pe_one (pe_cmpR op_in_seq (pv 0) (pe_glob (v := .ref aS) rfl mS rfl) (by rfl))))), ?_⟩
    refine ⟨_, rfl, _, rfl, o, _, rfl, ?_⟩
    refine ite2 (fun e => ?_) (fun e => ?_)
    · obtain ⟨n, rfl⟩ := wh_some e
      refine ⟨_, rfl, aS, sizesV, rfl, .inr (.inr tS), rfl, rfl, ?_⟩
      have k : Q (.bl (decide (n ∈ sizesI))) H := k
      rw [← in_ints] at k
      exact k
    · have : isSz v = false := by
        unfold isSz
        cases hw : wh v with
        | none => rfl
        | some n =>
          rw [hw] at e
          exact absurd rfl e
      rw [this] at k
      exact k
def spNeedSize (C : Addr) : Sp := fun vs H Q E => ∃ v : V, vs = [v] ∧ Odd H v ∧ (isSz v = true → Q .non H) ∧ (isSz v = false → OutE C "reason" H E)
theorem scNeedSize : FnScope ["size"] ["size"] (defScope sNeedSize) := ⟨rfl, rfl, rfl, by decide +kernel, rfl, by decide +kernel, by decide +kernel⟩
theorem ok_needSize {f f1 C : Addr} {fd fd1 : FuncData} (D : Df K mg "_need_size" "_need_size" sNeedSize ["size"] f fd) (D1 : Df K mg "is_size" "is_size" sSize ["thing"] f1 fd1) (G1 : FnOk P w K mg base CX0 2 f1 fd1 ["thing"] spSize) (x : XK P w K mg base "BadSize" C "reason") :
    FnOk P w K mg base (L2.CX P w) 3 f fd ["size"] (spNeedSize C) := by
  refine D.F.okX scNeedSize (fun vs H Q E h => ?_) (fun cdv A outer s H vs Q E hr h => ?_)
  · obtain ⟨n, rfl, _⟩ := h
    rfl
  · obtain ⟨v, rfl, o, k1, k2⟩ := h
    refine ⟨_, pss_one (ps_if (pt_not (pt_val (pe_call G1 hr rfl D1.g D1.F.kp D1.b .nil pass0 (pa_cons (pv 0) pa_nil)))) (pss_one (ps_raise rfl (takes_of rfl rfl rfl rfl) (pmk_x (XK.to x) hr rfl x.g (pa_cons pe_str pa_nil)))) pss_nil), ?_⟩
    refine ⟨_, rfl, _, rfl, o, _, rfl, ?_⟩
    refine ite2 (fun e => ?_) (fun e => ?_)
    · exact ⟨_, rfl, fun d hd => k2 (by simpa using e) d _ hd⟩
    · exact k1 (by simpa using e)
end
end K16
set_option Elab.async false
set_option linter.all false
set_option maxRecDepth 100000
set_option maxHeartbeats 4000000
namespace K16
open PySem L2 Xo Lm LamX
abbrev sSaid : Stmt := top 39
abbrev NS : List Str := ["deed", "e", "found", "error", "some", "others", "kinds"]
/-- what the written part says of an error's class C, asked against the four, the nine, the built-ins and the three families -/
structure Row (K : PySem.W.Frag) (C C1 C2 C3 C4 T A F : Addr) (os : List Addr) (b0 b1 b2 b3 v l r : Bool) : Prop where
  k0 : PySem.W.kitOne K (.ref C) (.ref C1) = some b0
  k1 : PySem.W.kitOne K (.ref C) (.ref C2) = some b1
  k2 : PySem.W.kitOne K (.ref C) (.ref C3) = some b2
  k3 : PySem.W.kitOne K (.ref C) (.ref C4) = some b3
  ko : PySem.W.kitAny K (.ref C) (os.map Value.ref) = some false
  kv : PySem.W.kitOne K (.ref C) (.type "ValueError") = some v
  kl : PySem.W.kitOne K (.ref C) (.type "LookupError") = some l
  kr : PySem.W.kitOne K (.ref C) (.type "RuntimeError") = some r
  ex : PySem.W.exmAny K (.ref C) [.ref T, .ref A, .ref F] = some true
  xc : ExcC K C
  xC : XC K C
/-- the names of the errors -/
structure Nm (mg : Str → Option Value) (C1 C2 C3 C4 T A F : Addr) (o1 o2 o3 o4 o5 o6 o7 o8 o9 : Addr) : Prop where
  n1 : mg "BadCode" = some (.ref C1)
  n2 : mg "BadSize" = some (.ref C2)
  n3 : mg "NoEntry" = some (.ref C3)
  n4 : mg "TooLarge" = some (.ref C4)
  t : mg "TableError" = some (.ref T)
  a : mg "Absent" = some (.ref A)
  f : mg "Fault" = some (.ref F)
  m1 : mg "BadKey" = some (.ref o1)
  m2 : mg "BadLayout" = some (.ref o2)
  m3 : mg "BadPairs" = some (.ref o3)
  m4 : mg "BadPicture" = some (.ref o4)
  m5 : mg "BadStep" = some (.ref o5)
  m6 : mg "BadView" = some (.ref o6)
  m7 : mg "Missing" = some (.ref o7)
  m8 : mg "Empty" = some (.ref o8)
  m9 : mg "Locked" = some (.ref o9)
  ve : mg "ValueError" = none
  le : mg "LookupError" = none
  re : mg "RuntimeError" = none
  is : mg "isinstance" = none
/-- what the def answers to an error -/
inductive Says : Bool → Bool → Bool → Bool → Str → V → List V → Prop
  | code (f : Str) (y : V) : Says true false false false f y [.str "code"]
  | size (f : Str) (y : V) : Says false true false false f y [.str "size"]
  | entry (y : V) : Says false false true false "index" y [.str "entry", y]
  | large (y : V) : Says false false false true "limit" y [.str "large", y]
theorem xat_same {H H' : Hp} {a C d : Addr} {fs : List (Str × V)} (h : XAt H a C d fs) (s : Same H H') : XAt H' a C d fs := ⟨h.1.elim (fun z => .inl (s _ _ z)) fun z => .inr (s _ _ z), h.2.elim (fun z => .inl (s _ _ z)) fun z => .inr (s _ _ z)⟩
/-- an error of the class C with the field, the answer wished of it -/
def SaidE (K : PySem.W.Frag) (C1 C2 C3 C4 T A F : Addr) (os : List Addr) (Q : VK) : L2.XK := fun cls d H => ∃ (C dd : Addr) (fld : Str) (y : V) (b0 b1 b2 b3 : Bool) (ans : List V), cls = .ref C ∧ d = some dd ∧ H dd = some (.xd [(fld, y)]) ∧ PySem.W.findIn K (.ref C) fld = some none ∧
  Row K C C1 C2 C3 C4 T A F os b0 b1 b2 b3 (b0 || b1) b2 b3 ∧ Says b0 b1 b2 b3 fld y ans ∧ ∀ H' p, Same H H' → H' p = none → Q (.ref p) (upd H' p (.tup ans))
def TTsaid (K : PySem.W.Frag) (C1 C2 C3 C4 T A F : Addr) (os : List Addr) : (L2.XK → Hp → VK → Prop) → Hp → VK → Prop := fun tl H Q =>
  ∀ t0, H t0 = none → ∀ (E' : L2.XK) (Q' : VK), (∀ cls d H', SaidE K C1 C2 C3 C4 T A F os Q cls d H' → E' cls d H') → (∀ v H', (∀ p, H' p = none → Q (.ref p) (upd H' p (.lst [v]))) → Q' v H') → tl E' (upd H t0 (.tup [.non, .non])) Q'
theorem said_gives {X : Cx} {g C1 C2 C3 C4 T A F o1 o2 o3 o4 o5 o6 o7 o8 o9 : Addr} {cdg : Value} {q : Str} (hr : Room 1 X.A) (N : Nm X.mg C1 C2 C3 C4 T A F o1 o2 o3 o4 o5 o6 o7 o8 o9) :
    Gives X NS "_law_said" (defScope sSaid) g cdg (defBody sSaid) "deed" q (TTsaid X.K C1 C2 C3 C4 T A F [o1, o2, o3, o4, o5, o6, o7, o8, o9]) := by
  intro f c' s H Q tl act hc h
  have nd : NS.Nodup := by decide +kernel
  have hu64 := (hr.deeper (PyProof.Rows.envOfC "_law_said" (defScope sSaid) s.heap.objs.size g cdg)).units
  have lo : ∀ {x : Str}, (defScope sSaid).names.lookup x = some .local → (defScope sSaid).names.lookup x = some .local := id
  refine ⟨_, pss_cons (ps_asg (pe_tup (pa_cons pe_non (pa_cons pe_non pa_nil))) (pg_tup rfl (pgs_cons (pg_name (i := 1) nd rfl (Or.inl rfl)) (pgs_cons (pg_name (i := 2) nd rfl (Or.inl rfl)) pgs_nil))))
    (pss_cons (ps_try_keep (X := (gCx X NS "_law_said" (defScope sSaid) g cdg s H).nox) (i := 3) (j := 1) (C1 := T) (C2 := A) (C3 := F) (tb := fun W D σ H => ∃ Ech : L2.XK, σ[0]? = some (some (.ref f)) ∧ H c' = some (CodeO c' q) ∧ (∀ cls d H', Ech cls d H' → W cls d σ H') ∧ tl Ech H fun v H' => D.nx (σ.set 2 (some v)) H') rfl rfl rfl nd rfl rfl rfl rfl ⟨rfl, N.t, by decide +kernel⟩ ⟨rfl, N.a, by decide +kernel⟩ ⟨rfl, N.f, by decide +kernel⟩ (by decide +kernel) (by decide +kernel) (fun W pn xe tk _ => ?_))
    (pss_cons (ps_if (pt_cmp (pc_isN (pv 1))) (pss_one (ps_ret (pe_lst (pa_cons (pv 2) pa_nil)))) pss_nil)
    (pss_cons (ps_set (i := 4) nd rfl (Or.inl rfl) (pe_lst (pa_cons (pe_callB call_isX (by rfl) N.is (by decide +kernel) (pa_cons (pv 1) (pa_cons (pe_glob (v := .ref C1) rfl N.n1 rfl) pa_nil))) (pa_cons (pe_callB call_isX (by rfl) N.is (by decide +kernel) (pa_cons (pv 1) (pa_cons (pe_glob (v := .ref C2) rfl N.n2 rfl) pa_nil)))
      (pa_cons (pe_callB call_isX (by rfl) N.is (by decide +kernel) (pa_cons (pv 1) (pa_cons (pe_glob (v := .ref C3) rfl N.n3 rfl) pa_nil))) (pa_cons (pe_callB call_isX (by rfl) N.is (by decide +kernel) (pa_cons (pv 1) (pa_cons (pe_glob (v := .ref C4) rfl N.n4 rfl) pa_nil))) pa_nil))))))
    (pss_cons (ps_set (i := 5) nd rfl (Or.inl rfl) (pe_callB call_isXT (by rfl) N.is (by decide +kernel) (pa_cons (pv 1) (pa_cons (pe_tup (pa_cons (pe_glob (v := .ref o1) rfl N.m1 rfl) (pa_cons (pe_glob (v := .ref o2) rfl N.m2 rfl) (pa_cons (pe_glob (v := .ref o3) rfl N.m3 rfl) (pa_cons (pe_glob (v := .ref o4) rfl N.m4 rfl) (pa_cons (pe_glob (v := .ref o5) rfl N.m5 rfl) (pa_cons (pe_glob (v := .ref o6) rfl N.m6 rfl)
      (pa_cons (pe_glob (v := .ref o7) rfl N.m7 rfl) (pa_cons (pe_glob (v := .ref o8) rfl N.m8 rfl) (pa_cons (pe_glob (v := .ref o9) rfl N.m9 rfl) pa_nil)))))))))) pa_nil))))
    (pss_cons (ps_set (i := 6) nd rfl (Or.inl rfl) (pe_lst (pa_cons (pe_callB call_isX (by rfl) N.is (by decide +kernel) (pa_cons (pv 1) (pa_cons (pe_bltn (v := .ty "ValueError") (u := .type "ValueError") rfl N.ve (by decide +kernel) rfl) pa_nil))) (pa_cons (pe_callB call_isX (by rfl) N.is (by decide +kernel) (pa_cons (pv 1) (pa_cons (pe_bltn (v := .ty "LookupError") (u := .type "LookupError") rfl N.le (by decide +kernel) rfl) pa_nil)))
      (pa_cons (pe_callB call_isX (by rfl) N.is (by decide +kernel) (pa_cons (pv 1) (pa_cons (pe_bltn (v := .ty "RuntimeError") (u := .type "RuntimeError") rfl N.re (by decide +kernel) rfl) pa_nil))) pa_nil)))))
    (pss_cons (ps_if (PW.pt (pw_or (pt_cmpR op_ne (pe_bm PySem.F.plainAttrs_list PySem.F.slot_list_count PySem.F.type_list_count Sd.mt_countF (pv 4) (pa_cons pe_bl pa_nil)) pe_int (nomark _)) (pw_or (pt_val (pv 5)) (pw_or1 (pt_cmpR (op_neD hu64) (pv 6)
        (pe_lst (pa_cons (pe_or (pe_ix ix_list (pv 4) pe_int (fun _ _ => rfl)) (pe_one (pe_ix ix_list (pv 4) pe_int (fun _ _ => rfl)))) (pa_cons (pe_ix ix_list (pv 4) pe_int (fun _ _ => rfl)) (pa_cons (pe_ix ix_list (pv 4) pe_int (fun _ _ => rfl)) pa_nil)))) (nomark _))))))
      (pss_one (ps_ret (pe_tup (pa_cons pe_str pa_nil)))) pss_nil)
    (pss_cons (ps_if (PW.pt (pw_or (pt_val (pe_ix ix_list (pv 4) pe_int (fun _ _ => rfl))) (pw_or1 (pt_val (pe_ix ix_list (pv 4) pe_int (fun _ _ => rfl))))))
      (pss_one (ps_ret (pe_ifExp (pt_val (pe_ix ix_list (pv 4) pe_int (fun _ _ => rfl))) (pe_tup (pa_cons pe_str pa_nil)) (pe_tup (pa_cons pe_str pa_nil))))) pss_nil)
    (pss_one (ps_ret (pe_ifExp (pt_val (pe_ix ix_list (pv 4) pe_int (fun _ _ => rfl))) (pe_tup (pa_cons pe_str (pa_cons (pe_xfld (pv 1)) pa_nil))) (pe_tup (pa_cons pe_str (pa_cons (pe_xfld (pv 1)) pa_nil))))))))))))), ?_⟩
  · refine ⟨fun pins s' σ H' D I h' => ?_⟩
    obtain ⟨Ech, h1, h2, h3, h4⟩ := h'
    exact (pss_one (ps_set (i := 2) nd rfl (Or.inl rfl) (act W pn xe Ech _ _ tk))).run pins s' σ H' D I ⟨h1, h2, h3, h4⟩
  · refine ⟨by show 2 ≤ sizeLine; decide, fun t0 ht0 => ⟨t0, _, rfl, SqT.of upd_same, rfl, _, _, rfl, _, _, rfl, rfl, ?_⟩⟩
    have hc2 : upd H t0 (.tup [.non, .non]) c' = some (CodeO c' q) := by
      rw [upd_ne (ne_of_none hc ht0)]
      exact hc
    refine ⟨_, rfl, hc2, fun cls d H' z => z, h t0 ht0 _ _ (fun cls d H1 hE => ?_) fun v H1 hv => ?_⟩
    · obtain ⟨C, dd, fld, y, b0, b1, b2, b3, ans, rfl, rfl, hdd, hno, R, sy, k⟩ := hE
      refine ⟨R.ex, fun a ha => ?_⟩
      have nad : dd ≠ a := ne_of_none hdd ha
      have x2 : XAt (upd H1 a (xob a (.ref C) (some dd))) a C dd [(fld, y)] := ⟨.inr upd_same, .inr (by rw [upd_ne nad]; exact hdd)⟩
      have s2 : Same H1 (upd H1 a (xob a (.ref C) (some dd))) := same_new ha
      generalize upd H1 a (xob a (.ref C) (some dd)) = H2 at x2 s2
      refine ⟨_, rfl, _, rfl, iteNo (decide_eq_false (fun z => by cases z)) ?_⟩
      -- some
      refine ⟨_, rfl, a, C, dd, _, _, _, b0, rfl, x2, R.xc, .own _, R.k0, _, rfl, a, C, dd, _, _, _, b1, rfl, x2, R.xc, .own _, R.k1, _, rfl, a, C, dd, _, _, _, b2, rfl, x2, R.xc, .own _, R.k2, _, rfl, a, C, dd, _, _, _, b3, rfl, x2, R.xc, .own _, R.k3, by show 4 ≤ sizeLine; decide, fun t1 ht1 => ?_⟩
      have x3 := xat_same x2 (same_new (o := .lst [.bl b0, .bl b1, .bl b2, .bl b3]) ht1)
      have s3 := s2.trans (same_new (o := .lst [.bl b0, .bl b1, .bl b2, .bl b3]) ht1)
      have l3 : upd H2 t1 (.lst [.bl b0, .bl b1, .bl b2, .bl b3]) t1 = some (.lst [.bl b0, .bl b1, .bl b2, .bl b3]) := upd_same
      generalize upd H2 t1 (.lst [.bl b0, .bl b1, .bl b2, .bl b3]) = H3 at x3 s3 l3
      -- others
      refine ⟨_, rfl, by show 9 ≤ sizeLine; decide, fun tp htp => ?_⟩
      have y4 := same_new (o := .tup [.ref o1, .ref o2, .ref o3, .ref o4, .ref o5, .ref o6, .ref o7, .ref o8, .ref o9]) htp
      refine ⟨a, C, dd, _, tp, _, _, false, rfl, (xat_same x3 y4), R.xc, upd_same, .cons (.own _) (.cons (.own _) (.cons (.own _) (.cons (.own _) (.cons (.own _) (.cons (.own _) (.cons (.own _) (.cons (.own _) (.cons (.own _) .nil)))))))), R.ko, ?_⟩
      have x4 := (xat_same x3 y4)
      have s4 := s3.trans y4
      have l4 := y4 _ _ l3
      generalize upd H3 tp (.tup [.ref o1, .ref o2, .ref o3, .ref o4, .ref o5, .ref o6, .ref o7, .ref o8, .ref o9]) = H4 at x4 s4 l4
      -- kinds
      refine ⟨_, rfl, a, C, dd, _, _, _, _, rfl, x4, R.xc, .ty _, R.kv, _, rfl, a, C, dd, _, _, _, _, rfl, x4, R.xc, .ty _, R.kl, _, rfl, a, C, dd, _, _, _, _, rfl, x4, R.xc, .ty _, R.kr, by show 3 ≤ sizeLine; decide, fun t2 ht2 => ?_⟩
      have y5 := same_new (o := .lst [.bl (b0 || b1), .bl b2, .bl b3]) ht2
      have x5 := xat_same x4 y5
      have s5 := s4.trans y5
      have l5 := y5 _ _ l4
      have m5 : upd H4 t2 (.lst [.bl (b0 || b1), .bl b2, .bl b3]) t2 = some (.lst [.bl (b0 || b1), .bl b2, .bl b3]) := upd_same
      generalize upd H4 t2 (.lst [.bl (b0 || b1), .bl b2, .bl b3]) = H5 at x5 s5 l5 m5
      -- some.count(True) != 1
      refine ⟨_, rfl, .inl ⟨rfl, _, SqL.of l5⟩, t1, _, _, rfl, rfl, SqL.of l5, rfl, rfl, rfl, _, rfl, iteNo ?_ ?_⟩
      · cases sy <;> rfl
      -- others
      refine ⟨_, rfl, _, rfl, iteNo rfl ?_⟩
      -- kinds != [..]
      cases sy
      · refine ⟨_, rfl, _, rfl, t1, _, _, _, rfl, rfl, SqL.of l5, rfl, true, rfl, iteT ?_⟩
        refine ⟨_, rfl, t1, _, _, _, rfl, rfl, SqL.of l5, rfl, _, rfl, t1, _, _, _, rfl, rfl, SqL.of l5, rfl, by show 3 ≤ sizeLine; decide, fun t3 ht3 => ?_⟩
        have y6 := same_new (o := .lst [.bl true, .bl false, .bl false]) ht3
        have x6 := xat_same x5 y6
        have s6 := s5.trans y6
        have l6 := y6 _ _ l5
        refine ⟨_, _, .lst (SqL.of (y6 _ _ m5)) (.cons (.bl _) (.cons (.bl _) (.cons (.bl _) .nil))), .lst (SqL.of upd_same) (.cons (.bl _) (.cons (.bl _) (.cons (.bl _) .nil))), by decide +kernel, by decide +kernel, _, rfl, iteNo (by decide +kernel) ?_⟩
        refine ⟨_, rfl, t1, _, _, _, rfl, rfl, SqL.of l6, rfl, true, rfl, iteT (iteT ⟨_, rfl, t1, _, _, _, rfl, rfl, SqL.of l6, rfl, true, rfl, iteT ⟨by show 1 ≤ sizeLine; decide, fun p hp => k _ p s6 hp⟩⟩)⟩
      · refine ⟨_, rfl, _, rfl, t1, _, _, _, rfl, rfl, SqL.of l5, rfl, false, rfl, iteF ⟨_, rfl, t1, _, _, _, rfl, rfl, SqL.of l5, rfl, ?_⟩⟩
        refine ⟨_, rfl, t1, _, _, _, rfl, rfl, SqL.of l5, rfl, _, rfl, t1, _, _, _, rfl, rfl, SqL.of l5, rfl, by show 3 ≤ sizeLine; decide, fun t3 ht3 => ?_⟩
        have y6 := same_new (o := .lst [.bl true, .bl false, .bl false]) ht3
        have x6 := xat_same x5 y6
        have s6 := s5.trans y6
        have l6 := y6 _ _ l5
        refine ⟨_, _, .lst (SqL.of (y6 _ _ m5)) (.cons (.bl _) (.cons (.bl _) (.cons (.bl _) .nil))), .lst (SqL.of upd_same) (.cons (.bl _) (.cons (.bl _) (.cons (.bl _) .nil))), by decide +kernel, by decide +kernel, _, rfl, iteNo (by decide +kernel) ?_⟩
        refine ⟨_, rfl, t1, _, _, _, rfl, rfl, SqL.of l6, rfl, false, rfl, iteF ⟨_, rfl, t1, _, _, _, rfl, rfl, SqL.of l6, rfl, true, rfl, iteT ⟨_, rfl, t1, _, _, _, rfl, rfl, SqL.of l6, rfl, false, rfl, iteF ⟨by show 1 ≤ sizeLine; decide, fun p hp => k _ p s6 hp⟩⟩⟩⟩
      · refine ⟨_, rfl, _, rfl, t1, _, _, _, rfl, rfl, SqL.of l5, rfl, false, rfl, iteF ⟨_, rfl, t1, _, _, _, rfl, rfl, SqL.of l5, rfl, ?_⟩⟩
        refine ⟨_, rfl, t1, _, _, _, rfl, rfl, SqL.of l5, rfl, _, rfl, t1, _, _, _, rfl, rfl, SqL.of l5, rfl, by show 3 ≤ sizeLine; decide, fun t3 ht3 => ?_⟩
        have y6 := same_new (o := .lst [.bl false, .bl true, .bl false]) ht3
        have x6 := xat_same x5 y6
        have s6 := s5.trans y6
        have l6 := y6 _ _ l5
        refine ⟨_, _, .lst (SqL.of (y6 _ _ m5)) (.cons (.bl _) (.cons (.bl _) (.cons (.bl _) .nil))), .lst (SqL.of upd_same) (.cons (.bl _) (.cons (.bl _) (.cons (.bl _) .nil))), by decide +kernel, by decide +kernel, _, rfl, iteNo (by decide +kernel) ?_⟩
        refine ⟨_, rfl, t1, _, _, _, rfl, rfl, SqL.of l6, rfl, false, rfl, iteF ⟨_, rfl, t1, _, _, _, rfl, rfl, SqL.of l6, rfl, false, rfl, iteF ⟨_, rfl, t1, _, _, _, rfl, rfl, SqL.of l6, rfl, true, rfl, iteT ⟨_, rfl, a, C, dd, _, _, rfl, x6, R.xC, hno, by simp [List.lookup], by show 2 ≤ sizeLine; decide, fun p hp => k _ p s6 hp⟩⟩⟩⟩
      · refine ⟨_, rfl, _, rfl, t1, _, _, _, rfl, rfl, SqL.of l5, rfl, false, rfl, iteF ⟨_, rfl, t1, _, _, _, rfl, rfl, SqL.of l5, rfl, ?_⟩⟩
        refine ⟨_, rfl, t1, _, _, _, rfl, rfl, SqL.of l5, rfl, _, rfl, t1, _, _, _, rfl, rfl, SqL.of l5, rfl, by show 3 ≤ sizeLine; decide, fun t3 ht3 => ?_⟩
        have y6 := same_new (o := .lst [.bl false, .bl false, .bl true]) ht3
        have x6 := xat_same x5 y6
        have s6 := s5.trans y6
        have l6 := y6 _ _ l5
        refine ⟨_, _, .lst (SqL.of (y6 _ _ m5)) (.cons (.bl _) (.cons (.bl _) (.cons (.bl _) .nil))), .lst (SqL.of upd_same) (.cons (.bl _) (.cons (.bl _) (.cons (.bl _) .nil))), by decide +kernel, by decide +kernel, _, rfl, iteNo (by decide +kernel) ?_⟩
        refine ⟨_, rfl, t1, _, _, _, rfl, rfl, SqL.of l6, rfl, false, rfl, iteF ⟨_, rfl, t1, _, _, _, rfl, rfl, SqL.of l6, rfl, false, rfl, iteF ⟨_, rfl, t1, _, _, _, rfl, rfl, SqL.of l6, rfl, false, rfl, iteF ⟨_, rfl, a, C, dd, _, _, rfl, x6, R.xC, hno, by simp [List.lookup], by show 2 ≤ sizeLine; decide, fun p hp => k _ p s6 hp⟩⟩⟩⟩
    · exact ⟨_, rfl, _, rfl, iteYes (decide_eq_true rfl) ⟨_, rfl, by show 1 ≤ sizeLine; decide, hv⟩⟩
theorem Odd.ext {H H' : Hp} {v : V} (h : Odd H v) (s : ExtN H H') : Odd H' v := by
  cases h with
  | int n => exact .int n
  | bl b => exact .bl b
  | non => exact .non
  | str x => exact .str x
  | tup h => exact .tup (s _ _ h fun ps z => by cases z)
  | lst h => exact .lst (s _ _ h fun ps z => by cases z)
  | dk h => exact .dk (s _ _ h fun ps z => by cases z)
/-- a def of the text, its code object at c -/
structure Dc (K : PySem.W.Frag) (mg : Str → Option Value) (name : Str) (st : Stmt) (ps : List Str) (f c : Addr) (fd : FuncData) : Prop where
  ex : ∃ (oc : Value) (od : Option Addr) (kV doc pm : Value) (an : Option Addr) (ct : Value) (osl : Array (Option Value)), fd = PySem.W.fnOf name name (defArgs st) (defBody st) (defScope st) .none kV doc pm an (.ref c) ct ∧
    K.lookup f = some ⟨oc, od, .func fd, osl⟩ ∧ PySem.W.codeIn K (.ref c) name = true
  kp : PySem.W.keepIn K (.ref f) = true
  b : Binds K fd ps []
  g : mg name = some (.ref f)
section
variable {P : Program} {w : World} {K : PySem.W.Frag} {mg : Str → Option Value} {base : Heap}
theorem okGc {name : Str} {st : Stmt} {f c : Addr} {fd : FuncData} {N ps : List Str} {k : Nat} {sp : Sp} (D : Dc K mg name st ps f c fd) (S : FnScope N ps (defScope st)) (len : ∀ vs H Q E, sp vs H Q E → vs.length = ps.length)
    (hbody : ∀ (A : Around) (outer : List Env) (s : Shared) (H : Hp) (vs : List V) (Q : VK) (E : L2.XK), Room k (A.deeper (PyProof.Rows.envOfC name (defScope st) s.heap.objs.size f (.ref c))) → (A.deeper (PyProof.Rows.envOfC name (defScope st) s.heap.objs.size f (.ref c))).guards = some [] → sp vs H Q E →
      ∃ t, PSs (cxOf C8.CX0 P w K mg base N name (defScope st) f (.ref c) A outer s H E).nox (defBody st) t ∧ t { nx := fun _ H' => Q .non H', rt := Q } (L2.start N vs) H) : Gd.FnG P w K mg base (k + 1) f fd ps sp := by
  obtain ⟨oc, od, kV, doc, pm, an, ct, osl, rfl, lk, hcd⟩ := D.ex
  refine ⟨len, fun A outer s H args us vs Q E hr hgd e0 hb r h => run_ofS lk hcd S hr e0 hb r (len _ _ _ _ h) fun hr2 => ?_⟩
  obtain ⟨t, ht, q⟩ := hbody A outer s H vs Q E hr2 hgd h
  exact ⟨t, ht.nox, q⟩
end
theorem at_last {xs : List V} {x : V} : atI (xs ++ [x]) (-1) = some x := by
  unfold atI ixN
  rw [if_neg (by decide), if_pos (by rw [List.length_append]; show -(((xs.length + 1 : Nat)) : Int) ≤ -1; omega)]
  show (xs ++ [x])[(-1 + (((xs ++ [x]).length : Nat) : Int)).toNat]? = some x
  rw [show (-1 + (((xs ++ [x]).length : Nat) : Int)).toNat = xs.length by rw [List.length_append]; show (-1 + ((xs.length + 1 : Nat) : Int)).toNat = _; omega]
  simp
theorem Kept.trans {H H1 H2 : Hp} {d g : Addr} (a : Kept H H1 d g) (b : Kept H1 H2 d g) : Kept H H2 d g := fun c o e h1 h2 => b c o (a c o e h1 h2) h1 h2
theorem Kept.of_same {H H1 : Hp} {d g : Addr} (a : Same H H1) : Kept H H1 d g := fun c o e _ _ => a c o e
theorem DrawE.same {H H1 : Hp} {d g : Addr} (a : Same H H1) (h : DrawE H d g) : DrawE H1 d g := by
  obtain ⟨r, t, gs, h1, h2, h3, h4⟩ := h
  exact ⟨r, t, gs, a _ _ h1, a _ _ h2, h3, h4⟩
theorem DrawE.ext {H H1 : Hp} {d g : Addr} (a : ExtN H H1) (h : DrawE H d g) : DrawE H1 d g := by
  obtain ⟨r, t, gs, dc, gl, x, y⟩ := h
  exact ⟨r, t, gs, ⟨a _ _ dc (fun ps z => by cases z), a _ _ gl (fun ps z => by cases z), x, y⟩⟩
theorem Odd.kept {H H' : Hp} {d g : Addr} {v : V} (h : Odd H v) (de : DrawE H' d g) (kp : Kept H H' d g) : Odd H' v := by
  obtain ⟨r, t, gs, dr⟩ := id de
  have cs : ∀ (b : Addr) (o : HO), H b = some o → (H' b = some o → Odd H' (.ref b)) → Odd H' (.ref b) := fun b o e f => by
    by_cases z : b = d
    · exact z ▸ .dk dr.dc
    · by_cases z2 : b = g
      · exact z2 ▸ .lst dr.gl
      · exact f (kp _ _ e z z2)
  cases h with
  | int n => exact .int n
  | bl b => exact .bl b
  | non => exact .non
  | str x => exact .str x
  | tup h => exact cs _ _ h fun e => .tup e
  | lst h => exact cs _ _ h fun e => .lst e
  | dk h => exact cs _ _ h fun e => .dk e
theorem tabK {H H' : Hp} {d g : Addr} {TT : List (Addr × Str)} (de : DrawE H d g) (h : Tabs TT H) (kp : Kept H H' d g) : Tabs TT H' := by
  obtain ⟨r, t, gs, dr⟩ := id de
  intro p hp
  obtain ⟨ps, e, tr, f⟩ := h p hp
  refine ⟨ps, kp _ _ e (ne_of e dr.dc (by intro z; cases z)) (ne_of e dr.gl (by intro z; cases z)), tr, fun pos cv hc => ?_⟩
  obtain ⟨c, rfl, hc2⟩ := f pos cv hc
  exact ⟨c, rfl, kp _ _ hc2 (ne_of hc2 dr.dc (by intro z; cases z)) (ne_of hc2 dr.gl (by intro z; cases z))⟩
theorem seqN {K : PySem.W.Frag} {H H' : Hp} {a : Addr} {xs : List V} (e : ExtN H H') (h : SqL K H a xs) : SqL K H' a xs := by
  rcases h with (h | ⟨o, h⟩) | h
  · exact .inl (.inl (e _ _ h fun ps z => by cases z))
  · exact .inl (.inr ⟨o, e _ _ h fun ps z => by cases z⟩)
  · exact .inr h
/-- _law_said, as the top has made it -/
structure Ds (K : PySem.W.Frag) (mg : Str → Option Value) (sd : Addr) : Prop where
  g : mg "_law_said" = some (.ref sd)
  kp : PySem.W.keepIn K (.ref sd) = true
  ex : ∃ (oc : Value) (od : Option Addr) (dV kV doc pm : Value) (an : Option Addr) (cdv ct : Value) (osl : Array (Option Value)), K.lookup sd = some ⟨oc, od, .func (PySem.W.fnOf "_law_said" "_law_said" (defArgs sSaid) (defBody sSaid) (defScope sSaid) dV kV doc pm an cdv ct), osl⟩ ∧
    PySem.W.codeIn K cdv "_law_said" = true ∧ Binds K (PySem.W.fnOf "_law_said" "_law_said" (defArgs sSaid) (defBody sSaid) (defScope sSaid) dV kV doc pm an cdv ct) ["deed"] []
theorem scSaid : FnScope NS ["deed"] (defScope sSaid) := ⟨rfl, rfl, rfl, by decide +kernel, rfl, by decide +kernel, by decide +kernel⟩
end K16
set_option Elab.async false
set_option linter.all false
set_option maxRecDepth 100000
set_option maxHeartbeats 4000000
namespace K16
open PySem L2 Xo Lm LamX
abbrev sCount : Stmt := top 22
abbrev sCode : Stmt := top 23
abbrev sNeedCode : Stmt := top 24
abbrev sNeedIndex : Stmt := top 33
abbrev sPath : Stmt := top 34
/-- the way out by an error whose field is y -/
def OutV (C : Addr) (fld : Str) (y : V) (H : Hp) (E : L2.XK) : Prop := ∀ d : Addr, H d = none → E (.ref C) (some d) (upd H d (.xd [(fld, y)]))
/-- as a count; as a code -/
def asN : V → Option Nat
  | .int n => if 0 ≤ n then some n.toNat else none
  | _ => none
def asC : V → Option Nat
  | .int n => if 0 ≤ n ∧ n < 4294967296 then some n.toNat else none
  | _ => none
theorem asN_some {v : V} {m : Nat} (h : asN v = some m) : v = .int (m : Int) := by
  cases v <;> simp only [asN] at h <;> first | cases h | skip
  split at h
  · cases h
    congr 1
    omega
  · cases h
theorem asN_nat (m : Nat) : asN (.int (m : Int)) = some m := by
  simp only [asN]
  rw [if_pos (by omega)]
  rfl
theorem asC_some {v : V} {m : Nat} (h : asC v = some m) : v = .int (m : Int) ∧ m < 4294967296 := by
  cases v <;> simp only [asC] at h <;> first | cases h | skip
  split at h
  · cases h
    refine ⟨?_, by omega⟩
    congr 1
    omega
  · cases h
theorem asC_nat {m : Nat} (h : m < 4294967296) : asC (.int (m : Int)) = some m := by
  simp only [asC]
  rw [if_pos ⟨by omega, by omega⟩]
  rfl
theorem asN_isSome {v : V} : (asN v).isSome = match wh v with | some n => decide (0 ≤ n) | none => false := by
  cases v <;> first | rfl | skip
  simp only [asN, wh]
  split <;> simp_all
theorem asC_isSome {v : V} : (asC v).isSome = btw v 0 4294967295 := by
  cases v <;> first | rfl | skip
  simp only [asC, btw, wh]
  split
  · rename_i h
    rw [decide_eq_true h.1, decide_eq_true (by omega)]
    rfl
  · rename_i h
    by_cases h0 : 0 ≤ (by assumption : Int)
    · rw [decide_eq_true h0, decide_eq_false (by omega)]
      rfl
    · rw [decide_eq_false h0]
      rfl
/-- as a slot of n -/
def asS (n : Nat) (v : V) : Option Nat := match asN v with
  | some j => if j < n then some j else none
  | none => none
theorem asS_some {n : Nat} {v : V} {j : Nat} (h : asS n v = some j) : v = .int (j : Int) ∧ j < n := by
  unfold asS at h
  split at h
  · rename_i m hm
    split at h
    · cases h
      exact ⟨asN_some hm, by assumption⟩
    · cases h
  · cases h
theorem asS_nat {n j : Nat} (h : j < n) : asS n (.int (j : Int)) = some j := by
  unfold asS
  rw [asN_nat]
  exact if_pos h
theorem asS_isSome {n : Nat} {v : V} : (asS n v).isSome = btw v 0 ((n : Int) - 1) := by
  unfold asS
  cases v <;> first | rfl | skip
  simp only [asN, btw, wh]
  rename_i z
  by_cases h0 : 0 ≤ z
  · rw [if_pos h0, decide_eq_true h0, Bool.true_and]
    dsimp only
    by_cases h1 : z.toNat < n
    · rw [if_pos h1, decide_eq_true (by omega)]
      rfl
    · rw [if_neg h1, decide_eq_false (by omega)]
      rfl
  · rw [if_neg h0, decide_eq_false h0]
    rfl
theorem passF {X : Cx} : Passes (L2.CX X.prog X.w) X (fun _ _ _ => False) := fun _ _ _ _ _ _ _ c => by
  obtain ⟨_, _, _, _, _, _, _, _, _, _, _, _, z⟩ := c
  exact z.elim
theorem sizes_pos {n : Int} (h : n ∈ sizesI) : 8 ≤ n ∧ n ≤ 4096 := by
  unfold sizesI at h
  simp only [List.mem_cons, List.not_mem_nil, or_false] at h
  rcases h with h | h | h | h | h | h | h | h | h | h <;> subst h <;> decide
theorem isSz_int {n : Int} (h : n ∈ sizesI) : isSz (.int n) = true := decide_eq_true h
section
variable {P : Program} {w : World} {K : PySem.W.Frag} {mg : Str → Option Value} {base : Heap}
def spCount : Sp := fun vs H Q _ => ∃ v : V, vs = [v] ∧ Odd H v ∧ Q (.bl (asN v).isSome) H
theorem scCount : FnScope ["thing"] ["thing"] (defScope sCount) := ⟨rfl, rfl, rfl, by decide +kernel, rfl, by decide +kernel, by decide +kernel⟩
theorem ok_count {f f1 : Addr} {fd fd1 : FuncData} (D : Df K mg "is_count" "is_count" sCount ["thing"] f fd) (D1 : Df K mg "is_whole" "is_whole" sWhole ["thing"] f1 fd1) (G1 : FnOk P w K mg base CX0 1 f1 fd1 ["thing"] spWhole) :
    FnOk P w K mg base CX0 2 f fd ["thing"] spCount := by
  refine D.F.ok scCount (fun vs H Q E h => ?_) (fun cdv A outer s H vs Q E hr h => ?_)
  · obtain ⟨n, rfl, _⟩ := h
    rfl
  · obtain ⟨v, rfl, o, k⟩ := h
    refine ⟨_, pss_one (ps_ret (pe_and (pe_call G1 hr rfl D1.g D1.F.kp D1.b .nil pass0 (pa_cons (pv 0) pa_nil)) (pe_one (pe_cmpR op_ge (pv 0) pe_int (nomark _))))), ?_⟩
    refine ⟨_, rfl, _, rfl, o, _, rfl, ?_⟩
    rw [asN_isSome] at k
    refine ite2 (fun e => ?_) (fun e => ?_)
    · obtain ⟨n, rfl⟩ := wh_some e
      exact ⟨_, rfl, _, _, rfl, rfl, k⟩
    · have e' : wh v = none := by
        cases hw : wh v with
        | none => rfl
        | some n =>
          rw [hw] at e
          exact absurd rfl e
      rw [e'] at k
      exact k
def spCode : Sp := fun vs H Q _ => ∃ v : V, vs = [v] ∧ Odd H v ∧ Q (.bl (asC v).isSome) H
theorem scCode : FnScope ["thing"] ["thing"] (defScope sCode) := ⟨rfl, rfl, rfl, by decide +kernel, rfl, by decide +kernel, by decide +kernel⟩
theorem ok_code {f f1 : Addr} {fd fd1 : FuncData} {t : Tok} (D : Df K mg "is_code" "is_code" sCode ["thing"] f fd) (D1 : Df K mg "is_between" "is_between" sBetween ["thing", "low", "high"] f1 fd1) (G1 : FnOk P w K mg base CX0 2 f1 fd1 ["thing", "low", "high"] spBetween)
    (mC : mg "CODES" = some (.int 4294967296 t)) : FnOk P w K mg base CX0 3 f fd ["thing"] spCode := by
  refine D.F.ok scCode (fun vs H Q E h => ?_) (fun cdv A outer s H vs Q E hr h => ?_)
  · obtain ⟨n, rfl, _⟩ := h
    rfl
  · obtain ⟨v, rfl, o, k⟩ := h
    refine ⟨_, pss_one (ps_ret (pe_call G1 hr rfl D1.g D1.F.kp D1.b .nil pass0 (pa_cons (pv 0) (pa_cons pe_int (pa_cons (pe_op op_sub (pe_glob (v := .int 4294967296) rfl mC ⟨_, rfl⟩) pe_int) pa_nil))))), ?_⟩
    rw [asC_isSome] at k
    exact ⟨_, rfl, _, _, rfl, rfl, _, _, _, rfl, o, k⟩
def spNeedCode (C : Addr) : Sp := fun vs H Q E => ∃ v : V, vs = [v] ∧ Odd H v ∧ (∀ n, asC v = some n → Q .non H) ∧ (asC v = none → OutE C "reason" H E)
theorem scNeedCode : FnScope ["thing"] ["thing"] (defScope sNeedCode) := ⟨rfl, rfl, rfl, by decide +kernel, rfl, by decide +kernel, by decide +kernel⟩
theorem ok_needCode {f f1 C : Addr} {fd fd1 : FuncData} (D : Df K mg "need_code" "need_code" sNeedCode ["thing"] f fd) (D1 : Df K mg "is_code" "is_code" sCode ["thing"] f1 fd1) (G1 : FnOk P w K mg base CX0 3 f1 fd1 ["thing"] spCode) (x : XK P w K mg base "BadCode" C "reason") :
    FnOk P w K mg base (L2.CX P w) 4 f fd ["thing"] (spNeedCode C) := by
  refine D.F.okX scNeedCode (fun vs H Q E h => ?_) (fun cdv A outer s H vs Q E hr h => ?_)
  · obtain ⟨n, rfl, _⟩ := h
    rfl
  · obtain ⟨v, rfl, o, k1, k2⟩ := h
    refine ⟨_, pss_one (ps_if (pt_not (pt_val (pe_call G1 hr rfl D1.g D1.F.kp D1.b .nil pass0 (pa_cons (pv 0) pa_nil)))) (pss_one (ps_raise rfl (takes_of rfl rfl rfl rfl) (pmk_x (XK.to x) (hr.mono (by decide)) rfl x.g (pa_cons pe_str pa_nil)))) pss_nil), ?_⟩
    refine ⟨_, rfl, _, rfl, o, _, rfl, ?_⟩
    cases hc : asC v with
    | none => exact iteYes rfl ⟨_, rfl, fun d hd => k2 hc d _ hd⟩
    | some n => exact iteNo rfl (k1 n hc)
def spNeedIndex (C : Addr) : Sp := fun vs H Q E => ∃ v : V, vs = [v] ∧ Odd H v ∧ (∀ n, asN v = some n → Q .non H) ∧ (asN v = none → OutV C "index" v H E)
theorem scNeedIndex : FnScope ["index"] ["index"] (defScope sNeedIndex) := ⟨rfl, rfl, rfl, by decide +kernel, rfl, by decide +kernel, by decide +kernel⟩
theorem ok_needIndex {f f1 C : Addr} {fd fd1 : FuncData} (D : Df K mg "_need_index" "_need_index" sNeedIndex ["index"] f fd) (D1 : Df K mg "is_count" "is_count" sCount ["thing"] f1 fd1) (G1 : FnOk P w K mg base CX0 2 f1 fd1 ["thing"] spCount) (x : XK P w K mg base "NoEntry" C "index") :
    FnOk P w K mg base (L2.CX P w) 3 f fd ["index"] (spNeedIndex C) := by
  refine D.F.okX scNeedIndex (fun vs H Q E h => ?_) (fun cdv A outer s H vs Q E hr h => ?_)
  · obtain ⟨n, rfl, _⟩ := h
    rfl
  · obtain ⟨v, rfl, o, k1, k2⟩ := h
    refine ⟨_, pss_one (ps_if (pt_not (pt_val (pe_call G1 hr rfl D1.g D1.F.kp D1.b .nil pass0 (pa_cons (pv 0) pa_nil)))) (pss_one (ps_raise rfl (takes_of rfl rfl rfl rfl) (pmk_x (XK.to x) hr rfl x.g (pa_cons (pv 0) pa_nil)))) pss_nil), ?_⟩
    refine ⟨_, rfl, _, rfl, o, _, rfl, ?_⟩
    cases hc : asN v with
    | none => exact iteYes rfl ⟨_, rfl, _, rfl, fun d hd => k2 hc d hd⟩
    | some n => exact iteNo rfl (k1 n hc)
/-! path -/
def p5 : List Stmt := (defBody sPath).take 5
theorem scPath : Pth.PSc (defScope sPath) := ⟨⟨rfl, rfl, rfl, by decide +kernel, rfl, by decide +kernel, by decide +kernel⟩, rfl, rfl, rfl, rfl, rfl, rfl, rfl, rfl⟩
theorem ok_path {f f1 f2 f3 C1 C2 : Addr} {fd fd1 fd2 fd3 : FuncData} {tsh : Tok} (D : Df K mg "path" "path" sPath ["code", "size", "many"] f fd) (D1 : Df K mg "need_code" "need_code" sNeedCode ["thing"] f1 fd1) (G1 : FnOk P w K mg base (L2.CX P w) 4 f1 fd1 ["thing"] (spNeedCode C1))
    (D2 : Df K mg "_need_size" "_need_size" sNeedSize ["size"] f2 fd2) (G2 : FnOk P w K mg base (L2.CX P w) 3 f2 fd2 ["size"] (spNeedSize C2)) (D3 : Df K mg "is_count" "is_count" sCount ["thing"] f3 fd3) (G3 : FnOk P w K mg base CX0 2 f3 fd3 ["thing"] spCount)
    (msh : mg "PUSH_SHARE" = some (.int 32 tsh)) (mra : mg "range" = none) : Pth.PathDef P w K mg base 5 f fd := by
  intro code size many ok A outer s H args us hr e0 hb r
  obtain ⟨oc, od, kV, doc, pm, an, cdv, ct, osl, rfl, lk, hcd⟩ := D.F.ex
  obtain ⟨c0, c1, hs, m0, m1⟩ := ok
  have hp := sizes_pos hs
  refine Pth.path_call (l5 := p5) (k := 4) lk hcd scPath msh mra m0 m1 (by omega) (fun A outer s H pn hr => ?_) hr e0 hb r
  refine ⟨_, PSs.nox (pss_cons (ps_expr (pe_call (E := fun _ _ _ => False) G1 hr rfl D1.g D1.F.kp D1.b .nil passF (pa_cons (pv 0) pa_nil))) (pss_cons (ps_expr (pe_call (E := fun _ _ _ => False) G2 (hr.mono (by decide)) rfl D2.g D2.F.kp D2.b .nil passF (pa_cons (pv 1) pa_nil)))
    (pss_cons (ps_if (pt_not (pt_val (pe_call G3 (hr.mono (by decide)) rfl D3.g D3.F.kp D3.b .nil pass0 (pa_cons (pv 2) pa_nil)))) (pss_one ps_never) pss_nil)
    (pss_cons (ps_set (i := 3) scPath.S.nd rfl (Or.inl rfl) (pe_op op_modN (pv 0) (pv 1))) (pss_one (ps_set (i := 4) scPath.S.nd rfl (Or.inl rfl) (pv 0))))))), ?_⟩
  have ec : asC (.int code) = some code.toNat := by
    simp only [asC]
    rw [if_pos ⟨c0, c1⟩]
  refine ⟨_, rfl, _, rfl, .int _, fun n _ => ?_, fun e => by rw [ec] at e; cases e⟩
  refine ⟨_, rfl, _, rfl, .int _, fun _ => ?_, fun e => by rw [isSz_int hs] at e; cases e⟩
  refine ⟨_, rfl, _, rfl, .int _, true, by simp only [asN]; rw [if_pos m0]; rfl, iteF ?_⟩
  refine ⟨_, rfl, _, rfl, _, _, rfl, rfl, (by show size ≠ 0; omega), ?_⟩
  exact ⟨_, rfl, rfl, rfl⟩
end
end K16
set_option Elab.async false
set_option linter.all false
set_option maxRecDepth 100000
set_option maxHeartbeats 4000000
namespace K16
open PySem L2 Xo Lm LamX
/-! ### SlotTable -/
abbrev cTab : Stmt := top 35
abbrev sInit : Stmt := inClass cTab 0
abbrev sHold : Stmt := inClass cTab 1
abbrev sSz : Stmt := inClass cTab 2
abbrev sVal : Stmt := inClass cTab 3
abbrev sNS : Stmt := inClass cTab 4
abbrev sTup : Stmt := inClass cTab 5
abbrev sCnt : Stmt := inClass cTab 6
abbrev sTwin : Stmt := inClass cTab 7
abbrev sPlace : Stmt := inClass cTab 8
abbrev sPF : Stmt := inClass cTab 9
abbrev sErase : Stmt := inClass cTab 10
abbrev sTrail : Stmt := inClass cTab 11
abbrev sSlotOf : Stmt := inClass cTab 12
/-- a table stands at p, its row at l -/
structure TabAt (C : Addr) (H : Hp) (p l : Addr) (xs : List Int) : Prop where
  ob : ∃ dx, H p = some (.ins C dx [("_slots", .ref l)])
  ls : H l = some (.lst (xs.map V.int))
/-- what is asked of the class as the top has made it -/
structure TT (K : PySem.W.Frag) (mg : Str → Option Value) (C pz g : Addr) : Prop where
  cl : Cls K C
  nS : NoAttr K C "_slots"
  mgC : mg "SlotTable" = some (.ref C)
  pr : PropOf K C "size" pz g
  em : ∃ t, mg "EMPTY" = some (.int (-1) t)
  ho : ∃ t, mg "HOLE" = some (.int (-2) t)
  ex : ∃ t, mg "EXTRA" = some (.int 6 t)
theorem rep_one {a : V} : ∀ n : Nat, (List.replicate n [a]).flatten = List.replicate n a
  | 0 => rfl
  | n + 1 => by
    rw [List.replicate_succ, List.flatten_cons, rep_one n]
    rfl
/-! slots as natural numbers -/
theorem sl_nat {size code : Nat} (h : 0 < size) : ∀ i, Pth.pu (code : Int) i = ((code / 32 ^ i : Nat) : Int) ∧ Pth.sl (size : Int) (code : Int) i = ((K12.slotAt size code i : Nat) : Int)
  | 0 => by
    refine ⟨?_, ?_⟩
    · show (code : Int) = _
      rw [Nat.pow_zero, Nat.div_one]
    · show (code : Int).fmod (size : Int) = ((code % size : Nat) : Int)
      rw [Int.fmod_eq_emod_of_nonneg _ (by omega)]
      rfl
  | i + 1 => by
    obtain ⟨h1, h2⟩ := sl_nat (code := code) h i
    have e : Pth.pu (code : Int) (i + 1) = ((code / 32 ^ (i + 1) : Nat) : Int) := by
      show (Pth.pu (code : Int) i).fdiv 32 = _
      rw [h1, Int.fdiv_eq_ediv_of_nonneg _ (by decide), Nat.pow_succ, ← Nat.div_div_eq_div_mul]
      rfl
    refine ⟨e, ?_⟩
    show (5 * Pth.sl (size : Int) (code : Int) i + Pth.pu (code : Int) (i + 1) + 1).fmod (size : Int) = (((5 * K12.slotAt size code i + code / 32 ^ (i + 1) + 1) % size : Nat) : Int)
    rw [e, h2, Int.fmod_eq_emod_of_nonneg _ (by omega), Int.natCast_emod]
    simp only [Int.natCast_add, Int.natCast_mul, Int.natCast_one]
    rfl
abbrev sA (size code i : Nat) : Nat := K12.slotAt size code i
theorem sA_lt {size : Nat} (h : 0 < size) (code i : Nat) : sA size code i < size := K12.slotAt_lt h code i
def goodSize (n : Nat) : Prop := (n : Int) ∈ sizesI
theorem goodSize.pos {n : Nat} (h : goodSize n) : 8 ≤ n ∧ n ≤ 4096 := by
  have := sizes_pos h
  omega
theorem pok {size code many : Nat} (h : goodSize size) (hc : code < 4294967296) (hm : many ≤ 5000) : Pth.POk (code : Int) (size : Int) (many : Int) := ⟨by omega, by omega, h, by omega, by omega⟩
/-- the j-th slot of the code's path is free, those ahead are not -/
structure FreeAt (xs : List Int) (c j : Nat) : Prop where
  lt : j < xs.length + 6
  free : ∃ v, xs[sA xs.length c j]? = some v ∧ v < 0
  full : ∀ i, i < j → ∃ v, xs[sA xs.length c i]? = some v ∧ 0 ≤ v
def NoFree (xs : List Int) (c : Nat) : Prop := ∀ i, i < xs.length + 6 → ∃ v, xs[sA xs.length c i]? = some v ∧ 0 ≤ v
theorem free_or {xs : List Int} (h : 0 < xs.length) (c : Nat) : (∃ j, FreeAt xs c j) ∨ NoFree xs c := by
  have step : ∀ m, (∃ j, j < m ∧ (∃ v, xs[sA xs.length c j]? = some v ∧ v < 0) ∧ ∀ i, i < j → ∃ v, xs[sA xs.length c i]? = some v ∧ 0 ≤ v) ∨ ∀ i, i < m → ∃ v, xs[sA xs.length c i]? = some v ∧ 0 ≤ v := by
    intro m
    induction m with
    | zero => exact .inr fun i hi => absurd hi (Nat.not_lt_zero _)
    | succ m ih =>
      rcases ih with ⟨j, h1, h2, h3⟩ | ih
      · exact .inl ⟨j, by omega, h2, h3⟩
      · have hv := List.getElem?_eq_getElem (sA_lt h c m)
        by_cases hn : xs[sA xs.length c m]'(sA_lt h c m) < 0
        · exact .inl ⟨m, by omega, ⟨_, hv, hn⟩, ih⟩
        · refine .inr fun i hi => ?_
          by_cases e : i = m
          · exact e ▸ ⟨_, hv, by omega⟩
          · exact ih i (by omega)
  rcases step (xs.length + 6) with ⟨j, h1, h2, h3⟩ | h
  · exact .inl ⟨j, h1, h2, h3⟩
  · exact .inr h
theorem TabAt.same {C p l : Addr} {H H' : Hp} {xs : List Int} (h : TabAt C H p l xs) (s : ∀ b o, H b = some o → H' b = some o) : TabAt C H' p l xs := by
  obtain ⟨⟨dx, h1⟩, h2⟩ := h
  exact ⟨⟨dx, s _ _ h1⟩, s _ _ h2⟩
section
variable {P : Program} {w : World} {K : PySem.W.Frag} {mg : Str → Option Value} {base : Heap}
def spSz (C : Addr) : Sp := fun vs H Q _ => ∃ (p l : Addr) (xs : List Int), vs = [.ref p] ∧ TabAt C H p l xs ∧ Q (.int (xs.length : Nat)) H
theorem scSz : FnScope ["self"] ["self"] (defScope sSz) := ⟨rfl, rfl, rfl, by decide +kernel, rfl, by decide +kernel, by decide +kernel⟩
theorem ok_sz {f C pz : Addr} {fd : FuncData} (F : Fun K "size" "SlotTable.size" sSz f fd) (T : TT K mg C pz f) (B : Bl mg) : FnOk P w K mg base CX0 1 f fd ["self"] (spSz C) := by
  refine F.ok scSz (fun vs H Q E h => ?_) (fun cdv A outer s H vs Q E hr h => ?_)
  · obtain ⟨p, l, xs, rfl, _⟩ := h
    rfl
  · obtain ⟨p, l, xs, rfl, ⟨⟨dx, hp⟩, hl⟩, k⟩ := h
    refine ⟨_, pss_one (ps_ret (pe_callB call_len_seq (by rfl) B.len PySem.boot_len (pa_cons (pe_fld (pv 0) rfl) pa_nil))), ?_⟩
    refine ⟨_, rfl, p, C, dx, _, _, rfl, hp, T.cl, T.nS, rfl, l, _, rfl, .inl (SqL.of hl), ?_⟩
    rw [List.length_map]
    exact k
def spInit (C C2 : Addr) : Sp := fun vs H Q E => ∃ (p dx : Addr) (v : V), vs = [.ref p, v] ∧ H p = some (.ins C dx []) ∧ Odd H v ∧
  (∀ n, v = .int n → n ∈ sizesI → ∀ l H', TabAt C H' p l (List.replicate n.toNat (-1 : Int)) → (∀ b o, b ≠ p → H b = some o → H' b = some o) → H l = none → Q .non H') ∧ (isSz v = false → OutE C2 "reason" H E)
theorem scInit : FnScope ["self", "size"] ["self", "size"] (defScope sInit) := ⟨rfl, rfl, rfl, by decide +kernel, rfl, by decide +kernel, by decide +kernel⟩
theorem ok_init {f f2 C C2 pz gz : Addr} {fd fd2 : FuncData} (F : Fun K "__init__" "SlotTable.__init__" sInit f fd) (T : TT K mg C pz gz) (D2 : Df K mg "_need_size" "_need_size" sNeedSize ["size"] f2 fd2) (G2 : FnOk P w K mg base (L2.CX P w) 3 f2 fd2 ["size"] (spNeedSize C2)) :
    FnOk P w K mg base (L2.CX P w) 4 f fd ["self", "size"] (spInit C C2) := by
  obtain ⟨te, em⟩ := T.em
  refine F.okX scInit (fun vs H Q E h => ?_) (fun cdv A outer s H vs Q E hr h => ?_)
  · obtain ⟨p, dx, n, rfl, _⟩ := h
    rfl
  · obtain ⟨p, dx, v, rfl, hp, o, k1, k2⟩ := h
    refine ⟨_, pss_cons (ps_expr (pe_call (E := E) G2 hr rfl D2.g D2.F.kp D2.b .nil (passes_call (takes_of rfl rfl rfl rfl) fun _ _ _ _ z => z) (pa_cons (pv 1) pa_nil))) (pss_one (ps_fld (pv 0) (pe_op op_rep (pe_lst (pa_cons (pe_glob (v := .int (-1)) rfl em ⟨_, rfl⟩) pa_nil)) (pv 1)) rfl)), ?_⟩
    refine ⟨_, rfl, v, rfl, o, fun e => ?_, k2⟩
    obtain ⟨n, rfl, hn⟩ := sz_some e
    have hz := sizes_pos hn
    refine ⟨by show 1 ≤ sizeLine; decide, fun l0 h0 => ?_⟩
    refine ⟨_, rfl, l0, n, [.int (-1)], rfl, rfl, upd_same, by omega, by omega, by
      show 1 * n.toNat ≤ sizeLine
      have : n.toNat ≤ 4096 := by omega
      exact Nat.le_trans (by omega) (show 4096 ≤ sizeLine by decide), fun l hl => ?_⟩
    have nl : l ≠ l0 := fun z => by
      rw [z, upd_same] at hl
      cases hl
    have hl0 : H l = none := by rwa [upd_ne nl] at hl
    have np0 := ne_of_none hp h0
    have np : p ≠ l := ne_of_none hp hl0
    refine ⟨_, rfl, p, C, dx, [], rfl, by rw [upd_ne np, upd_ne np0]; exact hp, T.cl, T.nS, (by show 0 < 1000; decide), ?_⟩
    refine k1 n rfl hn l _ ⟨⟨dx, upd_same⟩, ?_⟩ (fun b o hb e => ?_) hl0
    · rw [rep_one, ← List.map_replicate, upd_ne np.symm, upd_same]
    · rw [upd_ne hb, upd_ne (ne_of_none e hl0), upd_ne (ne_of_none e h0)]
      exact e
def spNS (C C3 : Addr) : Sp := fun vs H Q E => ∃ (p l : Addr) (xs : List Int) (v : V), vs = [.ref p, v] ∧ TabAt C H p l xs ∧ Odd H v ∧ (∀ j, asS xs.length v = some j → Q .non H) ∧ (asS xs.length v = none → OutV C3 "index" v H E)
theorem scNS : FnScope ["self", "slot"] ["self", "slot"] (defScope sNS) := ⟨rfl, rfl, rfl, by decide +kernel, rfl, by decide +kernel, by decide +kernel⟩
theorem ok_ns {f f2 C C3 pz gz : Addr} {fd fd2 fdz : FuncData} (F : Fun K "_need_slot" "SlotTable._need_slot" sNS f fd) (T : TT K mg C pz gz) (B : Bl mg) (D2 : Df K mg "is_between" "is_between" sBetween ["thing", "low", "high"] f2 fd2) (G2 : FnOk P w K mg base CX0 2 f2 fd2 ["thing", "low", "high"] spBetween)
    (bz : Binds K fdz ["self"] []) (Gz : FnOk P w K mg base CX0 1 gz fdz ["self"] (spSz C)) (x : XK P w K mg base "NoEntry" C3 "index") : FnOk P w K mg base (L2.CX P w) 3 f fd ["self", "slot"] (spNS C C3) := by
  refine F.okX scNS (fun vs H Q E h => ?_) (fun cdv A outer s H vs Q E hr h => ?_)
  · obtain ⟨p, l, xs, j, rfl, _⟩ := h
    rfl
  · obtain ⟨p, l, xs, v, rfl, t, o, k1, k2⟩ := h
    obtain ⟨dx, hp⟩ := t.ob
    refine ⟨_, pss_one (ps_if (pt_not (pt_val (pe_call G2 hr rfl D2.g D2.F.kp D2.b .nil pass0 (pa_cons (pv 1) (pa_cons pe_int (pa_cons (pe_op op_sub (pe_prop (pv 0) T.cl T.pr Gz hr bz .nil pass0 rfl) pe_int) pa_nil))))))
      (pss_one (ps_raise rfl (takes_of rfl rfl rfl rfl) (pmk_x (XK.to x) hr rfl x.g (pa_cons (pv 1) pa_nil)))) pss_nil), ?_⟩
    refine ⟨_, rfl, _, rfl, p, dx, _, rfl, hp, p, l, xs, rfl, t, _, _, rfl, rfl, v, 0, _, rfl, o, _, rfl, ?_⟩
    cases hc : asS xs.length v with
    | none => exact iteYes (by rw [← asS_isSome, hc]; rfl) ⟨_, rfl, _, rfl, fun d hd => k2 hc d hd⟩
    | some n => exact iteNo (by rw [← asS_isSome, hc]; rfl) (k1 n hc)
def spVal (C C3 : Addr) : Sp := fun vs H Q E => ∃ (p l : Addr) (xs : List Int) (v : V), vs = [.ref p, v] ∧ TabAt C H p l xs ∧ Odd H v ∧ (∀ j y, asS xs.length v = some j → xs[j]? = some y → Q (.int y) H) ∧ (asS xs.length v = none → OutV C3 "index" v H E)
theorem scVal : FnScope ["self", "slot"] ["self", "slot"] (defScope sVal) := ⟨rfl, rfl, rfl, by decide +kernel, rfl, by decide +kernel, by decide +kernel⟩
theorem ok_val {f f2 C C3 pz gz : Addr} {fd fd2 : FuncData} (F : Fun K "value_at" "SlotTable.value_at" sVal f fd) (T : TT K mg C pz gz) (m2 : Meth K C "_need_slot" f2) (b2 : Binds K fd2 ["self", "slot"] []) (G2 : FnOk P w K mg base (L2.CX P w) 3 f2 fd2 ["self", "slot"] (spNS C C3)) :
    FnOk P w K mg base (L2.CX P w) 4 f fd ["self", "slot"] (spVal C C3) := by
  refine F.okX scVal (fun vs H Q E h => ?_) (fun cdv A outer s H vs Q E hr h => ?_)
  · obtain ⟨p, l, xs, j, rfl, _⟩ := h
    rfl
  · obtain ⟨p, l, xs, v, rfl, t, o, k1, k2⟩ := h
    obtain ⟨dx, hp⟩ := t.ob
    refine ⟨_, pss_cons (ps_expr (pe_meth (E := E) (pv 0) T.cl m2 G2 hr b2 .nil (passes_call (takes_of rfl rfl rfl rfl) fun _ _ _ _ z => z) (pa_cons (pv 1) pa_nil))) (pss_one (ps_ret (pe_ix ix_list (pe_fld (pv 0) rfl) (pv 1) (fun _ _ => rfl)))), ?_⟩
    refine ⟨_, rfl, p, dx, _, rfl, hp, rfl, _, rfl, p, l, xs, v, rfl, t, o, fun j hj => ?_, k2⟩
    obtain ⟨rfl, hl⟩ := asS_some hj
    have hy := List.getElem?_eq_getElem hl
    refine ⟨_, rfl, p, C, dx, _, _, rfl, hp, T.cl, T.nS, rfl, _, rfl, l, _, _, _, rfl, rfl, SqL.of t.ls, atI_nat (v := .int xs[j]) (by rw [List.getElem?_map, hy]; rfl), k1 j _ hj hy⟩
def spTup (C : Addr) : Sp := fun vs H Q _ => ∃ (p l : Addr) (xs : List Int), vs = [.ref p] ∧ TabAt C H p l xs ∧ ∀ t, H t = none → Q (.ref t) (upd H t (.tup (xs.map V.int)))
theorem scTup : FnScope ["self"] ["self"] (defScope sTup) := ⟨rfl, rfl, rfl, by decide +kernel, rfl, by decide +kernel, by decide +kernel⟩
theorem ok_tup {f C pz gz : Addr} {fd : FuncData} (F : Fun K "as_tuple" "SlotTable.as_tuple" sTup f fd) (T : TT K mg C pz gz) (B : Bl mg) : FnOk P w K mg base CX0 1 f fd ["self"] (spTup C) := by
  refine F.ok scTup (fun vs H Q E h => ?_) (fun cdv A outer s H vs Q E hr h => ?_)
  · obtain ⟨p, l, xs, rfl, _⟩ := h
    rfl
  · obtain ⟨p, l, xs, rfl, ⟨⟨dx, hp⟩, hl⟩, k⟩ := h
    refine ⟨_, pss_one (ps_ret (pe_callTy call_tuple_of (by rfl) B.tuple (by decide +kernel) (pa_cons (pe_fld (pv 0) rfl) pa_nil))), ?_⟩
    exact ⟨_, rfl, p, C, dx, _, _, rfl, hp, T.cl, T.nS, rfl, l, _, rfl, .inl ⟨SqL.of hl, fun t ht => k t ht⟩⟩
def spCnt (C C3 : Addr) : Sp := fun vs H Q E => ∃ (p l : Addr) (xs : List Int) (v : V), vs = [.ref p, v] ∧ TabAt C H p l xs ∧ Odd H v ∧ (∀ n, v = .int n → -2 ≤ n → Q (.int (xs.count n : Nat)) H) ∧ ((∀ n, v = .int n → n < -2) → OutV C3 "index" v H E)
theorem scCnt : FnScope ["self", "value"] ["self", "value"] (defScope sCnt) := ⟨rfl, rfl, rfl, by decide +kernel, rfl, by decide +kernel, by decide +kernel⟩
theorem ok_cnt {f f1 C C3 pz gz : Addr} {fd fd1 : FuncData} (F : Fun K "count_of" "SlotTable.count_of" sCnt f fd) (T : TT K mg C pz gz) (D1 : Df K mg "is_whole" "is_whole" sWhole ["thing"] f1 fd1) (G1 : FnOk P w K mg base CX0 1 f1 fd1 ["thing"] spWhole) (x : XK P w K mg base "NoEntry" C3 "index") :
    FnOk P w K mg base (L2.CX P w) 3 f fd ["self", "value"] (spCnt C C3) := by
  obtain ⟨th, ho⟩ := T.ho
  refine F.okX scCnt (fun vs H Q E h => ?_) (fun cdv A outer s H vs Q E hr h => ?_)
  · obtain ⟨p, l, xs, n, rfl, _⟩ := h
    rfl
  · obtain ⟨p, l, xs, v, rfl, t, o, k1, k2⟩ := h
    obtain ⟨dx, hp⟩ := t.ob
    refine ⟨_, pss_cons (ps_if (PW.pt (pw_or (pt_not (pt_val (pe_call G1 (hr.mono (by decide)) rfl D1.g D1.F.kp D1.b .nil pass0 (pa_cons (pv 1) pa_nil)))) (pw_or1 (pt_cmpR op_lt (pv 1) (pe_glob (v := .int (-2)) rfl ho ⟨_, rfl⟩) (nomark _))))) (pss_one (ps_raise rfl (takes_of rfl rfl rfl rfl) (pmk_x (XK.to x) (hr.mono (by decide)) rfl x.g (pa_cons (pv 1) pa_nil)))) pss_nil)
      (pss_one (ps_ret (pe_bm PySem.F.plainAttrs_list PySem.F.slot_list_count PySem.F.type_list_count mt_lcount (pe_fld (pv 0) rfl) (pa_cons (pv 1) pa_nil)))), ?_⟩
    refine ⟨_, rfl, v, rfl, o, _, rfl, ?_⟩
    cases hw : (wh v).isSome with
    | false =>
      refine iteYes rfl ⟨_, rfl, _, rfl, fun d hd => k2 (fun n e => ?_) d hd⟩
      subst e
      cases hw
    | true =>
      obtain ⟨n, rfl⟩ := wh_some hw
      refine iteNo rfl ⟨_, rfl, _, _, rfl, rfl, _, rfl, ?_⟩
      refine ite2 (fun e => ?_) (fun e => ?_)
      · refine ⟨_, rfl, _, rfl, fun d hd => k2 (fun m e2 => ?_) d hd⟩
        cases e2
        exact of_decide_eq_true e
      · have hn : -2 ≤ n := by
          have := of_decide_eq_false (Bool.eq_false_iff.mpr e)
          omega
        exact ⟨_, rfl, p, C, dx, _, _, rfl, hp, T.cl, T.nS, rfl, .inl ⟨rfl, _, SqL.of t.ls⟩, _, rfl, l, xs, n, rfl, rfl, SqL.of t.ls, k1 n rfl hn⟩
def spPF (C C4 : Addr) : Sp := fun vs H Q E => ∃ (p l : Addr) (xs : List Int) (c : Nat), vs = [.ref p, .int (c : Int)] ∧ TabAt C H p l xs ∧ c < 4294967296 ∧ goodSize xs.length ∧ (∀ j, FreeAt xs c j → Q (.int (sA xs.length c j : Nat)) H) ∧ (NoFree xs c → OutV C4 "limit" (.int (xs.length : Nat)) H E)
theorem scPF : FnScope ["self", "code", "reach", "slot"] ["self", "code"] (defScope sPF) := ⟨rfl, rfl, rfl, by decide +kernel, rfl, by decide +kernel, by decide +kernel⟩
theorem ok_pf {f f5 C C4 pz gz : Addr} {fd fd5 fdz : FuncData} (F : Fun K "_place_for" "SlotTable._place_for" sPF f fd) (T : TT K mg C pz gz) (D5 : Df K mg "path" "path" sPath ["code", "size", "many"] f5 fd5) (G5 : Pth.PathDef P w K mg base 5 f5 fd5)
    (bz : Binds K fdz ["self"] []) (Gz : FnOk P w K mg base CX0 1 gz fdz ["self"] (spSz C)) (x : XK P w K mg base "TooLarge" C4 "limit") : FnOk P w K mg base (L2.CX P w) 7 f fd ["self", "code"] (spPF C C4) := by
  obtain ⟨tx, ex⟩ := T.ex
  refine F.okX scPF (fun vs H Q E h => ?_) (fun cdv A outer s H vs Q E hr h => ?_)
  · obtain ⟨p, l, xs, c, rfl, _⟩ := h
    rfl
  · obtain ⟨p, l, xs, c, rfl, t, hc, hz, k1, k2⟩ := h
    obtain ⟨dx, hp⟩ := t.ob
    have h8 := hz.pos
    refine ⟨_, pss_cons (ps_set (i := 2) scPF.nd rfl (Or.inl rfl) (pe_op op_add (pe_prop (pv 0) T.cl T.pr Gz (hr.mono (by decide)) bz .nil pass0 rfl) (pe_glob (v := .int 6) rfl ex ⟨_, rfl⟩)))
      (pss_cons (Pth.ps_forP G5 hr rfl D5.g D5.F.kp D5.b (pa_cons (pv 1) (pa_cons (pe_prop (pv 0) T.cl T.pr Gz (hr.mono (by decide)) bz .nil pass0 rfl) (pa_cons (pv 2) pa_nil))) (passes_of rfl) rfl scPF.nd (ix := 3) rfl (Or.inl rfl)
        (pss_one (ps_if (pt_cmpR op_lt (pe_ix ix_list (pe_fld (pv 0) rfl) (pv 3) (fun _ _ => rfl)) pe_int (nomark _)) (pss_one (ps_ret (pv 3))) pss_nil))) (pss_one (ps_raise rfl (takes_of rfl rfl rfl rfl) (pmk_x (XK.to x) (hr.mono (by decide)) rfl x.g (pa_cons (pe_prop (pv 0) T.cl T.pr Gz (hr.mono (by decide)) bz .nil pass0 rfl) pa_nil))))), ?_⟩
    refine ⟨_, rfl, p, dx, _, rfl, hp, p, l, xs, rfl, t, _, _, rfl, rfl, ?_⟩
    refine ⟨_, rfl, _, rfl, p, dx, _, rfl, hp, p, l, xs, rfl, t, _, rfl, (c : Int), (xs.length : Int), ((xs.length + 6 : Nat) : Int), rfl, pok hz hc (by omega), fun n σ H' => (∃ v, σ = [some (.ref p), some (.int (c : Int)), some (.int ((xs.length + 6 : Nat) : Int)), v]) ∧ H' = H ∧ ∀ i, i < n → ∃ v, xs[sA xs.length c i]? = some v ∧ 0 ≤ v, ⟨⟨_, rfl⟩, rfl, fun i hi => absurd hi (Nat.not_lt_zero _)⟩, ?_, ?_⟩
    · rintro n σ H' hn ⟨⟨v, rfl⟩, rfl, hj⟩
      rw [(sl_nat (by omega) n).2]
      have hy := List.getElem?_eq_getElem (sA_lt (show 0 < xs.length by omega) c n)
      refine ⟨_, rfl, p, C, dx, _, _, rfl, hp, T.cl, T.nS, rfl, _, rfl, ?_⟩
      refine ⟨l, _, _, _, rfl, rfl, SqL.of t.ls, atI_nat (v := .int (xs[sA xs.length c n]'(sA_lt (show 0 < xs.length by omega) c n))) (by rw [List.getElem?_map, hy]; rfl), _, _, rfl, rfl, _, rfl, ?_⟩
      have hn6 : n < xs.length + 6 := by
        have : (((xs.length + 6 : Nat) : Int)).toNat = xs.length + 6 := by omega
        omega
      refine ite2 (fun e => ?_) (fun e => ?_)
      · exact ⟨_, rfl, k1 n ⟨hn6, ⟨_, hy, of_decide_eq_true e⟩, hj⟩⟩
      · refine ⟨⟨_, rfl⟩, rfl, fun i hi => ?_⟩
        by_cases ei : i = n
        · subst ei
          have := of_decide_eq_false (Bool.eq_false_iff.mpr e)
          exact ⟨_, hy, by omega⟩
        · exact hj i (by omega)
    · rintro σ H' ⟨⟨v, rfl⟩, rfl, hj⟩
      have e6 : (((xs.length + 6 : Nat) : Int)).toNat = xs.length + 6 := by omega
      rw [e6] at hj
      exact ⟨_, rfl, p, dx, _, rfl, hp, p, l, xs, rfl, t, _, rfl, fun d hd => k2 hj d hd⟩
def spPlace (C C1 C3 C4 : Addr) : Sp := fun vs H Q E => ∃ (p l : Addr) (xs : List Int) (c ix : V), vs = [.ref p, c, ix] ∧ TabAt C H p l xs ∧ goodSize xs.length ∧ Odd H c ∧ Odd H ix ∧ (asC c = none → OutE C1 "reason" H E) ∧ (∀ cn, asC c = some cn → asN ix = none → OutV C3 "index" ix H E) ∧
  ∀ cn n, asC c = some cn → asN ix = some n → (∀ j, FreeAt xs cn j → Q (.int (sA xs.length cn j : Nat)) (upd H l (.lst ((xs.set (sA xs.length cn j) (n : Int)).map V.int)))) ∧ (NoFree xs cn → OutV C4 "limit" (.int (xs.length : Nat)) H E)
theorem scPlace : FnScope ["self", "code", "index", "slot"] ["self", "code", "index"] (defScope sPlace) := ⟨rfl, rfl, rfl, by decide +kernel, rfl, by decide +kernel, by decide +kernel⟩
theorem ok_place {f f1 f2 f3 C C1 C3 C4 pz gz : Addr} {fd fd1 fd2 fd3 : FuncData} (F : Fun K "place" "SlotTable.place" sPlace f fd) (T : TT K mg C pz gz) (D1 : Df K mg "need_code" "need_code" sNeedCode ["thing"] f1 fd1) (G1 : FnOk P w K mg base (L2.CX P w) 4 f1 fd1 ["thing"] (spNeedCode C1))
    (D2 : Df K mg "_need_index" "_need_index" sNeedIndex ["index"] f2 fd2) (G2 : FnOk P w K mg base (L2.CX P w) 3 f2 fd2 ["index"] (spNeedIndex C3)) (m3 : Meth K C "_place_for" f3) (b3 : Binds K fd3 ["self", "code"] []) (G3 : FnOk P w K mg base (L2.CX P w) 7 f3 fd3 ["self", "code"] (spPF C C4)) :
    FnOk P w K mg base (L2.CX P w) 8 f fd ["self", "code", "index"] (spPlace C C1 C3 C4) := by
  refine F.okX scPlace (fun vs H Q E h => ?_) (fun cdv A outer s H vs Q E hr h => ?_)
  · obtain ⟨p, l, xs, c, ix, rfl, _⟩ := h
    rfl
  · obtain ⟨p, l, xs, c, ix, rfl, t, hz, oc, oi, k1, k2, k3⟩ := h
    obtain ⟨dx, hp⟩ := t.ob
    have h8 := hz.pos
    refine ⟨_, pss_cons (ps_expr (pe_call (E := E) G1 (hr.mono (by decide)) rfl D1.g D1.F.kp D1.b .nil (passes_call (takes_of rfl rfl rfl rfl) fun _ _ _ _ z => z) (pa_cons (pv 1) pa_nil))) (pss_cons (ps_expr (pe_call (E := E) G2 (hr.mono (by decide)) rfl D2.g D2.F.kp D2.b .nil (passes_call (takes_of rfl rfl rfl rfl) fun _ _ _ _ z => z) (pa_cons (pv 2) pa_nil)))
      (pss_cons (ps_set (i := 3) scPlace.nd rfl (Or.inl rfl) (pe_meth (E := E) (pv 0) T.cl m3 G3 hr b3 .nil (passes_call (takes_of rfl rfl rfl rfl) fun _ _ _ _ z => z) (pa_cons (pv 1) pa_nil)))
      (pss_cons (ps_asg (pv 2) (pg_sub (pe_fld (pv 0) rfl) (pv 3) set_list (fun _ => rfl))) (pss_one (ps_ret (pv 3)))))), ?_⟩
    refine ⟨_, rfl, c, rfl, oc, fun cn hcn => ?_, k1⟩
    refine ⟨_, rfl, ix, rfl, oi, fun n hn => ?_, k2 cn hcn⟩
    obtain ⟨rfl, hc⟩ := asC_some hcn
    obtain rfl := asN_some hn
    obtain ⟨k4, k5⟩ := k3 cn n hcn hn
    refine ⟨_, rfl, p, dx, _, rfl, hp, rfl, _, rfl, p, l, xs, cn, rfl, t, hc, hz, fun j fa => ?_, k5⟩
    refine ⟨_, rfl, _, rfl, p, C, dx, _, _, rfl, hp, T.cl, T.nS, rfl, _, rfl, l, _, _, _, rfl, rfl, t.ls, ixN_n (j := sA xs.length cn j) (by rw [List.length_map]; exact sA_lt (by omega) cn j), ?_⟩
    refine ⟨_, rfl, ?_⟩
    have k := k4 j fa
    rw [List.map_set] at k
    exact k
def spErase (C C3 : Addr) : Sp := fun vs H Q E => ∃ (p l : Addr) (xs : List Int) (v : V), vs = [.ref p, v] ∧ TabAt C H p l xs ∧ Odd H v ∧ (∀ j y, asS xs.length v = some j → xs[j]? = some y → 0 ≤ y → Q (.int y) (upd H l (.lst ((xs.set j (-2)).map V.int)))) ∧
  ((∀ j y, asS xs.length v = some j → xs[j]? = some y → y < 0) → OutV C3 "index" v H E)
theorem scErase : FnScope ["self", "slot", "index"] ["self", "slot"] (defScope sErase) := ⟨rfl, rfl, rfl, by decide +kernel, rfl, by decide +kernel, by decide +kernel⟩
theorem ok_erase {f f1 C C3 pz gz : Addr} {fd fd1 : FuncData} (F : Fun K "erase" "SlotTable.erase" sErase f fd) (T : TT K mg C pz gz) (m1 : Meth K C "value_at" f1) (b1 : Binds K fd1 ["self", "slot"] []) (G1 : FnOk P w K mg base (L2.CX P w) 4 f1 fd1 ["self", "slot"] (spVal C C3)) (x : XK P w K mg base "NoEntry" C3 "index") :
    FnOk P w K mg base (L2.CX P w) 5 f fd ["self", "slot"] (spErase C C3) := by
  obtain ⟨th, ho⟩ := T.ho
  refine F.okX scErase (fun vs H Q E h => ?_) (fun cdv A outer s H vs Q E hr h => ?_)
  · obtain ⟨p, l, xs, j, rfl, _⟩ := h
    rfl
  · obtain ⟨p, l, xs, v, rfl, t, o, k1, k2⟩ := h
    obtain ⟨dx, hp⟩ := t.ob
    refine ⟨_, pss_cons (ps_set (i := 2) scErase.nd rfl (Or.inl rfl) (pe_meth (E := E) (pv 0) T.cl m1 G1 hr b1 .nil (passes_call (takes_of rfl rfl rfl rfl) fun _ _ _ _ z => z) (pa_cons (pv 1) pa_nil)))
      (pss_cons (ps_if (pt_cmpR op_lt (pv 2) pe_int (nomark _)) (pss_one (ps_raise rfl (takes_of rfl rfl rfl rfl) (pmk_x (XK.to x) (hr.mono (by decide)) rfl x.g (pa_cons (pv 1) pa_nil)))) pss_nil)
      (pss_cons (ps_asg (pe_glob (v := .int (-2)) rfl ho ⟨_, rfl⟩) (pg_sub (pe_fld (pv 0) rfl) (pv 1) set_list (fun _ => rfl))) (pss_one (ps_ret (pv 2))))), ?_⟩
    refine ⟨_, rfl, p, dx, _, rfl, hp, rfl, _, rfl, p, l, xs, v, rfl, t, o, fun j y hj hy => ?_, fun e => k2 fun j y hj hy => by rw [e] at hj; cases hj⟩
    refine ⟨_, rfl, _, _, rfl, rfl, _, rfl, ?_⟩
    refine ite2 (fun e => ?_) (fun e => ?_)
    · refine ⟨_, rfl, _, rfl, fun d hd => k2 (fun j2 y2 hj2 hy2 => ?_) d hd⟩
      rw [hj] at hj2
      cases hj2
      rw [hy] at hy2
      cases hy2
      exact of_decide_eq_true e
    · have h0 := of_decide_eq_false (Bool.eq_false_iff.mpr e)
      obtain ⟨rfl, hl⟩ := asS_some hj
      refine ⟨_, rfl, p, C, dx, _, _, rfl, hp, T.cl, T.nS, rfl, _, rfl, l, _, _, _, rfl, rfl, t.ls, ixN_n (j := j) (by rw [List.length_map]; exact hl), ?_⟩
      refine ⟨_, rfl, ?_⟩
      have k := k1 j y hj hy (by omega)
      rw [List.map_set] at k
      exact k
end
end K16
set_option Elab.async false
set_option linter.all false
set_option maxRecDepth 100000
set_option maxHeartbeats 4000000
namespace K16
open PySem L2 Xo Lm LamX
section
variable {P : Program} {w : World} {K : PySem.W.Frag} {mg : Str → Option Value} {base : Heap}

/-- the trail from the i-th slot on, m slots left -/
def goT (xs : List Int) (c : Nat) : Nat → Nat → List Nat
  | 0, _ => []
  | m + 1, i => sA xs.length c i :: (if xs[sA xs.length c i]? = some (-1) then [] else goT xs c m (i + 1))
def trailOf (xs : List Int) (c : Nat) : List Nat := goT xs c (xs.length + 6) 0
theorem goT_len (xs : List Int) (c : Nat) : ∀ m i, (goT xs c m i).length ≤ m
  | 0, _ => Nat.le_refl _
  | m + 1, i => by
    unfold goT
    split
    · simp
    · have := goT_len xs c m (i + 1)
      rw [List.length_cons]
      omega
theorem goT_lt {xs : List Int} (h : 0 < xs.length) (c : Nat) : ∀ m i, ∀ x ∈ goT xs c m i, x < xs.length
  | 0, _, x, hx => by cases hx
  | m + 1, i, x, hx => by
    unfold goT at hx
    rcases List.mem_cons.mp hx with rfl | hx
    · exact sA_lt h c i
    · split at hx
      · cases hx
      · exact goT_lt h c m (i + 1) x hx
abbrev nV (x : Nat) : V := .int (x : Int)
def spTrail (C : Addr) : Sp := fun vs H Q _ => ∃ (p l : Addr) (xs : List Int) (c : Nat), vs = [.ref p, .int (c : Int)] ∧ TabAt C H p l xs ∧ c < 4294967296 ∧ goodSize xs.length ∧ ∀ t, H t = none → Q (.ref t) (upd H t (.lst ((trailOf xs c).map nV)))
theorem scTrail : FnScope ["self", "code", "reach", "slots", "slot"] ["self", "code"] (defScope sTrail) := ⟨rfl, rfl, rfl, by decide +kernel, rfl, by decide +kernel, by decide +kernel⟩
theorem ok_trail {f f5 C pz gz : Addr} {fd fd5 fdz : FuncData} (F : Fun K "trail" "SlotTable.trail" sTrail f fd) (T : TT K mg C pz gz) (D5 : Df K mg "path" "path" sPath ["code", "size", "many"] f5 fd5) (G5 : Pth.PathDef P w K mg base 5 f5 fd5)
    (bz : Binds K fdz ["self"] []) (Gz : FnOk P w K mg base CX0 1 gz fdz ["self"] (spSz C)) : FnOk P w K mg base CX0 7 f fd ["self", "code"] (spTrail C) := by
  obtain ⟨tx, ex⟩ := T.ex
  obtain ⟨te, em⟩ := T.em
  refine F.ok scTrail (fun vs H Q E h => ?_) (fun cdv A outer s H vs Q E hr h => ?_)
  · obtain ⟨p, l, xs, c, rfl, _⟩ := h
    rfl
  · obtain ⟨p, l, xs, c, rfl, t, hc, hz, k⟩ := h
    obtain ⟨dx, hp⟩ := t.ob
    have h8 := hz.pos
    refine ⟨_, pss_cons (ps_set (i := 2) scTrail.nd rfl (Or.inl rfl) (pe_op op_add (pe_prop (pv 0) T.cl T.pr Gz (hr.mono (by decide)) bz .nil pass0 rfl) (pe_glob (v := .int 6) rfl ex ⟨_, rfl⟩)))
      (pss_cons (ps_set (i := 3) scTrail.nd rfl (Or.inl rfl) (pe_lst pa_nil))
      (pss_cons (Pth.ps_forP G5 hr rfl D5.g D5.F.kp D5.b (pa_cons (pv 1) (pa_cons (pe_prop (pv 0) T.cl T.pr Gz (hr.mono (by decide)) bz .nil pass0 rfl) (pa_cons (pv 2) pa_nil))) PassesOwn.never rfl scTrail.nd (ix := 4) rfl (Or.inl rfl)
        (pss_cons (ps_expr (pe_bm PySem.F.plainAttrs_list PySem.F.slot_list_append PySem.F.type_list_append mt_append (pv 3) (pa_cons (pv 4) pa_nil)))
          (pss_one (ps_if (pt_cmpR op_eq (pe_ix ix_list (pe_fld (pv 0) rfl) (pv 4) (fun _ _ => rfl)) (pe_glob (v := .int (-1)) rfl em ⟨_, rfl⟩) (nomark _)) (pss_one ps_break) pss_nil)))) (pss_one (ps_ret (pv 3))))), ?_⟩
    refine ⟨_, rfl, p, dx, _, rfl, hp, p, l, xs, rfl, t, _, _, rfl, rfl, ?_⟩
    refine ⟨Nat.zero_le _, fun a ha => ?_⟩
    have npa := ne_of_none hp ha
    have nla := ne_of_none t.ls ha
    have hp' : ∀ o, upd H a o p = some (.ins C dx [("_slots", .ref l)]) := fun o => by rw [upd_ne npa]; exact hp
    have t' : ∀ o, TabAt C (upd H a o) p l xs := fun o => ⟨⟨dx, hp' o⟩, by rw [upd_ne nla]; exact t.ls⟩
    refine ⟨_, rfl, _, rfl, p, dx, _, rfl, hp' _, p, l, xs, rfl, t' _, _, rfl, (c : Int), (xs.length : Int), ((xs.length + 6 : Nat) : Int), rfl, pok hz hc (by omega),
      fun n σ H' => (∃ v, σ = [some (.ref p), some (.int (c : Int)), some (.int ((xs.length + 6 : Nat) : Int)), some (.ref a), v]) ∧ ∃ acc : List Nat, acc.length = n ∧ H' = upd H a (.lst (acc.map nV)) ∧ acc ++ goT xs c (xs.length + 6 - n) n = trailOf xs c, ⟨⟨_, rfl⟩, [], rfl, rfl, rfl⟩, ?_, ?_⟩
    · rintro n σ H' hn ⟨⟨v, rfl⟩, acc, hl, rfl, ht⟩
      have hn' : n < xs.length + 6 := by
        have : (((xs.length + 6 : Nat) : Int)).toNat = xs.length + 6 := by omega
        omega
      rw [(sl_nat (by omega) n).2]
      refine ⟨_, rfl, .inl ⟨rfl, _, SqL.of upd_same⟩, _, rfl, a, _, _, rfl, rfl, upd_same, by rw [List.length_map]; exact Nat.lt_of_lt_of_le (show acc.length < 5000 by omega) (by decide), ?_⟩
      rw [upd_upd]
      obtain ⟨y, hy⟩ : ∃ y, xs[sA xs.length c n]? = some y := ⟨_, List.getElem?_eq_getElem (sA_lt (by omega) c n)⟩
      have e5 : xs.length + 6 - n = (xs.length + 6 - (n + 1)) + 1 := by omega
      rw [e5] at ht
      unfold goT at ht
      refine ⟨_, rfl, p, C, dx, _, _, rfl, hp' _, T.cl, T.nS, rfl, _, rfl, l, _, _, _, rfl, rfl, SqL.of (t' _).ls, atI_nat (v := .int y) (by rw [List.getElem?_map, hy]; rfl), rfl, _, rfl, ?_⟩
      have em : acc.map nV ++ [V.int (K12.slotAt xs.length c n : Nat)] = (acc ++ [sA xs.length c n]).map nV := by rw [List.map_append]; rfl
      refine ite2 (fun e => ?_) (fun e => ?_)
      · have ey : y = -1 := by simpa using of_decide_eq_true e
        rw [hy, ey, if_pos rfl] at ht
        refine ⟨.ref a, rfl, ?_⟩
        rw [em, ht]
        exact k a ha
      · have ey : ¬ y = -1 := fun z => by
          subst z
          exact Bool.false_ne_true ((Bool.eq_false_iff.mpr e).symm.trans (decide_eq_true rfl))
        rw [hy, if_neg (fun z => ey (Option.some.inj z))] at ht
        refine ⟨⟨_, rfl⟩, acc ++ [sA xs.length c n], by rw [List.length_append, hl]; rfl, by rw [em], ?_⟩
        rw [List.append_assoc]
        exact ht
    · rintro σ H' ⟨⟨v, rfl⟩, acc, hl, rfl, ht⟩
      refine ⟨_, rfl, ?_⟩
      have e6 : (((xs.length + 6 : Nat) : Int)).toNat = xs.length + 6 := by omega
      rw [e6, Nat.sub_self] at ht
      rw [show acc = trailOf xs c from (List.append_nil acc).symm.trans ht]
      exact k a ha
/-- what slot_of answers -/
def slotRes (xs : List Int) (c ix : Nat) : V := match (trailOf xs c).find? (fun s => decide (xs[s]? = some (ix : Int))) with
  | some s => nV s
  | none => .non
def spSlotOf (C C1 C3 : Addr) : Sp := fun vs H Q E => ∃ (p l : Addr) (xs : List Int) (vc vi : V), vs = [.ref p, vc, vi] ∧ TabAt C H p l xs ∧ goodSize xs.length ∧ Odd H vc ∧ Odd H vi ∧ (asC vc = none → OutE C1 "reason" H E) ∧ (∀ c, asC vc = some c → asN vi = none → OutV C3 "index" vi H E) ∧
  ∀ c ix, asC vc = some c → asN vi = some ix → ∀ t, H t = none → Q (slotRes xs c ix) (upd H t (.lst ((trailOf xs c).map nV)))
theorem scSlotOf : FnScope ["self", "code", "index", "slot"] ["self", "code", "index"] (defScope sSlotOf) := ⟨rfl, rfl, rfl, by decide +kernel, rfl, by decide +kernel, by decide +kernel⟩
theorem ok_slotOf {f f1 f2 f3 C C1 C3 pz gz : Addr} {fd fd1 fd2 fd3 : FuncData} (F : Fun K "slot_of" "SlotTable.slot_of" sSlotOf f fd) (T : TT K mg C pz gz) (D1 : Df K mg "need_code" "need_code" sNeedCode ["thing"] f1 fd1) (G1 : FnOk P w K mg base (L2.CX P w) 4 f1 fd1 ["thing"] (spNeedCode C1))
    (D2 : Df K mg "_need_index" "_need_index" sNeedIndex ["index"] f2 fd2) (G2 : FnOk P w K mg base (L2.CX P w) 3 f2 fd2 ["index"] (spNeedIndex C3)) (m3 : Meth K C "trail" f3) (b3 : Binds K fd3 ["self", "code"] []) (G3 : FnOk P w K mg base CX0 7 f3 fd3 ["self", "code"] (spTrail C)) :
    FnOk P w K mg base (L2.CX P w) 8 f fd ["self", "code", "index"] (spSlotOf C C1 C3) := by
  refine F.okX scSlotOf (fun vs H Q E h => ?_) (fun cdv A outer s H vs Q E hr h => ?_)
  · obtain ⟨p, l, xs, c, ix, rfl, _⟩ := h
    rfl
  · obtain ⟨p, l, xs, vc, vi, rfl, t, hz, oc, oi, k1, k2, k3⟩ := h
    obtain ⟨dx, hp⟩ := t.ob
    have h8 := hz.pos
    refine ⟨_, pss_cons (ps_expr (pe_call (E := E) G1 (hr.mono (by decide)) rfl D1.g D1.F.kp D1.b .nil (passes_call (takes_of rfl rfl rfl rfl) fun _ _ _ _ z => z) (pa_cons (pv 1) pa_nil))) (pss_cons (ps_expr (pe_call (E := E) G2 (hr.mono (by decide)) rfl D2.g D2.F.kp D2.b .nil (passes_call (takes_of rfl rfl rfl rfl) fun _ _ _ _ z => z) (pa_cons (pv 2) pa_nil)))
      (pss_cons (ps_for (passes_of rfl) rfl (pi_list (pe_meth (pv 0) T.cl m3 G3 hr b3 .nil pass0 (pa_cons (pv 1) pa_nil))) (pg_name (i := 3) scSlotOf.nd rfl (Or.inl rfl))
        (pss_one (ps_if (pt_cmpR op_eq (pe_ix ix_list (pe_fld (pv 0) rfl) (pv 3) (fun _ _ => rfl)) (pv 2) (nomark _)) (pss_one (ps_ret (pv 3))) pss_nil)))
      (pss_one (ps_ret pe_non)))), ?_⟩
    refine ⟨_, rfl, vc, rfl, oc, fun c hcn => ?_, k1⟩
    refine ⟨_, rfl, vi, rfl, oi, fun ix hn => ?_, k2 c hcn⟩
    obtain ⟨rfl, hc⟩ := asC_some hcn
    obtain rfl := asN_some hn
    have k := k3 c ix hcn hn
    refine ⟨_, rfl, p, dx, _, rfl, hp, rfl, _, rfl, p, l, xs, c, rfl, t, hc, hz, fun a ha => ?_⟩
    have npa := ne_of_none hp ha
    have nla := ne_of_none t.ls ha
    have t' : ∀ o, TabAt C (upd H a o) p l xs := fun o => ⟨⟨dx, by rw [upd_ne npa]; exact hp⟩, by rw [upd_ne nla]; exact t.ls⟩
    have hp' : ∀ o, upd H a o p = some (.ins C dx [("_slots", .ref l)]) := fun o => by rw [upd_ne npa]; exact hp
    refine ⟨a, rfl, ⟨_, SqL.of upd_same⟩, for_list (K := K) (a := a) (xs := (trailOf xs c).map nV) (fun i σ H' => (∃ v, σ = [some (.ref p), some (.int (c : Int)), some (.int (ix : Int)), v]) ∧ H' = upd H a (.lst ((trailOf xs c).map nV)) ∧
      ((trailOf xs c).drop i).find? (fun s => decide (xs[s]? = some (ix : Int))) = (trailOf xs c).find? (fun s => decide (xs[s]? = some (ix : Int)))) ⟨⟨_, rfl⟩, rfl, rfl⟩ (fun i σ H' _ ⟨_, e, _⟩ => by subst e; exact SqL.of upd_same) ?_ ?_⟩
    · rintro i y σ H' hi ⟨⟨v, rfl⟩, rfl, hf⟩
      rw [List.getElem?_map] at hi
      obtain ⟨s', hs, rfl⟩ := Option.map_eq_some_iff.mp hi
      have hsl : s' < xs.length := goT_lt (by omega) c _ _ s' (List.mem_of_getElem? hs)
      obtain ⟨y, hy⟩ : ∃ y, xs[s']? = some y := ⟨_, List.getElem?_eq_getElem hsl⟩
      have hd : (trailOf xs c).drop i = s' :: (trailOf xs c).drop (i + 1) := by
        obtain ⟨h1, h2⟩ := List.getElem?_eq_some_iff.mp hs
        rw [← h2, List.drop_eq_getElem_cons h1]
      rw [hd] at hf
      refine ⟨_, rfl, p, C, dx, _, _, rfl, hp' _, T.cl, T.nS, rfl, _, rfl, l, _, _, _, rfl, rfl, SqL.of (t' _).ls, atI_nat (v := .int y) (by rw [List.getElem?_map, hy]; rfl), _, rfl, rfl, _, rfl, ?_⟩
      refine ite2 (fun e => ?_) (fun e => ?_)
      · have ey : y = (ix : Int) := by simpa using of_decide_eq_true e
        rw [List.find?_cons, hy, ey, decide_eq_true rfl] at hf
        refine ⟨_, rfl, ?_⟩
        have := k a ha
        unfold slotRes at this
        rw [← hf] at this
        exact this
      · have ey : ¬ y = (ix : Int) := fun z => by
          subst z
          exact Bool.false_ne_true ((Bool.eq_false_iff.mpr e).symm.trans (decide_eq_true rfl))
        rw [List.find?_cons, hy, decide_eq_false (fun z => ey (Option.some.inj z))] at hf
        exact ⟨⟨_, rfl⟩, rfl, hf⟩
    · rintro σ H' ⟨⟨v, rfl⟩, rfl, hf⟩
      rw [List.length_map, List.drop_length] at hf
      have := k a ha
      unfold slotRes at this
      rw [← hf] at this
      exact this
end
end K16
set_option Elab.async false
set_option linter.all false
set_option maxRecDepth 100000
set_option maxHeartbeats 1000000
/-! Pr: a for over a generator that raises at its first wake -/
namespace Pr
open PySem PySem.Spec PyProof.Rows L2 GenW Pth
open Sem (wp)
/-- a generator that has not begun, and raises when it is woken -/
structure RMade (P : Program) (w : World) (k : Nat) (outer : List Env) (H : Hp) (sC : Shared) (E : XK) (a : Addr) (g : Nat) (c : Code) (s' : Shared) : Prop where
  young : sC.heap.objs.size ≤ a
  gen : s'.heap.IsGen a g
  fresh : s'.gens[g]? = some (.fresh c)
  os : s'.os = sC.os
  bare : AllBare s'.gens
  lim : s'.heap.NoLimit
  keep : ∀ b o, sC.heap.get? b = some o → s'.heap.get? b = some o
  wake : ∀ (A : Around) (s2 : Shared), Room k A → A.frames = some outer → (∀ b o, s'.heap.get? b = some o → s2.heap.get? b = some o) → s2.os = sC.os → AllBare s2.gens →
     SegG (model P w) A (fun e s3 => ∃ ev, e = .ret (.error ev) ∧ CX P w outer H sC E ev s3 ∧ s3.heap.IsGen a g) c ((model P w).den c) [] s2
section
variable {P : Program} {w : World} {K : PySem.W.Frag} {mg : Str → Option Value} {base : Heap}
theorem raise_call {k : Nat} {f : Addr} {name qual : Str} {params : Arguments} {body : List Stmt} {scope : Scope} {dV kV doc pm cdv ct oc : Value} {an od : Option Addr} {osl : Array (Option Value)} {N ps : List Str} {vs : List V} {E : XK}
    (lk : K.lookup f = some ⟨oc, od, .func (PySem.W.fnOf name qual params body scope dV kV doc pm an cdv ct), osl⟩)
    (hcd : PySem.W.codeIn K cdv qual = true) (S : GScope N ps scope) (co : scope.isCoroutine = false) (hl : vs.length = ps.length) {A : Around} {outer : List Env} {s : Shared} {H : Hp} {args : Args} {us : List Value}
    (h5 : ∀ (A : Around) (pn : List (Addr × Obj)), Room k (A.deeper (envOfC qual scope s.heap.objs.size f cdv)) →
      ∃ t, PSs (gcxOf P w K mg base N qual scope f cdv A outer s H E pn) body t ∧ t { nx := fun _ _ => False, rt := fun _ _ => False } (start N vs) H)
    (hr : Room (k + 1) A) (e0 : Env0 P w K mg base A outer s H)
    (hb : BindsTo s (PySem.W.fnOf name qual params body scope dV kV doc pm an cdv ct) args (ps.zip us)) (r : Vals vs us) :
    codeAny (model P w) A (.call (.ref f) args) (fun r s' => match r with | .ok (.ret u) => ∃ a g c, u = .ref a ∧ RMade P w (k + 1) outer H s E a g c s' | _ => False) s := by
  have KX : K.In s.heap := e0.mod.kin.keeps fun b o e => (e0.bs b o e).1
  have lim : s.heap.NoLimit := e0.mod.nolimit.keeps fun b o e => (e0.bs b o e).1
  have hkind : ∀ y ∈ ps.zip us, scope.names.lookup y.1 = some .local ∨ (scope.names.lookup y.1 = some .cell ∧ ((cellsFrom (s.heap.objs.size + 1) scope.names []).lookup y.1).isSome = true) := fun ⟨n, v⟩ hy => by
    rcases S.par n (List.of_mem_zip hy).1 with q | q
    · exact .inl q
    · exact .inr ⟨q, PySem.W.cellsFrom_some _ _ _ (.inl q)⟩
  refine codeAny_call_generator hr.depth (KX _ _ lk) rfl co S.gen rfl (PySem.W.codeRec_of KX hcd) (hb _ _ _ _ ?_)
  refine wpAny_newFunctionEnv_cells S.kind hkind fun env he s1 x => ?_
  subst he
  have lim1 : s1.heap.NoLimit := lim.keeps x.toInCall.keep
  refine ⟨lim1, ?_⟩
  obtain ⟨h1, tk, es1, hk1⟩ := x.done
  have os1 : s1.os = s.os := by rw [es1]
  have gen1 : s1.gens = s.gens := by rw [es1]
  have lt1 : s.heap.objs.size < s1.heap.objs.size := x.toInCall.ns.lt
  have kp1 : ∀ b o, s.heap.get? b = some o → s1.heap.get? b = some o := x.toInCall.keep
  have main : ∀ (go : Obj) (nm' qn : Value) (tk2 : Nat), go.cls = .type "generator" → go.data = .fields #[.int s1.gens.size 0, nm', qn] → go.slots = #[] → (∀ h : Heap, (h.push go).get? h.objs.size = some go) →
      RMade P w (k + 1) outer H s E s1.heap.objs.size s1.gens.size (.func body (envOfC qual scope s.heap.objs.size f cdv))
        { s1 with gens := s1.gens.push (.fresh (.func body (envOfC qual scope s.heap.objs.size f cdv))), toks := tk2, heap := s1.heap.push go } := by
    intro go nm' qn tk2 hgc hgd0 hgs hgp
    have hgen : ∀ h : Heap, h.get? s1.heap.objs.size = some go → h.IsGen s1.heap.objs.size s1.gens.size := fun h e => ⟨go, nm', qn, e, hgc, hgd0, hgs⟩
    have hpushed : (s1.heap.push go).get? s1.heap.objs.size = some go := hgp _
    refine ⟨Nat.le_of_lt lt1, hgen _ hpushed, Array.getElem?_push_size .., os1, ?_, lim1.keeps fun b o e => Heap.get?_push_of_some _ e, fun b o e => Heap.get?_push_of_some _ (kp1 b o e), ?_⟩
    · exact AllBare.push (by rw [gen1]; exact e0.bare) rfl
    intro Aw s2 hrw hfr hk2 hos hba
    have e0w : Env0 P w K mg base Aw outer s H := ⟨hfr, e0.mod, e0.bs, e0.bsz, e0.funs, e0.frf, e0.hok, e0.bare⟩
    obtain ⟨t, ht, hq⟩ := h5 Aw [(s1.heap.objs.size, go)] (hrw.deeper _)
    have I1 : Inv (gcxOf P w K mg base N qual scope f cdv Aw outer s H E []) [] (start N vs) H s1 := inv_startG S hrw.hd e0w hl r x
    have kp2 : ∀ b o, s1.heap.get? b = some o → s2.heap.get? b = some o := fun b o e => hk2 b o (Heap.get?_push_of_some _ e)
    have I2 : Inv (gcxOf P w K mg base N qual scope f cdv Aw outer s H E []) [] (start N vs) H s2 :=
      I1.call' (ch := []) (hos.trans os1.symm) (Un.kept kp2) (I1.hok.kept kp2) hba fun b z => by simp at z
    have hea : s2.heap.get? s1.heap.objs.size = some go := hk2 s1.heap.objs.size go hpushed
    have hgd : ∀ v, go.data ≠ .cell v := fun v q => by rw [hgd0] at q; cases q
    have I3 : Inv (gcxOf P w K mg base N qual scope f cdv Aw outer s H E [(s1.heap.objs.size, go)]) [] (start N vs) H s2 := Inv.pinnedG I2 fun p hp => by
      rcases List.mem_append.mp hp with z | z
      · rw [List.mem_singleton.mp z]
        exact ⟨hea, I1.hok.fresh (Nat.le_refl _), Nat.ne_of_gt lt1, I1.nofs (Nat.le_refl _), hgd⟩
      · cases z
    refine sg_func (sg_wrap ?_)
    rw [over_func]
    refine wpAny_mono (ht.run [] s2 _ H _ I3 hq) (fun fl s3 hs => ?_) fun e s' hx => ?_
    · cases fl with
      | brk => obtain ⟨_, _, _, q⟩ := hs; exact False.elim q
      | cont => obtain ⟨_, _, _, q⟩ := hs; exact False.elim q
      | ret u => obtain ⟨_, _, _, _, _, q⟩ := hs; exact False.elim q
      | next => obtain ⟨_, _, _, q⟩ := hs; exact False.elim q
    · refine sg_wrap ?_
      rw [over_func]
      refine wpAny_mono (show wpAny (model P w) (Aw.deeper (envOfC qual scope s.heap.objs.size f cdv)) (leaving (envOfC qual scope s.heap.objs.size f cdv) e) (fun _ s'' => CX P w outer H s E e s'' ∧ ∀ p ∈ [(s1.heap.objs.size, go)], s''.heap.get? p.1 = some p.2) (fun _ _ => False) s' from hx) (fun _ s'' q => ?_) fun _ s'' q => q.elim
      exact sg_end (.error e) ⟨e, rfl, q.1, hgen _ (q.2 _ (List.mem_singleton.mpr rfl))⟩
  exact ⟨_, _, _, rfl, main _ _ _ _ rfl rfl rfl fun h => Heap.get?_push_size _ rfl⟩
end
section
variable {P : Program} {w : World} {A : Around} {E : Value → Shared → Prop} {s : Shared}
theorem next_raise {a : Addr} {g : Nat} {c : Code} {Φ : End → Shared → Prop} {Q : Option Value → Shared → Prop} (hl : s.heap.NoLimit) (hroom : A.depth < recursionLimit) (hg : s.heap.IsGen a g) (hgs : s.gens[g]? = some (.fresh c))
    (hgo : SegG (model P w) A.in1 Φ c ((model P w).den c) [] (s.setGen g .running))
    (hR : ∀ e s₁, Φ e s₁ → ∃ ev, e = .ret (.error ev) ∧ s₁.heap.IsGen a g ∧ NotStop (model P w) ev s₁.heap ∧ E ev (s₁.setGen g .finished)) :
    wpAny (model P w) A (pyNext (.ref a)) Q E s := by
  unfold pyNext
  refine wpAny_bind (wpAny_attempt (wpAny_callSpecial?_slot (name := Str.ofString "__next__") hg.typeIs slot_gen_next
    (wpAny_call_entry slot_gen_next hg.typeIs entry_gen_next ?_ (args_gen_next _))))
  show wpAny _ A.in1 (Builtin.Generator.genWake (.ref a) (.send .none)) _ _ s
  unfold Builtin.Generator.genWake
  refine wpAny_bind (wpAny_holding (wpAny_genNumber hg (wpAny_bind (wpAny_genState hgs ?_))))
  refine wpAny_bind (wpAny_roomToWake hl hroom ?_)
  show wpAny _ A.in1 (.resume g (.send .none) [] _) _ _ s
  refine resume_first hgs hgo fun e s₁ he => ?_
  obtain ⟨ev, rfl, hg1, hns, hq⟩ := hR e s₁ he
  refine ⟨rfl, ?_⟩
  obtain ⟨o, nm, qn, ho, hc, hd, hsl⟩ := hg1
  show wpAny _ A.in1 (Builtin.Generator.genLeft (.ref a) ev) _ _ _
  unfold Builtin.Generator.genLeft Builtin.Generator.madeByALambda
  refine wpAny_bind (wpAny_bind (wpAny_load (o := o) ho (wpAny_pure ?_)))
  refine wpAny_bind (hns _ _ _ _ rfl ?_)
  rw [Bool.and_false, if_neg Bool.false_ne_true]
  unfold Builtin.Generator.genEscaped
  first
    | refine wpAny_bind (hns _ _ _ _ rfl ?_)
    | refine wpAny_bind (wpAny_pure (wpAny_bind (hns _ _ _ _ rfl ?_)))
  rw [if_pos (show (!false) = true from rfl)]
  first
    | refine wpAny_throw ?_
    | refine wpAny_bind (wpAny_throw ?_)
  refine wpAny_bind (hns _ _ _ _ rfl ?_)
  rw [if_neg Bool.false_ne_true]
  exact wpAny_throw hq
end
/-- a generator def that raises at its first wake -/
def RDef (P : Program) (w : World) (K : PySem.W.Frag) (mg : Str → Option Value) (base : Heap) (k : Nat) (f : Addr) (fd : FuncData) (ps : List Str) (sp : List V → Hp → XK → Prop) : Prop :=
  ∀ {vs : List V} {A : Around} {outer : List Env} {s : Shared} {H : Hp} {E : XK} {args : Args} {us : List Value}, sp vs H E → Room k A → Env0 P w K mg base A outer s H → BindsTo s fd args (ps.zip us) → Vals vs us →
    codeAny (model P w) A (.call (.ref f) args) (fun r s' => match r with | .ok (.ret u) => ∃ a g c, u = .ref a ∧ RMade P w k outer H s E a g c s' | _ => False) s
section
variable {X : Cx}
/-- for x in f(..): .., f's generator raises -/
theorem ps_forR {f : Addr} {fd : FuncData} {k : Nat} {nmp : Str} {tg : Expr} {p pos' pos : Pos} {e : Expr} {es : List Expr} {ta : TA} {body : List Stmt} {ps : List Str} {sp : List V → Hp → XK → Prop} {E : XK}
    (F : RDef X.prog X.w X.K X.mg X.base k f fd ps sp) (len : ∀ vs H E, sp vs H E → vs.length = ps.length) (hx : Passes (CX X.prog X.w) X E) (hns : NoStop X.K E) (hr : Room (k + 1) X.A) (hg : Gl X nmp) (hm : X.mg nmp = some (.ref f)) (hk : PySem.W.keepIn X.K (.ref f) = true) (hb : Binds X.K fd ps []) (ha : PA X (e :: es) ta) (hp : PassesOwn (model X.prog X.w) X.A X.env X.xe)
    (hdb : (nmp == ("__debug__" : Str)) = false := by decide) (he : starEach (e :: es) X.env = (false, eval e X.env) :: starEach es X.env := by rfl) (hpl : (backTo pos' (starEach es X.env)).any (·.1) = false := by rfl)
    (hs : ∀ v, foldedSetIterable (.Call (.Name nmp p) (e :: es) [] pos') X.env v = pure v := by intro _; rfl) :
    PS X (.For tg (.Call (.Name nmp p) (e :: es) [] pos') body [] pos) (fun D σ H => ta σ H fun vs H1 => sp vs H1 E) := by
  refine ⟨fun pins s σ H D I h => ?_⟩
  refine wpAny_For ?_ hs
  refine wpAny_Call_Name_kw (ld_glob I hg hm ?_ hdb)
  refine PySem.W.callWith_K (h₀ := X.base) I.ok.mod.kin hk (thn (ha.run pos' pins s σ H _ I h) fun us s1 ⟨vs, H1, I1, r1, q1⟩ => ⟨I1.kIn, ?_⟩) he hpl
  have hl2 : us.length = ps.length := r1.length.symm.trans (len _ _ _ q1)
  have hbt : BindsTo s1 fd ⟨us, []⟩ (ps.zip us) := by
    have := hb s1 us I1.kIn (by rw [List.append_nil]; exact hl2)
    rw [List.append_nil] at this
    exact this
  refine wpAny_call (codeAny_mono (F q1 (hr.mono (Nat.le_succ _)) I1.env0 hbt r1) fun r s2 hq => ?_)
  cases r with
  | error e => exact False.elim hq
  | ok fl =>
  cases fl with
  | next => exact False.elim hq
  | brk => exact False.elim hq
  | cont => exact False.elim hq
  | ret u =>
  obtain ⟨a, g, c, rfl, m⟩ := hq
  refine wpAny_pyIter_gen m.gen ?_
  have I2 : Inv X pins σ H1 s2 := I1.call' (ch := []) m.os (Un.kept m.keep) (I1.hok.kept m.keep) m.bare fun b z => by simp at z
  refine codeAny_forLoop_any (fun n s' => n = 0 ∧ s' = s2) ?_ 0 ⟨rfl, rfl⟩
  rintro n s3 ⟨rfl, rfl⟩
  refine wpAny_passesOwn hp (next_raise I2.nolimit hr.depth m.gen m.fresh (m.wake X.A.in1 (s3.setGen g .running) hr.in1 I2.ok.frames (fun _ _ e => e) m.os (allBare_setGen m.bare rfl)) fun e s₁ he => ?_)
  obtain ⟨ev, rfl, hc, hgen⟩ := he
  have kin : X.K.In s₁.heap := by
    obtain ⟨a, B, H', cls, d, _, fl, _, ub, _⟩ := id hc
    refine I1.ok.mod.kin.keeps fun b o eb => fl.1 b o (ub.keep b o (I1.bs b o eb).1 (I1.bs b o eb).2 fun hm => ?_)
    rcases List.mem_cons.mp (I1.stkSub b hm) with z | z
    · have h1 := Heap.lt_size eb
      have h2 := Nat.le_trans I1.ok.bsz I1.ok.above
      rw [z] at h1
      exact absurd (Nat.lt_of_lt_of_le h1 h2) (Nat.lt_irrefl _)
    · exact I1.ok.nofr eb z
  refine ⟨ev, rfl, hgen, notStop_of hns kin hc, hx pins σ H1 s1 ev _ I1 ?_⟩
  obtain ⟨a, B, H', cls, d, z1, fl, z2, ub, z3, z4, z5, z6⟩ := hc
  exact ⟨a, B, H', cls, d, z1, fl, z2, ub, z3, z4, allBare_setGen z5 rfl, z6⟩
end
end Pr
set_option Elab.async false
set_option linter.all false
set_option maxRecDepth 100000
set_option maxHeartbeats 1000000
/-! Mw: o.m(k = v, ..), keywords alone; a ** b of great numbers; one of two readings of a statement -/
namespace Mw
open PySem PySem.Spec PyProof.Rows L2
def tMethK0 (n : Nat) (C : Addr) (m : Str) (sp : Sp) (gV : List V → List V → List V) (E : XK) (ta : TE) (tk : TA) : TE := fun σ H Q => ta σ H fun x H1 => ∃ a dx fs, x = .ref a ∧ H1 a = some (.ins C dx fs) ∧ fs.lookup m = none ∧ tk σ H1 fun zs H2 => zs.length = n ∧ sp (gV [x] zs) H2 Q E
theorem pe_methK0 {X : Cx} {CX : CXT} {k : Nat} {f C : Addr} {fd : FuncData} {ps ks : List Str} {sp : Sp} {E : XK} {m : Str} {o : Expr} {ta : TE} {apos pos : Pos} {kws : List Keyword} {tk : TA} {g : List Value → List Value → List Value} {gV : List V → List V → List V} {pl : Sem Bool}
    (he : PE X o ta) (c : Cls X.K C) (hm : Meth X.K C m f) (F : FnOk X.prog X.w X.K X.mg X.base CX k f fd ps sp) (hr : Room k X.A) (hb : KBn X.K fd ps 1 ks g gV) (hx : Passes CX X E) (hkw : PK X kws tk)
    (hall : (backToKw pos (keywordEach kws X.env)).all (·.1.isSome) = true := by rfl) (hks : (backToKw pos (keywordEach kws X.env)).filterMap (·.1) = ks := by rfl)
    (hpl : ((backTo pos (starEach [] X.env)).any (·.1) || (backToKw pos (keywordEach kws X.env)).any (·.1.isNone)) = false := by rfl)
    (ht : eval (.Call (.Attribute o m apos) [] kws pos) X.env = (do
      let ov ← eval o X.env
      standAt apos.atName
      let (f, first) ← holding [ov] (getMethod ov m pl)
      callWith pos f first (backTo pos (starEach [] X.env)) (backToKw pos (keywordEach kws X.env))) := by rfl) :
    PE X (.Call (.Attribute o m apos) [] kws pos) (tMethK0 ks.length C m sp gV E ta tk) := by
  refine ⟨fun pins s σ H Q I h => ?_⟩
  refine PySem.W.methodCall_KW (pl := pl) (thn (he.run pins s σ H _ I h) fun u s1 ⟨x, H1, I1, rx, a, dx, fs, ex, ea, l, q⟩ => ?_) ht
  subst ex
  obtain rfl : u = Value.ref a := rx
  refine getmeth_ok I1 ea c hm l ?_
  refine PySem.W.callWith_KW0 (first := [.ref a]) (h₀ := X.base) I.ok.mod.kin hm.kp hall (thn (hkw.run pos pins s1 σ H1 _ I1 q) fun ws s2 ⟨zs, H2, I2, rz, l2, q2⟩ => ⟨I2.kIn, ?_⟩) hpl
  rw [hks]
  have r2 := hb.rel (vs := [V.ref a]) (us := [Value.ref a]) (.cons rfl .nil) rz
  refine wpAny_call (codeAny_mono (F.run X.A X.stack s2 H2 ⟨[.ref a], ks.zip ws⟩ (g [.ref a] ws) (gV [.ref a] zs) Q E hr I2.env0 (hb.to s2 [.ref a] ws I2.kIn rfl (rz.length.symm.trans l2)) r2 q2) fun r s' hq => ?_)
  cases r with
  | error e => exact hx pins σ H2 s2 e s' I2 hq
  | ok fl =>
    cases fl with
    | ret u => exact I2.after hq
    | next => exact False.elim hq
    | brk => exact False.elim hq
    | cont => exact False.elim hq
/-- self by place, one parameter by name -/
theorem kbm1 {K : PySem.W.Frag} {fd : FuncData} {s p : Str} (h1 : ∀ a u : Value, bindArgs fd ⟨[a], [(p, u)]⟩ = pure [(s, a), (p, u)]) : KBn K fd [s, p] 1 [p] (fun us ws => us ++ ws) (fun vs zs => vs ++ zs) where
  to := fun sh us ws _ h1' h2' => by
    match us, ws, h1', h2' with
    | [a], [u], _, _ => exact .of_eq (h1 a u)
  rel := fun r r' => r.append r'
/-- self by place, two parameters by name, in their order -/
theorem kbm2 {K : PySem.W.Frag} {fd : FuncData} {s p q : Str} (h1 : ∀ a u v : Value, bindArgs fd ⟨[a], [(p, u), (q, v)]⟩ = pure [(s, a), (p, u), (q, v)]) : KBn K fd [s, p, q] 1 [p, q] (fun us ws => us ++ ws) (fun vs zs => vs ++ zs) where
  to := fun sh us ws _ h1' h2' => by
    match us, ws, h1', h2' with
    | [a], [u, v], _, _ => exact .of_eq (h1 a u v)
  rel := fun r r' => r.append r'
/-- self by place, two parameters by name, the last one first -/
theorem kbm2r {K : PySem.W.Frag} {fd : FuncData} {s p q : Str} (h1 : ∀ a u v : Value, bindArgs fd ⟨[a], [(q, v), (p, u)]⟩ = pure [(s, a), (p, u), (q, v)]) : KBn K fd [s, p, q] 1 [q, p] (fun us ws => us ++ ws.reverse) (fun vs zs => vs ++ zs.reverse) where
  to := fun sh us ws _ h1' h2' => by
    match us, ws, h1', h2' with
    | [a], [v, u], _, _ => exact .of_eq (h1 a u v)
  rel := fun r r' => r.append r'.reverse
/-- a ** b, the base may be great -/
theorem op_powB {X : Cx} : OpR X (binaryOp .Pow) (rI (fun i j => 0 ≤ j ∧ (Builtin.Int.intBits i : Int) * j ≤ 2 ^ 27) fun i j => .int (i ^ j.toNat)) := opI fun _ _ _ _ _ _ _ hc q => pow_int hc.1 hc.2 q
/-- one of two readings of a statement -/
theorem ps_or {X : Cx} {st : Stmt} {t u : TS} (a : PS X st t) (b : PS X st u) : PS X st (fun D σ H => t D σ H ∨ u D σ H) := ⟨fun pins s σ H D I h => h.elim (a.run pins s σ H D I) (b.run pins s σ H D I)⟩
end Mw
set_option Elab.async false
set_option linter.all false
set_option maxRecDepth 100000
/-! Rp: data that may be shown: how long its text is -/
namespace Rp
open PySem PySem.Spec PyProof.Rows L2
theorem piled_le {b : Nat} : ∀ ts : List Str, (∀ t ∈ ts, t.length ≤ b) → piled ts ≤ (b + 2) * ts.length
  | [], _ => by rw [piled_nil]; exact Nat.zero_le _
  | t :: r, h => by
    have ih := piled_le r fun u hu => h u (List.mem_cons_of_mem _ hu)
    have h1 := h t (List.mem_cons_self ..)
    rw [piled_cons, List.length_cons, Nat.mul_succ]
    omega
theorem listText_le : ∀ ts : List Str, (listText ts).length ≤ piled ts + 2
  | [] => by decide
  | t :: r => by
    have h := textFrom_length_pos r 1 (("[" : Str) ++ (if (0 : Nat) > 0 then ", " else "" : String) ++ t) (Nat.succ_pos 0)
    have e : ((("[" : Str) ++ (if (0 : Nat) > 0 then ", " else "" : String) ++ t)).length = 1 + t.length := by
      rw [strLen_append, strLen_append]; rfl
    have hX : (listText (t :: r)).length = (textFrom 0 "[" (t :: r)).length + 1 := by
      show (textFrom 0 "[" (t :: r) ++ "]").length = _
      rw [strLen_append]; rfl
    have hY : (textFrom 0 "[" (t :: r)).length = (textFrom 1 (("[" : Str) ++ (if (0 : Nat) > 0 then ", " else "" : String) ++ t) r).length := rfl
    rw [hX, hY, h, e, piled_cons]; omega
theorem tupleText_le (ts : List Str) : (tupleText ts).length ≤ piled ts + 3 := by
  unfold tupleText
  rw [strLen_append, strLen_append]
  have e1 : ((("(" : String) : Str)).length = 1 := rfl
  have e3 : (((if ts.length == 1 then ",)" else ")" : String) : Str)).length ≤ 2 := by split <;> decide
  rw [e1]
  by_cases h : ts = []
  · subst h; have : (Str.join ", " ([] : List Str)).length = 0 := rfl
    omega
  · have := join_length_add ts h
    omega
/-- may be shown: at most b signs, nested e deep -/
structure Sh (b e : Nat) (d : PyData) : Prop where
  sh : d.showable = true
  nd : d.hasDict = false
  dp : d.depth ≤ e
  ln : d.shown.length ≤ b
theorem Sh.mono {b e b' e' : Nat} {d : PyData} (h : Sh b e d) (hb : b ≤ b') (he : e ≤ e') : Sh b' e' d := ⟨h.sh, h.nd, Nat.le_trans h.dp he, Nat.le_trans h.ln hb⟩
theorem ofString_len (s : String) : (Str.ofString s).length = s.toList.length := by
  have e := signs_ofString s
  have := congrArg List.length e
  rw [List.length_map, Array.length_toList] at this
  exact this
theorem digits_le {n k : Nat} (hk : 1 ≤ k) (h : n < 10 ^ k) : (Nat.toDigits 10 n).length ≤ k := by
  have := digitsCore_len_pow 10 (by decide) k (n + 1) n [] hk h
  simpa [Nat.toDigits] using this
theorem int_len {z : Int} {k : Nat} (hk : 1 ≤ k) (h : z.natAbs < 10 ^ k) : (Str.ofString (toString z)).length ≤ k + 1 := by
  rw [ofString_len]
  cases z with
  | ofNat m =>
    have e : (toString (Int.ofNat m)).toList = Nat.toDigits 10 m := by
      show (Nat.repr m).toList = _
      rw [Nat.toList_repr]
    rw [e]
    have := digits_le (n := m) hk h
    omega
  | negSucc m =>
    have e : (toString (Int.negSucc m)).toList = '-' :: Nat.toDigits 10 (m + 1) := by
      show ("-" ++ Nat.repr (m + 1)).toList = _
      rw [String.toList_append, Nat.toList_repr]
      rfl
    rw [e]
    have := digits_le (n := m + 1) hk h
    show (Nat.toDigits 10 (m + 1)).length + 1 ≤ _
    omega
theorem log_lt {n k : Nat} (hk : k ≤ 400) (h : n < 10 ^ k) : n.log2 < 1920 := by
  by_cases h0 : n = 0
  · subst h0; decide
  · refine (Nat.log2_lt h0).mpr (Nat.lt_of_lt_of_le h ?_)
    refine Nat.le_trans (Nat.pow_le_pow_left (show 10 ≤ 2 ^ 4 by decide) k) ?_
    rw [← Nat.pow_mul]
    exact Nat.pow_le_pow_right (by decide) (by omega)
theorem Sh.int {z : Int} {k : Nat} (hk : 1 ≤ k) (hk2 : k ≤ 400) (h : z.natAbs < 10 ^ k) : Sh (k + 1) 0 (.int z) := by
  refine ⟨?_, by simp only [PyData.hasDict], by simp only [PyData.depth]; exact Nat.le_refl _, ?_⟩
  · simp only [PyData.showable]
    exact decide_eq_true (log_lt hk2 h)
  · simp only [PyData.shown]
    exact int_len hk h
theorem Sh.none : Sh 4 0 .none := ⟨by simp only [PyData.showable], by simp only [PyData.hasDict], by simp only [PyData.depth]; exact Nat.le_refl _, by simp only [PyData.shown]; decide⟩
theorem Sh.bool {b : Bool} : Sh 5 0 (.bool b) := ⟨by simp only [PyData.showable], by simp only [PyData.hasDict], by simp only [PyData.depth]; exact Nat.le_refl _, by simp only [PyData.shown]; cases b <;> decide⟩
theorem all_sh {b e : Nat} : ∀ xs : List PyData, (∀ x ∈ xs, Sh b e x) → PyData.showableAll xs = true ∧ PyData.hasDictAll xs = false ∧ PyData.depthAll xs ≤ e ∧ (∀ t ∈ PyData.shownAll xs, t.length ≤ b) ∧ (PyData.shownAll xs).length = xs.length
  | [], _ => ⟨by simp only [PyData.showableAll], by simp only [PyData.hasDictAll], by simp only [PyData.depthAll]; exact Nat.zero_le _, by simp only [PyData.shownAll]; exact (fun t ht => absurd ht List.not_mem_nil), by simp only [PyData.shownAll, List.length_nil]⟩
  | x :: xs, h => by
    have hx := h x (List.mem_cons_self ..)
    obtain ⟨h1, h2, h3, h4, h5⟩ := all_sh xs fun u hu => h u (List.mem_cons_of_mem _ hu)
    refine ⟨?_, ?_, ?_, ?_, ?_⟩
    · simp only [PyData.showableAll, hx.sh, h1, Bool.and_self]
    · simp only [PyData.hasDictAll, hx.nd, h2, Bool.or_self]
    · simp only [PyData.depthAll]
      exact Nat.max_le.mpr ⟨hx.dp, h3⟩
    · simp only [PyData.shownAll]
      intro t ht
      rcases List.mem_cons.mp ht with rfl | ht
      · exact hx.ln
      · exact h4 t ht
    · simp only [PyData.shownAll, List.length_cons, h5]
theorem Sh.list {b e : Nat} {xs : List PyData} (h : ∀ x ∈ xs, Sh b e x) : Sh ((b + 2) * xs.length + 2) (e + 1) (.list xs) := by
  obtain ⟨h1, h2, h3, h4, h5⟩ := all_sh xs h
  refine ⟨by simp only [PyData.showable]; exact h1, by simp only [PyData.hasDict]; exact h2, by simp only [PyData.depth]; omega, ?_⟩
  simp only [PyData.shown]
  have := listText_le (PyData.shownAll xs)
  have := piled_le _ h4
  rw [h5] at this
  omega
theorem Sh.tuple {b e : Nat} {xs : List PyData} (h : ∀ x ∈ xs, Sh b e x) : Sh ((b + 2) * xs.length + 3) (e + 1) (.tuple xs) := by
  obtain ⟨h1, h2, h3, h4, h5⟩ := all_sh xs h
  refine ⟨by simp only [PyData.showable]; exact h1, by simp only [PyData.hasDict]; exact h2, by simp only [PyData.depth]; omega, ?_⟩
  simp only [PyData.shown]
  have := tupleText_le (PyData.shownAll xs)
  have := piled_le _ h4
  rw [h5] at this
  omega
theorem Sh.ints {k : Nat} (hk : 1 ≤ k) (hk2 : k ≤ 400) {zs : List Int} (h : ∀ z ∈ zs, z.natAbs < 10 ^ k) : ∀ d ∈ zs.map PyData.int, Sh (k + 1) 0 d := by
  intro d hd
  obtain ⟨z, hz, rfl⟩ := List.mem_map.mp hd
  exact Sh.int hk hk2 (h z hz)
/-- data that may be shown -/
theorem Sh.shw {b e : Nat} {d : PyData} (h : Sh b e d) (he : e ≤ 60) (hb : b ≤ sizeLine) : d.showable = true ∧ d.hasDict = false ∧ d.depth ≤ 60 ∧ d.shown.length ≤ sizeLine := ⟨h.sh, h.nd, Nat.le_trans h.dp he, Nat.le_trans h.ln hb⟩
end Rp
set_option Elab.async false
set_option linter.all false
set_option maxRecDepth 100000
set_option maxHeartbeats 1000000
/-! Gr: repr of any data -/
namespace Gd
open PySem PySem.Spec PyProof.Rows L2 LamX
def rReprD (K : PySem.W.Frag) : List V → Hp → VK → Prop := fun xs H Q => ∃ (v : V) (d : PyData), xs = [v] ∧ Dp K H v d ∧ d.showable = true ∧ d.hasDict = false ∧ d.depth ≤ 60 ∧ d.shown.length ≤ sizeLine ∧ Q (.str d.shown) H
theorem call_reprD {X : Cx} (hgd : X.A.guards = some []) (hu : X.A.units + 64 < cLine) : CallR X (.builtin "repr") (rReprD X.K) := by
  intro pins s σ H xs us Q I r h
  obtain ⟨v, d, rfl, hd, hs, hk, hdp, hz, q⟩ := h
  obtain ⟨u, rfl, ru⟩ := r.one
  obtain ⟨as, rd⟩ := Dp.reads I d _ _ hd ru
  have byRef : ∀ a : Addr, v = .ref a → wpAny (model X.prog X.w) X.A (call (.builtin "repr") [u]) (EP X pins σ Q) X.xe s := fun a e => by
    subst e
    obtain rfl : u = Value.ref a := ru
    exact repr_of_reads' rd hs (fun z => by rw [hk] at z; cases z) hgd (by omega) (fun b o e => e) (fun h' u tk k => ⟨.str d.shown, H, I.kept (t' := tk) k, ⟨u, rfl⟩, q⟩) hz
  cases hd with
  | non =>
    obtain rfl : u = Value.none := ru
    simp only [PyData.shown] at q
    exact PySem.P.repr_of_none ⟨.str _, H, I.tok _, ⟨_, rfl⟩, q⟩
  | bl b =>
    obtain rfl : u = Value.bool b := ru
    simp only [PyData.shown] at q
    exact PySem.P.repr_of_bool ⟨.str _, H, I.tok _, ⟨_, rfl⟩, q⟩
  | int i =>
    obtain ⟨t, rfl⟩ := ru
    simp only [PyData.shown] at q
    simp only [PyData.showable] at hs
    exact PySem.P.repr_of_int (of_decide_eq_true hs) ⟨.str _, H, I.tok _, ⟨_, rfl⟩, q⟩
  | str x =>
    obtain ⟨t, rfl⟩ := ru
    simp only [PyData.shown] at q hz
    exact PySem.P.repr_of_str ⟨.str _, H, I.tok _, ⟨_, rfl⟩, q⟩ hz
  | lst h1 h2 => exact byRef _ rfl
  | tup h1 h2 => exact byRef _ rfl
end Gd
set_option Elab.async false
set_option linter.all false
set_option maxRecDepth 100000
set_option maxHeartbeats 4000000
namespace K16
open PySem L2 Xo Lm LamX
section
variable {P : Program} {w : World} {K : PySem.W.Frag} {mg : Str → Option Value} {base : Heap}
/-- a path whose code is none -/
def spR (C1 : Addr) : List V → Hp → L2.XK → Prop := fun vs H E => ∃ c z m : V, vs = [c, z, m] ∧ Odd H c ∧ asC c = none ∧ OutE C1 "reason" H E
theorem ok_pathR {f f1 C1 : Addr} {fd fd1 : FuncData} (D : Df K mg "path" "path" sPath ["code", "size", "many"] f fd) (D1 : Df K mg "need_code" "need_code" sNeedCode ["thing"] f1 fd1) (G1 : FnOk P w K mg base (L2.CX P w) 4 f1 fd1 ["thing"] (spNeedCode C1)) :
    Pr.RDef P w K mg base 5 f fd ["code", "size", "many"] (spR C1) := by
  intro vs A outer s H E args us h hr e0 hb r
  obtain ⟨oc, od, kV, doc, pm, an, cdv, ct, osl, rfl, lk, hcd⟩ := D.F.ex
  obtain ⟨c, z, m, rfl, oc, hc, out⟩ := h
  refine Pr.raise_call (k := 4) lk hcd scPath.S scPath.co rfl (fun A pn hr => ⟨_, pss_cons (ps_expr (pe_call (E := E) G1 hr rfl D1.g D1.F.kp D1.b .nil (passes_call takes_gcx fun _ _ _ _ z => z) (pa_cons (pv 0) pa_nil))) (pss_cons ps_never (pss_cons ps_never (pss_cons ps_never (pss_cons ps_never (pss_one ps_never))))), ?_⟩) hr e0 hb r
  exact ⟨_, rfl, c, rfl, oc, (fun n hn => by rw [hc] at hn; cases hn), fun _ => out⟩
/-- the wish, and that the class ends no iterator -/
abbrev ENS (K : PySem.W.Frag) (E : L2.XK) : L2.XK := fun cls d H => E cls d H ∧ PySem.W.subIn K cls (.type "StopIteration") = some false
def spTrailX (C C1 : Addr) : Sp := fun vs H _ E => ∃ (p l : Addr) (xs : List Int) (c : V), vs = [.ref p, c] ∧ TabAt C H p l xs ∧ Odd H c ∧ asC c = none ∧ ∀ H', Same H H' → OutE C1 "reason" H' E
theorem ok_trailX {f f5 C C1 pz gz : Addr} {fd fd5 fdz : FuncData} (F : Fun K "trail" "SlotTable.trail" sTrail f fd) (T : TT K mg C pz gz) (D5 : Df K mg "path" "path" sPath ["code", "size", "many"] f5 fd5) (G5 : Pr.RDef P w K mg base 5 f5 fd5 ["code", "size", "many"] (spR C1)) (n1 : PySem.W.subIn K (.ref C1) (.type "StopIteration") = some false)
    (bz : Binds K fdz ["self"] []) (Gz : FnOk P w K mg base CX0 1 gz fdz ["self"] (spSz C)) : FnOk P w K mg base (L2.CX P w) 7 f fd ["self", "code"] (spTrailX C C1) := by
  obtain ⟨tx, ex⟩ := T.ex
  obtain ⟨te, em⟩ := T.em
  refine F.okX scTrail (fun vs H Q E h => ?_) (fun cdv A outer s H vs Q E hr h => ?_)
  · obtain ⟨p, l, xs, c, rfl, _⟩ := h
    rfl
  · obtain ⟨p, l, xs, c, rfl, t, oc, hc, out⟩ := h
    obtain ⟨dx, hp⟩ := t.ob
    refine ⟨_, pss_cons (ps_set (i := 2) scTrail.nd rfl (Or.inl rfl) (pe_op op_add (pe_prop (pv 0) T.cl T.pr Gz (hr.mono (by decide)) bz .nil pass0 rfl) (pe_glob (v := .int 6) rfl ex ⟨_, rfl⟩)))
      (pss_cons (ps_set (i := 3) scTrail.nd rfl (Or.inl rfl) (pe_lst pa_nil))
      (pss_cons (Pr.ps_forR (E := ENS K E) (len := fun vs H E h => by obtain ⟨c, z, m, rfl, _⟩ := h; rfl) G5 (hx := passes_call (takes_of rfl rfl rfl rfl) fun _ _ _ _ z => z.1) (hns := fun _ _ _ z => z.2) hr rfl D5.g D5.F.kp D5.b (pa_cons (pv 1) (pa_cons (pe_prop (pv 0) T.cl T.pr Gz (hr.mono (by decide)) bz .nil pass0 rfl) (pa_cons (pv 2) pa_nil))) (passes_of rfl))
      (pss_one (ps_ret (pv 3))))), ?_⟩
    refine ⟨_, rfl, p, dx, _, rfl, hp, p, l, xs, rfl, t, _, _, rfl, rfl, ?_⟩
    refine ⟨Nat.zero_le _, fun a ha => ?_⟩
    have y := same_new (o := .lst []) ha
    exact ⟨_, rfl, _, rfl, p, dx, _, rfl, y _ _ hp, p, l, xs, rfl, t.same y, _, rfl, _, _, _, rfl, oc.same y, hc, fun d v hd => ⟨out _ y d v hd, n1⟩⟩
end
end K16
set_option Elab.async false
set_option linter.all false
set_option maxRecDepth 100000
set_option maxHeartbeats 4000000
namespace K16
open PySem L2 Xo Lm LamX
abbrev sCodes : Stmt := top 40
abbrev sSlots : Stmt := top 41
abbrev sFar : Stmt := top 42
abbrev sLaw : Stmt := top 43
abbrev qOf (n : Str) : Str := n ++ ".<locals>." ++ "<lambda>"
abbrev tabs (P1 P2 P3 P4 : Addr) : List (Addr × Str) := [(P1, qOf "_law_codes_right"), (P2, qOf "_law_slots_right"), (P3, qOf "_law_far_right"), (P4, qOf "law")]
/-- what is shown of a bad argument -/
inductive Nd (H : Hp) : V → PyData → Prop
  | non : Nd H .non .none
  | bl (b : Bool) : Nd H (.bl b) (.bool b)
  | int (n : Int) : Nd H (.int n) (.int n)
  | str (x : Str) : Nd H (.str x) (.str x)
  | tup {a : Addr} {n : Int} (h : H a = some (.tup [.int n])) : Nd H (.ref a) (.tuple [.int n])
  | lst {a : Addr} (h : H a = some (.lst [])) : Nd H (.ref a) (.list [])
theorem Nd.ext {H H' : Hp} {v : V} {d : PyData} (h : Nd H v d) (s : ExtN H H') : Nd H' v d := by
  cases h with
  | non => exact .non
  | bl b => exact .bl b
  | int n => exact .int n
  | str x => exact .str x
  | tup h => exact .tup (s _ _ h fun ps z => by cases z)
  | lst h => exact .lst (s _ _ h fun ps z => by cases z)
theorem Nd.updL {H : Hp} {a : Addr} {o : HO} {x : V} {xs : List V} {v : V} {d : PyData} (h : Nd H v d) (ha : H a = some (.lst (x :: xs))) : Nd (upd H a o) v d := by
  cases h with
  | non => exact .non
  | bl b => exact .bl b
  | int n => exact .int n
  | str x => exact .str x
  | tup h => exact .tup (by rw [upd_ne (ne_of h ha (by intro z; cases z))]; exact h)
  | lst h => exact .lst (by rw [upd_ne (ne_of h ha (by intro z; cases z))]; exact h)
theorem Nd.odd {H : Hp} {v : V} {d : PyData} (h : Nd H v d) : Odd H v := by
  cases h with
  | non => exact .non
  | bl b => exact .bl b
  | int n => exact .int n
  | str x => exact .str x
  | tup h => exact .tup h
  | lst h => exact .lst h
theorem Nd.dp {K : PySem.W.Frag} {H : Hp} {v : V} {d : PyData} (h : Nd H v d) : Dp K H v d := by
  cases h with
  | non => exact .non
  | bl b => exact .bl b
  | int n => exact .int n
  | str x => exact .str x
  | tup h => exact .tup (SqT.of h) (.cons (.int _) .nil)
  | lst h => exact .lst (SqL.of h) .nil
/-- rows of answers -/
inductive Rw (H : Hp) : List V → List PyData → Prop
  | nil : Rw H [] []
  | word {p : Addr} {s : Str} {vs : List V} {ds : List PyData} (h : H p = some (.tup [.str s])) (r : Rw H vs ds) : Rw H (.ref p :: vs) (.tuple [.str s] :: ds)
  | ent {p : Addr} {s : Str} {v : V} {d : PyData} {vs : List V} {ds : List PyData} (h : H p = some (.tup [.str s, v])) (n : Nd H v d) (r : Rw H vs ds) : Rw H (.ref p :: vs) (.tuple [.str s, d] :: ds)
  | one {p : Addr} {v : V} {d : PyData} {vs : List V} {ds : List PyData} (h : H p = some (.lst [v])) (n : Nd H v d) (r : Rw H vs ds) : Rw H (.ref p :: vs) (.list [d] :: ds)
theorem Rw.ext {H H' : Hp} (e : ExtN H H') : ∀ {vs : List V} {ds : List PyData}, Rw H vs ds → Rw H' vs ds
  | _, _, .nil => .nil
  | _, _, .word h r => .word (e _ _ h fun ps z => by cases z) (r.ext e)
  | _, _, .ent h n r => .ent (e _ _ h fun ps z => by cases z) (n.ext e) (r.ext e)
  | _, _, .one h n r => .one (e _ _ h fun ps z => by cases z) (n.ext e) (r.ext e)
theorem Rw.app {H : Hp} : ∀ {vs us : List V} {ds es : List PyData}, Rw H vs ds → Rw H us es → Rw H (vs ++ us) (ds ++ es)
  | _, _, _, _, .nil, r2 => r2
  | _, _, _, _, .word h r, r2 => .word h (r.app r2)
  | _, _, _, _, .ent h n r, r2 => .ent h n (r.app r2)
  | _, _, _, _, .one h n r, r2 => .one h n (r.app r2)
theorem Rw.dp {K : PySem.W.Frag} {H : Hp} : ∀ {vs : List V} {ds : List PyData}, Rw H vs ds → DpAll K H vs ds
  | _, _, .nil => .nil
  | _, _, .word h r => .cons (.tup (SqT.of h) (.cons (.str _) .nil)) r.dp
  | _, _, .ent h n r => .cons (.tup (SqT.of h) (.cons (.str _) (.cons n.dp .nil))) r.dp
  | _, _, .one h n r => .cons (.lst (SqL.of h) (.cons n.dp .nil)) r.dp
theorem TabAt.extN {C p l : Addr} {H H' : Hp} {xs : List Int} (h : TabAt C H p l xs) (s : ExtN H H') : TabAt C H' p l xs := by
  obtain ⟨dx, e⟩ := h.ob
  exact ⟨⟨dx, s _ _ e fun ps z => by cases z⟩, s _ _ h.ls fun ps z => by cases z⟩
theorem sh_str {x : Str} (hx : (reprText x).length ≤ 500) : Rp.Sh 500 1 (.str x) :=
  ⟨by simp only [PyData.showable], by simp only [PyData.hasDict], by simp only [PyData.depth]; exact Nat.zero_le _, by simp only [PyData.shown]; exact hx⟩
theorem sh_ent {d : PyData} (h : Rp.Sh 500 1 d) : Rp.Sh 1100 2 (.tuple [.str "entry", d]) := by
  refine (Rp.Sh.tuple (b := 500) (e := 1) (fun x hx => ?_)).mono (by simp) (Nat.le_refl _)
  rcases List.mem_cons.mp hx with rfl | hx
  · exact sh_str (by decide +kernel)
  · rw [List.mem_singleton.mp hx]
    exact h
section
variable {P : Program} {w : World} {K : PySem.W.Frag} {mg : Str → Option Value} {base : Heap}
theorem lam_x {TT : List (Addr × Str)} {Cx C1 C2 C3 C4 T A F : Addr} {fld : Str} {ans : List V} {b0 b1 b2 b3 : Bool} {os : List Addr} {t : L2.XK → TE} {σ : L2.St} {H : Hp} {Q : VK} {yok : V → Prop}
    (R : Row K Cx C1 C2 C3 C4 T A F os b0 b1 b2 b3 (b0 || b1) b2 b3) (hno : PySem.W.findIn K (.ref Cx) fld = some none) (hs : ∀ y, yok y → Says b0 b1 b2 b3 fld y ans)
    (hT : Tabs TT H) (ht : ∀ (E : L2.XK) (H5 : Hp) (Q' : VK), ExtN H H5 → Tabs TT H5 → (∀ H6, Same H5 H6 → ∀ (d : Addr) (y : V), yok y → H6 d = none → E (.ref Cx) (some d) (upd H6 d (.xd [(fld, y)]))) → t E σ H5 Q')
    (k : ∀ (p : Addr) (H' : Hp), ExtN H H' → Tabs TT H' → H' p = some (.tup ans) → Q (.ref p) H') : tLam TT (TTsaid K C1 C2 C3 C4 T A F os) t σ H Q := by
  refine ⟨hT, fun H4 eN T4 t0 ht0 E' Q' hE _ => ?_⟩
  have s5 := same_new (o := .tup [.non, .non]) ht0
  have T5 := T4.ext s5
  have e5 := eN.trans (ExtN.of s5)
  refine ht E' _ Q' e5 T5 fun H6 s6 d y hy hd => hE _ _ _ ⟨Cx, d, fld, y, b0, b1, b2, b3, ans, rfl, rfl, upd_same, hno, R, hs y hy, fun Hx p sm hp => ?_⟩
  have m := s6.trans ((same_new (o := .xd [(fld, y)]) hd).trans (sm.trans (same_new (o := .tup ans) hp)))
  exact k p _ (e5.trans (ExtN.of m)) (T5.ext m) upd_same

abbrev NCO : List Str := ["table", "wrong", "number", "found"]
theorem scCodes : FnScope NCO ["table", "wrong", "number"] (defScope sCodes) := ⟨rfl, rfl, rfl, by decide +kernel, rfl, by decide +kernel, by decide +kernel⟩
def spCodes (C P1 P2 P3 P4 : Addr) : Sp := fun vs H Q _ => ∃ (p l : Addr) (xs : List Int) (vw vn : V) (dn : PyData), vs = [.ref p, vw, vn] ∧ TabAt C H p l xs ∧ goodSize xs.length ∧ Odd H vw ∧ asC vw = none ∧ Nd H vn dn ∧ asN vn = none ∧ Rp.Sh 500 1 dn ∧ Tabs (tabs P1 P2 P3 P4) H ∧ ∀ H', ExtN H H' → Tabs (tabs P1 P2 P3 P4) H' → Q (.bl true) H'
theorem ok_codes {f cA P1 P2 P3 P4 gs fp fo ft C C1 C2 C3 C4 Tt Aa Ff o1 o2 o3 o4 o5 o6 o7 o8 o9 pz gz : Addr} {fd fdp fdo fdt : FuncData} (D : Dc K mg "_law_codes_right" sCodes ["table", "wrong", "number"] f cA fd) (B : Bl mg) (T : TT K mg C pz gz) (S : Ds K mg gs) (N : Nm mg C1 C2 C3 C4 Tt Aa Ff o1 o2 o3 o4 o5 o6 o7 o8 o9)
    (pm : Meth K C "place" fp) (pb : Binds K fdp ["self", "code", "index"] []) (pG : FnOk P w K mg base (L2.CX P w) 8 fp fdp ["self", "code", "index"] (spPlace C C1 C3 C4)) (om : Meth K C "slot_of" fo) (ob : Binds K fdo ["self", "code", "index"] []) (oG : FnOk P w K mg base (L2.CX P w) 8 fo fdo ["self", "code", "index"] (spSlotOf C C1 C3))
    (tm : Meth K C "trail" ft) (tb : Binds K fdt ["self", "code"] []) (tk : KBn K fdt ["self", "code"] 1 ["code"] (fun us ws => us ++ ws) (fun vs zs => vs ++ zs)) (tG : FnOk P w K mg base (L2.CX P w) 7 ft fdt ["self", "code"] (spTrailX C C1))
    (TB : TabB base mg cA P1) (n12 : P2 ≠ P1) (n13 : P3 ≠ P1) (n14 : P4 ≠ P1) (R1 : Row K C1 C1 C2 C3 C4 Tt Aa Ff [o1, o2, o3, o4, o5, o6, o7, o8, o9] true false false false true false false) (h1 : PySem.W.findIn K (.ref C1) "reason" = some none)
    (R3 : Row K C3 C1 C2 C3 C4 Tt Aa Ff [o1, o2, o3, o4, o5, o6, o7, o8, o9] false false true false false true false) (h3 : PySem.W.findIn K (.ref C3) "index" = some none) : Gd.FnG P w K mg base 12 f fd ["table", "wrong", "number"] (spCodes C P1 P2 P3 P4) := by
  obtain ⟨oc, od, dV, kV, doc, pmm, an, cdv, ct, osl, lk, hcg, hb⟩ := S.ex
  refine okGc D scCodes (fun vs H Q E h => ?_) (fun A outer s H vs Q E hr hgd h => ?_)
  · obtain ⟨p, l, xs, vw, vn, dn, rfl, _⟩ := h
    rfl
  · obtain ⟨p, l, xs, vw, vn, dn, rfl, t, hz, ow, hw, nn, hn, shn, hT, k⟩ := h
    have hu64 := hr.units
    have hmT : (P1, qOf "_law_codes_right") ∈ tabs P1 P2 P3 P4 := List.mem_cons_self ..
    have huT : ∀ p ∈ tabs P1 P2 P3 P4, p.1 = P1 → p.2 = qOf "_law_codes_right" := fun p hp e => by
      rcases List.mem_cons.mp hp with rfl | hp
      · rfl
      · rcases List.mem_cons.mp hp with rfl | hp
        · exact absurd e n12
        · rcases List.mem_cons.mp hp with rfl | hp
          · exact absurd e n13
          · rw [List.mem_singleton.mp hp] at e
            exact absurd e n14
    refine ⟨_, pss_cons (ps_set (i := 3) scCodes.nd rfl (Or.inl rfl) (pe_lst (pa_cons (pe_lamD (k := 9) (T := tabs P1 P2 P3 P4) (own := []) (t := fun E => tMeth C "place" (spPlace C C1 C3 C4) [] E (tVar 0) (tCons (tVar 1) (tCons (tVar 2) (tNil)))) rfl S.g S.kp lk hcg hb scSaid rfl (Or.inl rfl) (said_gives (hr.mono (by decide)) N) (hr.mono (by decide)) (lm_by (N := NCO) (sc := defScope sCodes) (by decide +kernel))
            (fun pins σ H s E Q I hT h => lm_make0 I TB rfl hmT huT hT (lm_by (N := NCO) (sc := defScope sCodes) (by decide +kernel)) rfl (fun _ _ _ _ _ _ => rfl) h) (fun A outer s H E f c' hr2 => pe_meth (E := E) (pv 0) T.cl pm pG (hr2.mono (by decide)) pb .nil (passes_call (takes_of rfl rfl rfl rfl) fun _ _ _ _ z => z) (pa_cons (pv 1) (pa_cons (pv 2) pa_nil)))) (pa_cons (pe_lamD (k := 9) (T := tabs P1 P2 P3 P4) (own := ["x"]) (t := fun E => tMeth C "slot_of" (spSlotOf C C1 C3) [] E (tVar 0) (tCons (tVar 1) (tCons (tVar 2) (tNil)))) rfl S.g S.kp lk hcg hb scSaid rfl (Or.inl rfl) (said_gives (hr.mono (by decide)) N) (hr.mono (by decide)) (lm_by (N := NCO) (sc := defScope sCodes) (by decide +kernel))
            (fun pins σ H s E Q I hT h => lm_make1 I TB rfl hmT huT hT (lm_by (N := NCO) (sc := defScope sCodes) (by decide +kernel)) rfl rfl (fun _ _ _ _ _ _ _ _ => ⟨_, rfl, rfl⟩) h) (fun A outer s H E f c' hr2 => pe_meth (E := E) (pv 0) T.cl om oG (hr2.mono (by decide)) ob .nil (passes_call (takes_of rfl rfl rfl rfl) fun _ _ _ _ z => z) (pa_cons (pv 1) (pa_cons (pv 2) pa_nil)))) pa_nil))))
      (pss_cons (ps_set (i := 3) scCodes.nd rfl (Or.inl rfl) (pe_op op_cat (pv 3) (pe_lst (pa_cons (pe_lamD (k := 9) (T := tabs P1 P2 P3 P4) (own := []) (t := fun E => tMeth C "trail" (spTrailX C C1) [] E (tVar 0) (tCons (tVar 1) (tNil))) rfl S.g S.kp lk hcg hb scSaid rfl (Or.inl rfl) (said_gives (hr.mono (by decide)) N) (hr.mono (by decide)) (lm_by (N := NCO) (sc := defScope sCodes) (by decide +kernel))
            (fun pins σ H s E Q I hT h => lm_make0 I TB rfl hmT huT hT (lm_by (N := NCO) (sc := defScope sCodes) (by decide +kernel)) rfl (fun _ _ _ _ _ _ => rfl) h) (fun A outer s H E f c' hr2 => pe_meth (E := E) (pv 0) T.cl tm tG (hr2.mono (by decide)) tb .nil (passes_call (takes_of rfl rfl rfl rfl) fun _ _ _ _ z => z) (pa_cons (pv 1) pa_nil))) (pa_cons (pe_lamD (k := 9) (T := tabs P1 P2 P3 P4) (own := ["x"]) (t := fun E => Mw.tMethK0 (["code"] : List Str).length C "trail" (spTrailX C C1) (fun vs zs => vs ++ zs) E (tVar 0) (tCons (tVar 1) tNil)) rfl S.g S.kp lk hcg hb scSaid rfl (Or.inl rfl) (said_gives (hr.mono (by decide)) N) (hr.mono (by decide)) (lm_by (N := NCO) (sc := defScope sCodes) (by decide +kernel))
            (fun pins σ H s E Q I hT h => lm_make1 I TB rfl hmT huT hT (lm_by (N := NCO) (sc := defScope sCodes) (by decide +kernel)) rfl rfl (fun _ _ _ _ _ _ _ _ => ⟨_, rfl, rfl⟩) h) (fun A outer s H E f c' hr2 => Mw.pe_methK0 (ks := ["code"]) (E := E) (sp := spTrailX C C1) (gV := fun vs zs => vs ++ zs) (pv 0) T.cl tm tG (hr2.mono (by decide)) tk (passes_call (takes_of rfl rfl rfl rfl) fun _ _ _ _ z => z) (pk_cons (pv 1) pk_nil))) pa_nil)))))
      (pss_cons (ps_if (pt_cmpR (op_neD hu64) (pv 3) (pe_op op_rep (pe_lst (pa_cons (pe_tup (pa_cons pe_str pa_nil)) pa_nil)) pe_int) (nomark _)) (pss_one (ps_ret pe_bl)) pss_nil)
      (pss_cons (ps_set (i := 3) scCodes.nd rfl (Or.inl rfl) (pe_lst (pa_cons (pe_lamD (k := 9) (T := tabs P1 P2 P3 P4) (own := []) (t := fun E => tMeth C "place" (spPlace C C1 C3 C4) [] E (tVar 0) (tCons (tC (.int 5)) (tCons (tVar 2) (tNil)))) rfl S.g S.kp lk hcg hb scSaid rfl (Or.inl rfl) (said_gives (hr.mono (by decide)) N) (hr.mono (by decide)) (lm_by (N := NCO) (sc := defScope sCodes) (by decide +kernel))
            (fun pins σ H s E Q I hT h => lm_make0 I TB rfl hmT huT hT (lm_by (N := NCO) (sc := defScope sCodes) (by decide +kernel)) rfl (fun _ _ _ _ _ _ => rfl) h) (fun A outer s H E f c' hr2 => pe_meth (E := E) (pv 0) T.cl pm pG (hr2.mono (by decide)) pb .nil (passes_call (takes_of rfl rfl rfl rfl) fun _ _ _ _ z => z) (pa_cons (pe_int) (pa_cons (pv 2) pa_nil)))) (pa_cons (pe_lamD (k := 9) (T := tabs P1 P2 P3 P4) (own := ["x"]) (t := fun E => tMeth C "slot_of" (spSlotOf C C1 C3) [] E (tVar 0) (tCons (tC (.int 5)) (tCons (tVar 2) (tNil)))) rfl S.g S.kp lk hcg hb scSaid rfl (Or.inl rfl) (said_gives (hr.mono (by decide)) N) (hr.mono (by decide)) (lm_by (N := NCO) (sc := defScope sCodes) (by decide +kernel))
            (fun pins σ H s E Q I hT h => lm_make1 I TB rfl hmT huT hT (lm_by (N := NCO) (sc := defScope sCodes) (by decide +kernel)) rfl rfl (fun _ _ _ _ _ _ _ _ => ⟨_, rfl, rfl⟩) h) (fun A outer s H E f c' hr2 => pe_meth (E := E) (pv 0) T.cl om oG (hr2.mono (by decide)) ob .nil (passes_call (takes_of rfl rfl rfl rfl) fun _ _ _ _ z => z) (pa_cons (pe_int) (pa_cons (pv 2) pa_nil)))) pa_nil))))
      (pss_one (ps_ret (pe_cmpR op_eq (pe_callB (Gd.call_repr hgd hu64) (by rfl) B.repr (by decide +kernel) (pa_cons (pv 3) pa_nil)) (pe_callB (Gd.call_repr hgd hu64) (by rfl) B.repr (by decide +kernel) (pa_cons (pe_op op_rep (pe_lst (pa_cons (pe_tup (pa_cons pe_str (pa_cons (pv 2) pa_nil))) pa_nil)) pe_int) pa_nil)) (nomark _))))))), ?_⟩
    obtain ⟨dx, hob⟩ := t.ob
    have obx : ∀ {H' : Hp}, ExtN H H' → H' p = some (.ins C dx [("_slots", .ref l)]) := fun e => e _ _ hob fun ps z => by cases z
    have a5 : asC (V.int 5) = some 5 := asC_nat (m := 5) (by decide)
    have cW : ∀ cn, asC vw = some cn → False := fun cn e => by rw [hw] at e; cases e
    have c5 : asC (V.int 5) = none → False := fun e => by rw [a5] at e; cases e
    have cN : ∀ n, asN vn = some n → False := fun n e => by rw [hn] at e; cases e
    -- refused codes
    refine lam_x (yok := fun _ => True) R1 h1 (fun y _ => Says.code _ y) hT (fun E H5 Q' e5 T5 out => ?_) fun p1 K1 g1 U1 e1 => ?_
    · exact ⟨_, rfl, p, dx, _, rfl, obx e5, rfl, _, rfl, _, rfl, p, l, xs, vw, vn, rfl, t.extN e5, hz, ow.ext e5, (nn.ext e5).odd, (fun _ d y hd => out _ (fun _ _ z => z) d y trivial hd), (fun cn e => (cW cn e).elim), fun cn n e => (cW cn e).elim⟩
    refine lam_x (yok := fun _ => True) R1 h1 (fun y _ => Says.code _ y) U1 (fun E H5 Q' e5 T5 out => ?_) fun p2 K2 g2 U2 e2 => ?_
    · have ee := g1.trans e5
      exact ⟨_, rfl, p, dx, _, rfl, obx ee, rfl, _, rfl, _, rfl, p, l, xs, vw, vn, rfl, t.extN ee, hz, ow.ext ee, (nn.ext ee).odd, (fun _ d y hd => out _ (fun _ _ z => z) d y trivial hd), (fun cn e => (cW cn e).elim), fun cn n e => (cW cn e).elim⟩
    have r2 : Rw K2 [.ref p1, .ref p2] [.tuple [.str "code"], .tuple [.str "code"]] := .word (g2 _ _ e1 fun ps z => by cases z) (.word e2 .nil)
    refine ⟨by show 2 ≤ sizeLine; decide, fun f1 hf1 => ?_⟩
    have y3 := same_new (o := .lst [.ref p1, .ref p2]) hf1
    have ef1 : upd K2 f1 (.lst [.ref p1, .ref p2]) f1 = some (.lst [.ref p1, .ref p2]) := upd_same
    have r3 := r2.ext (ExtN.of y3)
    have U3 := U2.ext y3
    have x3 := (g1.trans g2).trans (ExtN.of y3)
    generalize upd K2 f1 (.lst [.ref p1, .ref p2]) = K3 at r3 U3 x3 ef1 ⊢
    refine ⟨_, rfl, lam_x (yok := fun _ => True) R1 h1 (fun y _ => Says.code _ y) U3 (fun E H5 Q' e5 T5 out => ?_) fun p3 K4 g4 U4 e4 => ?_⟩
    · have ee := x3.trans e5
      exact ⟨_, rfl, p, dx, _, rfl, obx ee, rfl, _, rfl, p, l, xs, vw, rfl, t.extN ee, ow.ext ee, hw, fun H' sm d y hd => out H' sm d y trivial hd⟩
    have x4 := x3.trans g4
    refine lam_x (yok := fun _ => True) R1 h1 (fun y _ => Says.code _ y) U4 (fun E H5 Q' e5 T5 out => ?_) fun p4 K5 g5 U5 e5 => ?_
    · have ee := x4.trans e5
      exact ⟨_, rfl, p, dx, _, rfl, obx ee, rfl, _, rfl, rfl, p, l, xs, vw, rfl, t.extN ee, ow.ext ee, hw, fun H' sm d y hd => out H' sm d y trivial hd⟩
    have x5 := x4.trans g5
    have r5 : Rw K5 [.ref p3, .ref p4] [.tuple [.str "code"], .tuple [.str "code"]] := .word (g5 _ _ e4 fun ps z => by cases z) (.word e5 .nil)
    have r5a := r3.ext (g4.trans g5)
    have ef5 := (g4.trans g5) _ _ ef1 fun ps z => by cases z
    refine ⟨by show 2 ≤ sizeLine; decide, fun f2 hf2 => ⟨f1, f2, _, _, rfl, rfl, same_new hf2 _ _ ef5, upd_same, by show 4 ≤ sizeLine; decide, fun f3 hf3 => ?_⟩⟩
    have y6 := (same_new (o := .lst [.ref p3, .ref p4]) hf2).trans (same_new (o := .lst ([.ref p1, .ref p2] ++ [.ref p3, .ref p4])) hf3)
    have ef3 : upd (upd K5 f2 (.lst [.ref p3, .ref p4])) f3 (.lst ([.ref p1, .ref p2] ++ [.ref p3, .ref p4])) f3 = some (.lst ([.ref p1, .ref p2] ++ [.ref p3, .ref p4])) := upd_same
    have r6 := (r5a.app r5).ext (ExtN.of y6)
    have U6 := U5.ext y6
    have x6 := x5.trans (ExtN.of y6)
    generalize upd (upd K5 f2 (.lst [.ref p3, .ref p4])) f3 (.lst ([.ref p1, .ref p2] ++ [.ref p3, .ref p4])) = K6 at r6 U6 x6 ef3 ⊢
    -- found != [("code",)] * 4
    refine ⟨_, rfl, by show 1 ≤ sizeLine; decide, fun q1 hq1 => ⟨by show 1 ≤ sizeLine; decide, fun lq hlq => ⟨lq, 4, _, rfl, rfl, upd_same, by decide, by decide, by show 4 ≤ sizeLine; decide, fun l4 hl4 => ?_⟩⟩⟩
    have z1 := same_new (o := .tup [.str "code"]) hq1
    have z2 := same_new (o := .lst [.ref q1]) hlq
    have z3 := same_new (o := .lst [.ref q1, .ref q1, .ref q1, .ref q1]) hl4
    have eq1 := z3 _ _ (z2 _ _ (upd_same (H := K6) (a := q1) (o := .tup [.str "code"])))
    have zz := z1.trans (z2.trans z3)
    have U7 := U6.ext zz
    have x7 := x6.trans (ExtN.of zz)
    refine ⟨_, _, .lst (SqL.of (zz _ _ ef3)) (r6.ext (ExtN.of zz)).dp, .lst (SqL.of upd_same) (show DpAll _ _ [.ref q1, .ref q1, .ref q1, .ref q1] [.tuple [.str "code"], .tuple [.str "code"], .tuple [.str "code"], .tuple [.str "code"]] from (Rw.word eq1 (.word eq1 (.word eq1 (.word eq1 .nil)))).dp), by decide +kernel, by decide +kernel, _, rfl, iteNo (by decide +kernel) ?_⟩
    change tSeq _ _ _ _ (upd (upd (upd K6 q1 (.tup [.str "code"])) lq (.lst [.ref q1])) l4 (.lst [.ref q1, .ref q1, .ref q1, .ref q1]))
    generalize upd (upd (upd K6 q1 (.tup [.str "code"])) lq (.lst [.ref q1])) l4 (.lst [.ref q1, .ref q1, .ref q1, .ref q1]) = K7 at U7 x7 ⊢
    -- refused indexes
    refine lam_x (yok := fun y => y = vn) (ans := [.str "entry", vn]) R3 h3 (fun y hy => by rw [hy]; exact Says.entry _) U7 (fun E H5 Q' e5 T5 out => ?_) fun p8 K8 g8 U8 e8 => ?_
    · have ee := x7.trans e5
      exact ⟨_, rfl, p, dx, _, rfl, obx ee, rfl, _, rfl, p, l, xs, .int 5, vn, rfl, t.extN ee, hz, .int _, (nn.ext ee).odd, (fun e => (c5 e).elim), (fun cn e _ d hd => out _ (fun _ _ z => z) d _ rfl hd), fun cn n _ e => (cN n e).elim⟩
    have x8 := x7.trans g8
    refine lam_x (yok := fun y => y = vn) (ans := [.str "entry", vn]) R3 h3 (fun y hy => by rw [hy]; exact Says.entry _) U8 (fun E H5 Q' e5 T5 out => ?_) fun p9 K9 g9 U9 e9 => ?_
    · have ee := x8.trans e5
      exact ⟨_, rfl, p, dx, _, rfl, obx ee, rfl, _, rfl, p, l, xs, .int 5, vn, rfl, t.extN ee, hz, .int _, (nn.ext ee).odd, (fun e => (c5 e).elim), (fun cn e _ d hd => out _ (fun _ _ z => z) d _ rfl hd), fun cn n _ e => (cN n e).elim⟩
    have x9 := x8.trans g9
    have r9 : Rw K9 [.ref p8, .ref p9] [.tuple [.str "entry", dn], .tuple [.str "entry", dn]] := .ent (g9 _ _ e8 fun ps z => by cases z) (nn.ext x9) (.ent e9 (nn.ext x9) .nil)
    refine ⟨by show 2 ≤ sizeLine; decide, fun f4 hf4 => ?_⟩
    have y10 := same_new (o := .lst [.ref p8, .ref p9]) hf4
    have ef4 : upd K9 f4 (.lst [.ref p8, .ref p9]) f4 = some (.lst [.ref p8, .ref p9]) := upd_same
    have r10 := r9.ext (ExtN.of y10)
    have U10 := U9.ext y10
    have x10 := x9.trans (ExtN.of y10)
    generalize upd K9 f4 (.lst [.ref p8, .ref p9]) = K10 at r10 U10 x10 ef4 ⊢
    have shD : Rp.Sh 3000 3 (.list [.tuple [.str "entry", dn], .tuple [.str "entry", dn]]) := by
      refine (Rp.Sh.list (b := 1100) (e := 2) (fun x hx => ?_)).mono (by simp) (Nat.le_refl _)
      rcases List.mem_cons.mp hx with rfl | hx
      · exact sh_ent shn
      · rw [List.mem_singleton.mp hx]
        exact sh_ent shn
    have sD := shD.shw (by decide) (by decide)
    refine ⟨_, rfl, _, _, rfl, .lst (SqL.of ef4) r10.dp, sD.1, sD.2.1, sD.2.2.1, sD.2.2.2, ?_⟩
    refine ⟨_, rfl, by show 2 ≤ sizeLine; decide, fun q2 hq2 => ⟨by show 1 ≤ sizeLine; decide, fun lr hlr => ⟨lr, 2, _, rfl, rfl, upd_same, by decide, by decide, by show 2 ≤ sizeLine; decide, fun l5 hl5 => ?_⟩⟩⟩
    have w1 := same_new (o := .tup [.str "entry", vn]) hq2
    have w2 := same_new (o := .lst [.ref q2]) hlr
    have w3 := same_new (o := .lst [.ref q2, .ref q2]) hl5
    have eq2 := w3 _ _ (w2 _ _ (upd_same (H := K10) (a := q2) (o := .tup [.str "entry", vn])))
    have ww := w1.trans (w2.trans w3)
    have n11 := nn.ext (x10.trans (ExtN.of ww))
    refine ⟨_, _, rfl, .lst (SqL.of upd_same) (show DpAll _ _ [.ref q2, .ref q2] [.tuple [.str "entry", dn], .tuple [.str "entry", dn]] from (Rw.ent eq2 n11 (.ent eq2 n11 .nil)).dp), sD.1, sD.2.1, sD.2.2.1, sD.2.2.2, rfl, ?_⟩
    have kk := k _ (x10.trans (ExtN.of ww)) (U10.ext ww)
    exact Eq.mpr (congrArg (fun b => Q (V.bl b) _) (decide_eq_true rfl)) kk
end
end K16
set_option Elab.async false
set_option linter.all false
set_option maxRecDepth 100000
set_option maxHeartbeats 4000000
namespace K16
open PySem L2 Xo Lm LamX
theorem Rw.updL {H : Hp} {a : Addr} {o : HO} {x y : V} {xs : List V} (ha : H a = some (.lst (x :: y :: xs))) : ∀ {vs : List V} {ds : List PyData}, Rw H vs ds → Rw (upd H a o) vs ds
  | _, _, .nil => .nil
  | _, _, .word h r => .word (by rw [upd_ne (ne_of h ha (by intro z; cases z))]; exact h) (r.updL ha)
  | _, _, .ent h n r => .ent (by rw [upd_ne (ne_of h ha (by intro z; cases z))]; exact h) (n.updL ha) (r.updL ha)
  | _, _, .one h n r => .one (by rw [upd_ne (ne_of h ha (by intro z; cases z))]; exact h) (n.updL ha) (r.updL ha)
theorem tabs_updL {H : Hp} {TT : List (Addr × Str)} {a : Addr} {o : HO} {xs : List V} (h : Tabs TT H) (ha : H a = some (.lst xs)) : Tabs TT (upd H a o) := by
  intro p hp
  obtain ⟨ps, e, tr, f⟩ := h p hp
  refine ⟨ps, by rw [upd_ne (ne_of e ha (by intro z; cases z))]; exact e, tr, fun pos cv hc => ?_⟩
  obtain ⟨c, rfl, hc2⟩ := f pos cv hc
  exact ⟨c, rfl, by rw [upd_ne (ne_of hc2 ha (by intro z; cases z))]; exact hc2⟩
section
variable {P : Program} {w : World} {K : PySem.W.Frag} {mg : Str → Option Value} {base : Heap}
abbrev NSL : List Str := ["table", "spot", "found"]
theorem scSlots : FnScope NSL ["table", "spot"] (defScope sSlots) := ⟨rfl, rfl, rfl, by decide +kernel, rfl, by decide +kernel, by decide +kernel⟩
def spSlots (C P1 P2 P3 P4 : Addr) : Sp := fun vs H Q _ => ∃ (p l : Addr) (xs : List Int) (vn : V) (dn : PyData), vs = [.ref p, vn] ∧ TabAt C H p l xs ∧ Nd H vn dn ∧ asS xs.length vn = none ∧ Rp.Sh 500 1 dn ∧ Tabs (tabs P1 P2 P3 P4) H ∧ ∀ H', ExtN H H' → Tabs (tabs P1 P2 P3 P4) H' → Q (.bl true) H'
theorem ok_slots {f cA P1 P2 P3 P4 gs fv fe C C1 C2 C3 C4 Tt Aa Ff o1 o2 o3 o4 o5 o6 o7 o8 o9 pz gz : Addr} {fd fdv fde : FuncData} (D : Dc K mg "_law_slots_right" sSlots ["table", "spot"] f cA fd) (B : Bl mg) (T : TT K mg C pz gz) (S : Ds K mg gs) (N : Nm mg C1 C2 C3 C4 Tt Aa Ff o1 o2 o3 o4 o5 o6 o7 o8 o9)
    (vm : Meth K C "value_at" fv) (vb : Binds K fdv ["self", "slot"] []) (vk : KBn K fdv ["self", "slot"] 1 ["slot"] (fun us ws => us ++ ws) (fun vs zs => vs ++ zs)) (vG : FnOk P w K mg base (L2.CX P w) 4 fv fdv ["self", "slot"] (spVal C C3)) (em : Meth K C "erase" fe) (eb : Binds K fde ["self", "slot"] []) (eG : FnOk P w K mg base (L2.CX P w) 5 fe fde ["self", "slot"] (spErase C C3))
    (TB : TabB base mg cA P2) (n1 : P1 ≠ P2) (n3 : P3 ≠ P2) (n4 : P4 ≠ P2) (R3 : Row K C3 C1 C2 C3 C4 Tt Aa Ff [o1, o2, o3, o4, o5, o6, o7, o8, o9] false false true false false true false) (h3 : PySem.W.findIn K (.ref C3) "index" = some none) : Gd.FnG P w K mg base 12 f fd ["table", "spot"] (spSlots C P1 P2 P3 P4) := by
  obtain ⟨oc, od, dV, kV, doc, pmm, an, cdv, ct, osl, lk, hcg, hb⟩ := S.ex
  refine okGc D scSlots (fun vs H Q E h => ?_) (fun A outer s H vs Q E hr hgd h => ?_)
  · obtain ⟨p, l, xs, vn, dn, rfl, _⟩ := h
    rfl
  · obtain ⟨p, l, xs, vn, dn, rfl, t, nn, hn, shn, hT, k⟩ := h
    have hu64 := hr.units
    have hmT : (P2, qOf "_law_slots_right") ∈ tabs P1 P2 P3 P4 := by
      unfold tabs
      simp
    have huT : ∀ p ∈ tabs P1 P2 P3 P4, p.1 = P2 → p.2 = qOf "_law_slots_right" := fun p hp e => by
      rcases List.mem_cons.mp hp with rfl | hp
      · exact absurd e n1
      · rcases List.mem_cons.mp hp with rfl | hp
        · rfl
        · rcases List.mem_cons.mp hp with rfl | hp
          · exact absurd e n3
          · rw [List.mem_singleton.mp hp] at e ⊢
            exact absurd e n4
    refine ⟨_, pss_cons (ps_set (i := 2) scSlots.nd rfl (Or.inl rfl) (pe_lst (pa_cons (pe_lamD (k := 9) (T := tabs P1 P2 P3 P4) (own := []) (t := fun E => tMeth C "value_at" (spVal C C3) [] E (tVar 0) (tCons (tVar 1) (tNil))) rfl S.g S.kp lk hcg hb scSaid rfl (Or.inl rfl) (said_gives (hr.mono (by decide)) N) (hr.mono (by decide)) (lm_by (N := NSL) (sc := defScope sSlots) (by decide +kernel))
            (fun pins σ H s E Q I hT h => lm_make0 I TB rfl hmT huT hT (lm_by (N := NSL) (sc := defScope sSlots) (by decide +kernel)) rfl (fun _ _ _ _ _ _ => rfl) h) (fun A outer s H E f c' hr2 => pe_meth (E := E) (pv 0) T.cl vm vG (hr2.mono (by decide)) vb .nil (passes_call (takes_of rfl rfl rfl rfl) fun _ _ _ _ z => z) (pa_cons (pv 1) pa_nil))) (pa_cons (pe_lamD (k := 9) (T := tabs P1 P2 P3 P4) (own := ["x"]) (t := fun E => tMeth C "erase" (spErase C C3) [] E (tVar 0) (tCons (tVar 1) (tNil))) rfl S.g S.kp lk hcg hb scSaid rfl (Or.inl rfl) (said_gives (hr.mono (by decide)) N) (hr.mono (by decide)) (lm_by (N := NSL) (sc := defScope sSlots) (by decide +kernel))
            (fun pins σ H s E Q I hT h => lm_make1 I TB rfl hmT huT hT (lm_by (N := NSL) (sc := defScope sSlots) (by decide +kernel)) rfl rfl (fun _ _ _ _ _ _ _ _ => ⟨_, rfl, rfl⟩) h) (fun A outer s H E f c' hr2 => pe_meth (E := E) (pv 0) T.cl em eG (hr2.mono (by decide)) eb .nil (passes_call (takes_of rfl rfl rfl rfl) fun _ _ _ _ z => z) (pa_cons (pv 1) pa_nil))) pa_nil))))
      (pss_cons (ps_expr (pe_bm PySem.F.plainAttrs_list PySem.F.slot_list_append PySem.F.type_list_append mt_append (pv 2) (pa_cons (pe_lamD (k := 9) (T := tabs P1 P2 P3 P4) (own := []) (t := fun E => Mw.tMethK0 (["slot"] : List Str).length C "value_at" (spVal C C3) (fun vs zs => vs ++ zs) E (tVar 0) (tCons (tVar 1) tNil)) rfl S.g S.kp lk hcg hb scSaid rfl (Or.inl rfl) (said_gives (hr.mono (by decide)) N) (hr.mono (by decide)) (lm_by (N := NSL) (sc := defScope sSlots) (by decide +kernel))
            (fun pins σ H s E Q I hT h => lm_make0 I TB rfl hmT huT hT (lm_by (N := NSL) (sc := defScope sSlots) (by decide +kernel)) rfl (fun _ _ _ _ _ _ => rfl) h) (fun A outer s H E f c' hr2 => Mw.pe_methK0 (ks := ["slot"]) (E := E) (sp := spVal C C3) (gV := fun vs zs => vs ++ zs) (pv 0) T.cl vm vG (hr2.mono (by decide)) vk (passes_call (takes_of rfl rfl rfl rfl) fun _ _ _ _ z => z) (pk_cons (pv 1) pk_nil))) pa_nil)))
      (pss_one (ps_ret (pe_cmpR op_eq (pe_callB (Gd.call_repr hgd hu64) (by rfl) B.repr (by decide +kernel) (pa_cons (pv 2) pa_nil)) (pe_callB (Gd.call_repr hgd hu64) (by rfl) B.repr (by decide +kernel) (pa_cons (pe_op op_rep (pe_lst (pa_cons (pe_tup (pa_cons pe_str (pa_cons (pv 1) pa_nil))) pa_nil)) pe_int) pa_nil)) (nomark _))))), ?_⟩
    obtain ⟨dx, hob⟩ := t.ob
    have obx : ∀ {H' : Hp}, ExtN H H' → H' p = some (.ins C dx [("_slots", .ref l)]) := fun e => e _ _ hob fun ps z => by cases z
    have cN : ∀ j, asS xs.length vn = some j → False := fun n e => by rw [hn] at e; cases e
    refine lam_x (yok := fun y => y = vn) (ans := [.str "entry", vn]) R3 h3 (fun y hy => by rw [hy]; exact Says.entry _) hT (fun E H5 Q' e5 T5 out => ?_) fun p1 K1 g1 U1 e1 => ?_
    · exact ⟨_, rfl, p, dx, _, rfl, obx e5, rfl, _, rfl, p, l, xs, vn, rfl, t.extN e5, (nn.ext e5).odd, (fun j y e => (cN j e).elim), fun _ d hd => out _ (fun _ _ z => z) d _ rfl hd⟩
    refine lam_x (yok := fun y => y = vn) (ans := [.str "entry", vn]) R3 h3 (fun y hy => by rw [hy]; exact Says.entry _) U1 (fun E H5 Q' e5 T5 out => ?_) fun p2 K2 g2 U2 e2 => ?_
    · have ee := g1.trans e5
      exact ⟨_, rfl, p, dx, _, rfl, obx ee, rfl, _, rfl, p, l, xs, vn, rfl, t.extN ee, (nn.ext ee).odd, (fun j y e => (cN j e).elim), fun _ d hd => out _ (fun _ _ z => z) d _ rfl hd⟩
    have x2 := g1.trans g2
    have r2 : Rw K2 [.ref p1, .ref p2] [.tuple [.str "entry", dn], .tuple [.str "entry", dn]] := .ent (g2 _ _ e1 fun ps z => by cases z) (nn.ext x2) (.ent e2 (nn.ext x2) .nil)
    refine ⟨by show 2 ≤ sizeLine; decide, fun f1 hf1 => ?_⟩
    have y3 := same_new (o := .lst [.ref p1, .ref p2]) hf1
    have ef1 : upd K2 f1 (.lst [.ref p1, .ref p2]) f1 = some (.lst [.ref p1, .ref p2]) := upd_same
    have r3 := r2.ext (ExtN.of y3)
    have U3 := U2.ext y3
    have x3 := x2.trans (ExtN.of y3)
    have fresh : ∀ b o, H b = some o → (∀ ps, o ≠ .tbl ps) → b ≠ f1 := fun b o e n => ne_of_none (x2 _ _ e n) hf1
    generalize upd K2 f1 (.lst [.ref p1, .ref p2]) = K3 at r3 U3 x3 ef1 ⊢
    refine ⟨_, rfl, .inl ⟨rfl, _, SqL.of ef1⟩, lam_x (yok := fun y => y = vn) (ans := [.str "entry", vn]) R3 h3 (fun y hy => by rw [hy]; exact Says.entry _) U3 (fun E H5 Q' e5 T5 out => ?_) fun p3 K4 g4 U4 e4 => ?_⟩
    · have ee := x3.trans e5
      exact ⟨_, rfl, p, dx, _, rfl, obx ee, rfl, _, rfl, rfl, p, l, xs, vn, rfl, t.extN ee, (nn.ext ee).odd, (fun j y e => (cN j e).elim), fun _ d hd => out _ (fun _ _ z => z) d _ rfl hd⟩
    have x4 := x3.trans g4
    have ef4 := g4 _ _ ef1 fun ps z => by cases z
    refine ⟨f1, _, _, rfl, rfl, ef4, by show 2 < sizeLine; decide, ?_⟩
    have r5 : Rw (upd K4 f1 (.lst ([.ref p1, .ref p2] ++ [.ref p3]))) ([.ref p1, .ref p2] ++ [.ref p3]) ([.tuple [.str "entry", dn], .tuple [.str "entry", dn]] ++ [.tuple [.str "entry", dn]]) :=
      ((r3.ext g4).updL ef4).app (.ent (by rw [upd_ne (ne_of e4 ef4 (by intro z; cases z))]; exact e4) ((nn.ext x4).updL ef4) .nil)
    have U5 := tabs_updL (o := .lst ([.ref p1, .ref p2] ++ [.ref p3])) U4 ef4
    have x5 : ExtN H (upd K4 f1 (.lst ([.ref p1, .ref p2] ++ [.ref p3]))) := fun b o e n => by
      rw [upd_ne (fresh b o e n)]
      exact x4 _ _ e n
    have ef5 : upd K4 f1 (.lst ([.ref p1, .ref p2] ++ [.ref p3])) f1 = some (.lst ([.ref p1, .ref p2] ++ [.ref p3])) := upd_same
    generalize upd K4 f1 (.lst ([.ref p1, .ref p2] ++ [.ref p3])) = K5 at r5 U5 x5 ef5 ⊢
    have shD : Rp.Sh 4000 3 (.list [.tuple [.str "entry", dn], .tuple [.str "entry", dn], .tuple [.str "entry", dn]]) := by
      refine (Rp.Sh.list (b := 1100) (e := 2) (fun x hx => ?_)).mono (by simp) (Nat.le_refl _)
      rcases List.mem_cons.mp hx with rfl | hx
      · exact sh_ent shn
      · rcases List.mem_cons.mp hx with rfl | hx
        · exact sh_ent shn
        · rw [List.mem_singleton.mp hx]
          exact sh_ent shn
    have sD := shD.shw (by decide) (by decide)
    refine ⟨_, rfl, _, .list [.tuple [.str "entry", dn], .tuple [.str "entry", dn], .tuple [.str "entry", dn]], rfl, .lst (SqL.of ef5) r5.dp, sD.1, sD.2.1, sD.2.2.1, sD.2.2.2, ?_⟩
    refine ⟨_, rfl, by show 2 ≤ sizeLine; decide, fun q2 hq2 => ⟨by show 1 ≤ sizeLine; decide, fun lr hlr => ⟨lr, 3, _, rfl, rfl, upd_same, by decide, by decide, by show 3 ≤ sizeLine; decide, fun l5 hl5 => ?_⟩⟩⟩
    have w1 := same_new (o := .tup [.str "entry", vn]) hq2
    have w2 := same_new (o := .lst [.ref q2]) hlr
    have w3 := same_new (o := .lst [.ref q2, .ref q2, .ref q2]) hl5
    have eq2 := w3 _ _ (w2 _ _ (upd_same (H := K5) (a := q2) (o := .tup [.str "entry", vn])))
    have ww := w1.trans (w2.trans w3)
    have n11 := nn.ext (x5.trans (ExtN.of ww))
    refine ⟨_, .list [.tuple [.str "entry", dn], .tuple [.str "entry", dn], .tuple [.str "entry", dn]], rfl, .lst (SqL.of upd_same) (show DpAll _ _ [.ref q2, .ref q2, .ref q2] [.tuple [.str "entry", dn], .tuple [.str "entry", dn], .tuple [.str "entry", dn]] from (Rw.ent eq2 n11 (.ent eq2 n11 (.ent eq2 n11 .nil))).dp), sD.1, sD.2.1, sD.2.2.1, sD.2.2.2, rfl, ?_⟩
    have kk := k _ (x5.trans (ExtN.of ww)) (U5.ext ww)
    exact Eq.mpr (congrArg (fun b => Q (V.bl b) _) (decide_eq_true rfl)) kk
end
end K16
set_option Elab.async false
set_option linter.all false
set_option maxRecDepth 100000
set_option maxHeartbeats 4000000
namespace K16
open PySem L2 Xo Lm LamX
theorem slotRes_first {xs : List Int} {c ix : Nat} (h : xs[sA xs.length c 0]? = some (ix : Int)) : slotRes xs c ix = nV (sA xs.length c 0) := by
  unfold slotRes trailOf
  rw [show xs.length + 6 = (xs.length + 5) + 1 from rfl]
  unfold goT
  rw [List.find?_cons, h, decide_eq_true rfl]
theorem free_uni {xs : List Int} {c i j : Nat} (a : FreeAt xs c i) (b : FreeAt xs c j) : i = j := by
  have go : ∀ {i j : Nat}, FreeAt xs c i → FreeAt xs c j → ¬ i < j := fun a b h => by
    obtain ⟨v, e, hv⟩ := a.free
    obtain ⟨u, e2, hu⟩ := b.full _ h
    rw [e] at e2
    cases e2
    omega
  have := go a b
  have := go b a
  omega
theorem free_no {xs : List Int} {c j : Nat} (a : FreeAt xs c j) (b : NoFree xs c) : False := by
  obtain ⟨v, e, hv⟩ := a.free
  obtain ⟨u, e2, hu⟩ := b j a.lt
  rw [e] at e2
  cases e2
  omega
def row0 : List Int := [-1, -1, -1, -1, -1, -1, -1, -1]
def row1 (F : Int) : List Int := [-1, -1, -1, -1, -1, F, -1, -1]
theorem free5 : FreeAt row0 5 0 := ⟨by decide, ⟨-1, rfl, by decide⟩, fun i hi => absurd hi (Nat.not_lt_zero _)⟩
def farD (F : Int) : List PyData := [.tuple [.str "entry", .int F], .tuple [.str "entry", .int F], .tuple [.str "entry", .int (0 - F)], .tuple [.str "entry", .int (0 - F)], .tuple [.str "entry", .int (0 - F)], .tuple [.str "entry", .int (0 - F)], .tuple [.str "code"], .tuple [.str "size"], .list [.int F], .list [.int 1], .list [.int 5]]
theorem far_eqv (F : Int) : PyData.eqv (.list (farD F)) (.list (farD F)) = true := by
  unfold farD
  simp [PyData.eqv, PyData.eqvAll]
theorem far_shape (F : Int) : SeqAt.shaped (.list (farD F)) = true := by
  have h1 : (PyData.list (farD F)).canLay0 = true := by
    have e1 : PyData.canLay0 (.str "entry") = true := by decide +kernel
    have e2 : PyData.canLay0 (.str "code") = true := by decide +kernel
    have e3 : PyData.canLay0 (.str "size") = true := by decide +kernel
    unfold farD
    simp [PyData.canLay0, PyData.canLayAll0] at e1 e2 e3 ⊢
    exact ⟨e1, e2, e3⟩
  have h2 : (PyData.list (farD F)).depth ≤ 64 := by
    unfold farD
    simp [PyData.depth, PyData.depthAll]
  unfold SeqAt.shaped
  rw [h1, decide_eq_true h2]
  rfl
section
variable {P : Program} {w : World} {K : PySem.W.Frag} {mg : Str → Option Value} {base : Heap}
theorem lam_ok {TT : List (Addr × Str)} {C1 C2 C3 C4 T A F : Addr} {v : V} {os : List Addr} {t : L2.XK → TE} {σ : L2.St} {H : Hp} {Q : VK}
    (hT : Tabs TT H) (ht : ∀ (E : L2.XK) (H5 : Hp) (Q' : VK), ExtN H H5 → (∀ H6, Same H5 H6 → Q' v H6) → t E σ H5 Q')
    (k : ∀ (p : Addr) (H' : Hp), ExtN H H' → Tabs TT H' → H' p = some (.lst [v]) → Q (.ref p) H') : tLam TT (TTsaid K C1 C2 C3 C4 T A F os) t σ H Q := by
  refine ⟨hT, fun H4 eN T4 t0 ht0 E' Q' _ hQ => ?_⟩
  have s5 := same_new (o := .tup [.non, .non]) ht0
  have T5 := T4.ext s5
  have e5 := eN.trans (ExtN.of s5)
  refine ht E' _ Q' e5 fun H6 s6 => hQ _ _ fun p hp => ?_
  have m := s6.trans (same_new (o := .lst [v]) hp)
  exact k p _ (e5.trans (ExtN.of m)) (T5.ext m) upd_same
abbrev NFA : List Str := ["far", "table", "first", "found"]
theorem scFar : FnScope NFA [] (defScope sFar) := ⟨rfl, rfl, rfl, by decide +kernel, rfl, by decide +kernel, by decide +kernel⟩
def spFar (P1 P2 P3 P4 : Addr) : Sp := fun vs H Q _ => vs = [] ∧ Tabs (tabs P1 P2 P3 P4) H ∧ ∀ H', Q (.bl true) H'
theorem ok_far {f cA P1 P2 P3 P4 gs fv fe fp fo fc f0 C C1 C2 C3 C4 Tt Aa Ff o1 o2 o3 o4 o5 o6 o7 o8 o9 pz gz : Addr} {fd fdv fde fdp fdo fdc fd0 : FuncData} (D : Dc K mg "_law_far_right" sFar [] f cA fd) (B : Bl mg) (T : TT K mg C pz gz) (S : Ds K mg gs) (N : Nm mg C1 C2 C3 C4 Tt Aa Ff o1 o2 o3 o4 o5 o6 o7 o8 o9)
    (vm : Meth K C "value_at" fv) (vb : Binds K fdv ["self", "slot"] []) (vG : FnOk P w K mg base (L2.CX P w) 4 fv fdv ["self", "slot"] (spVal C C3)) (em : Meth K C "erase" fe) (eb : Binds K fde ["self", "slot"] []) (eG : FnOk P w K mg base (L2.CX P w) 5 fe fde ["self", "slot"] (spErase C C3))
    (pm : Meth K C "place" fp) (pb : Binds K fdp ["self", "code", "index"] []) (pG : FnOk P w K mg base (L2.CX P w) 8 fp fdp ["self", "code", "index"] (spPlace C C1 C3 C4)) (om : Meth K C "slot_of" fo) (ob : Binds K fdo ["self", "code", "index"] []) (oG : FnOk P w K mg base (L2.CX P w) 8 fo fdo ["self", "code", "index"] (spSlotOf C C1 C3))
    (cm : Meth K C "count_of" fc) (cb : Binds K fdc ["self", "value"] []) (cG : FnOk P w K mg base (L2.CX P w) 3 fc fdc ["self", "value"] (spCnt C C3)) (M : Mk K C f0) (b0 : Binds K fd0 ["self", "size"] []) (G0 : FnOk P w K mg base (L2.CX P w) 4 f0 fd0 ["self", "size"] (spInit C C2))
    (TB : TabB base mg cA P3) (n1 : P1 ≠ P3) (n2 : P2 ≠ P3) (n4 : P4 ≠ P3) (R1 : Row K C1 C1 C2 C3 C4 Tt Aa Ff [o1, o2, o3, o4, o5, o6, o7, o8, o9] true false false false true false false) (h1 : PySem.W.findIn K (.ref C1) "reason" = some none)
    (R2 : Row K C2 C1 C2 C3 C4 Tt Aa Ff [o1, o2, o3, o4, o5, o6, o7, o8, o9] false true false false true false false) (h2 : PySem.W.findIn K (.ref C2) "reason" = some none)
    (R3 : Row K C3 C1 C2 C3 C4 Tt Aa Ff [o1, o2, o3, o4, o5, o6, o7, o8, o9] false false true false false true false) (h3 : PySem.W.findIn K (.ref C3) "index" = some none) : Gd.FnG P w K mg base 12 f fd [] (spFar P1 P2 P3 P4) := by
  obtain ⟨oc, od, dV, kV, doc, pmm, an, cdv, ct, osl, lk, hcg, hb⟩ := S.ex
  refine okGc D scFar (fun vs H Q E h => by obtain ⟨rfl, _⟩ := h; rfl) (fun A outer s H vs Q E hr hgd h => ?_)
  obtain ⟨rfl, hT, k⟩ := h
  · have hu64 := hr.units
    have hmT : (P3, qOf "_law_far_right") ∈ tabs P1 P2 P3 P4 := by
      unfold tabs
      simp
    have huT : ∀ p ∈ tabs P1 P2 P3 P4, p.1 = P3 → p.2 = qOf "_law_far_right" := fun p hp e => by
      rcases List.mem_cons.mp hp with rfl | hp
      · exact absurd e n1
      · rcases List.mem_cons.mp hp with rfl | hp
        · exact absurd e n2
        · rcases List.mem_cons.mp hp with rfl | hp
          · rfl
          · rw [List.mem_singleton.mp hp] at e ⊢
            exact absurd e n4
    refine ⟨_, pss_cons (ps_asg (pe_tup (pa_cons (pe_op Mw.op_powB (pe_op Mw.op_powB (pe_op op_pow pe_int pe_int) pe_int) pe_int) (pa_cons (pe_make (E := fun _ _ _ => False) M G0 (hr.mono (by decide)) rfl T.mgC b0 .nil passF (pa_cons pe_int pa_nil)) pa_nil))) (pg_tup rfl (pgs_cons (pg_name (i := 0) scFar.nd rfl (Or.inr rfl)) (pgs_cons (pg_name (i := 1) scFar.nd rfl (Or.inr rfl)) pgs_nil))))
      (pss_cons (ps_set (i := 2) scFar.nd rfl (Or.inr rfl) (pe_meth (E := fun _ _ _ => False) (pv 1) T.cl pm pG (hr.mono (by decide)) pb .nil passF (pa_cons pe_int (pa_cons (pv 0) pa_nil))))
      (pss_cons (ps_set (i := 3) scFar.nd rfl (Or.inl rfl) (pe_lst (pa_cons (pe_lamD (k := 9) (T := tabs P1 P2 P3 P4) (own := []) (t := fun E => tMeth C "value_at" (spVal C C3) [] E (tVar 1) (tCons (tVar 0) (tNil))) rfl S.g S.kp lk hcg hb scSaid rfl (Or.inl rfl) (said_gives (hr.mono (by decide)) N) (hr.mono (by decide)) (lm_by (N := NFA) (sc := defScope sFar) (by decide +kernel))
            (fun pins σ H s E Q I hT h => lm_make0 I TB rfl hmT huT hT (lm_by (N := NFA) (sc := defScope sFar) (by decide +kernel)) rfl (fun _ _ _ _ _ _ => rfl) h) (fun A outer s H E f c' hr2 => pe_meth (E := E) (pv 1) T.cl vm vG (hr2.mono (by decide)) vb .nil (passes_call (takes_of rfl rfl rfl rfl) fun _ _ _ _ z => z) (pa_cons (pv 0) pa_nil))) (pa_cons (pe_lamD (k := 9) (T := tabs P1 P2 P3 P4) (own := ["x"]) (t := fun E => tMeth C "erase" (spErase C C3) [] E (tVar 1) (tCons (tVar 0) (tNil))) rfl S.g S.kp lk hcg hb scSaid rfl (Or.inl rfl) (said_gives (hr.mono (by decide)) N) (hr.mono (by decide)) (lm_by (N := NFA) (sc := defScope sFar) (by decide +kernel))
            (fun pins σ H s E Q I hT h => lm_make1 I TB rfl hmT huT hT (lm_by (N := NFA) (sc := defScope sFar) (by decide +kernel)) rfl rfl (fun _ _ _ _ _ _ _ _ => ⟨_, rfl, rfl⟩) h) (fun A outer s H E f c' hr2 => pe_meth (E := E) (pv 1) T.cl em eG (hr2.mono (by decide)) eb .nil (passes_call (takes_of rfl rfl rfl rfl) fun _ _ _ _ z => z) (pa_cons (pv 0) pa_nil))) pa_nil))))
      (pss_cons (ps_set (i := 3) scFar.nd rfl (Or.inl rfl) (pe_op op_cat (pv 3) (pe_lst (pa_cons (pe_lamD (k := 9) (T := tabs P1 P2 P3 P4) (own := []) (t := fun E => tMeth C "value_at" (spVal C C3) [] E (tVar 1) (tCons (tOp (rI0 fun i j => .int (i - j)) (tC (.int 0)) (tVar 0)) (tNil))) rfl S.g S.kp lk hcg hb scSaid rfl (Or.inl rfl) (said_gives (hr.mono (by decide)) N) (hr.mono (by decide)) (lm_by (N := NFA) (sc := defScope sFar) (by decide +kernel))
            (fun pins σ H s E Q I hT h => lm_make0 I TB rfl hmT huT hT (lm_by (N := NFA) (sc := defScope sFar) (by decide +kernel)) rfl (fun _ _ _ _ _ _ => rfl) h) (fun A outer s H E f c' hr2 => pe_meth (E := E) (pv 1) T.cl vm vG (hr2.mono (by decide)) vb .nil (passes_call (takes_of rfl rfl rfl rfl) fun _ _ _ _ z => z) (pa_cons (pe_op op_sub pe_int (pv 0)) pa_nil))) (pa_cons (pe_lamD (k := 9) (T := tabs P1 P2 P3 P4) (own := ["x"]) (t := fun E => tMeth C "place" (spPlace C C1 C3 C4) [] E (tVar 1) (tCons (tC (.int 5)) (tCons (tOp (rI0 fun i j => .int (i - j)) (tC (.int 0)) (tVar 0)) (tNil)))) rfl S.g S.kp lk hcg hb scSaid rfl (Or.inl rfl) (said_gives (hr.mono (by decide)) N) (hr.mono (by decide)) (lm_by (N := NFA) (sc := defScope sFar) (by decide +kernel))
            (fun pins σ H s E Q I hT h => lm_make1 I TB rfl hmT huT hT (lm_by (N := NFA) (sc := defScope sFar) (by decide +kernel)) rfl rfl (fun _ _ _ _ _ _ _ _ => ⟨_, rfl, rfl⟩) h) (fun A outer s H E f c' hr2 => pe_meth (E := E) (pv 1) T.cl pm pG (hr2.mono (by decide)) pb .nil (passes_call (takes_of rfl rfl rfl rfl) fun _ _ _ _ z => z) (pa_cons (pe_int) (pa_cons (pe_op op_sub pe_int (pv 0)) pa_nil)))) pa_nil)))))
      (pss_cons (ps_set (i := 3) scFar.nd rfl (Or.inl rfl) (pe_op op_cat (pv 3) (pe_lst (pa_cons (pe_lamD (k := 9) (T := tabs P1 P2 P3 P4) (own := []) (t := fun E => tMeth C "slot_of" (spSlotOf C C1 C3) [] E (tVar 1) (tCons (tC (.int 5)) (tCons (tOp (rI0 fun i j => .int (i - j)) (tC (.int 0)) (tVar 0)) (tNil)))) rfl S.g S.kp lk hcg hb scSaid rfl (Or.inl rfl) (said_gives (hr.mono (by decide)) N) (hr.mono (by decide)) (lm_by (N := NFA) (sc := defScope sFar) (by decide +kernel))
            (fun pins σ H s E Q I hT h => lm_make0 I TB rfl hmT huT hT (lm_by (N := NFA) (sc := defScope sFar) (by decide +kernel)) rfl (fun _ _ _ _ _ _ => rfl) h) (fun A outer s H E f c' hr2 => pe_meth (E := E) (pv 1) T.cl om oG (hr2.mono (by decide)) ob .nil (passes_call (takes_of rfl rfl rfl rfl) fun _ _ _ _ z => z) (pa_cons (pe_int) (pa_cons (pe_op op_sub pe_int (pv 0)) pa_nil)))) (pa_cons (pe_lamD (k := 9) (T := tabs P1 P2 P3 P4) (own := ["x"]) (t := fun E => tMeth C "count_of" (spCnt C C3) [] E (tVar 1) (tCons (tOp (rI0 fun i j => .int (i - j)) (tC (.int 0)) (tVar 0)) (tNil))) rfl S.g S.kp lk hcg hb scSaid rfl (Or.inl rfl) (said_gives (hr.mono (by decide)) N) (hr.mono (by decide)) (lm_by (N := NFA) (sc := defScope sFar) (by decide +kernel))
            (fun pins σ H s E Q I hT h => lm_make1 I TB rfl hmT huT hT (lm_by (N := NFA) (sc := defScope sFar) (by decide +kernel)) rfl rfl (fun _ _ _ _ _ _ _ _ => ⟨_, rfl, rfl⟩) h) (fun A outer s H E f c' hr2 => pe_meth (E := E) (pv 1) T.cl cm cG (hr2.mono (by decide)) cb .nil (passes_call (takes_of rfl rfl rfl rfl) fun _ _ _ _ z => z) (pa_cons (pe_op op_sub pe_int (pv 0)) pa_nil))) pa_nil)))))
      (pss_cons (ps_set (i := 3) scFar.nd rfl (Or.inl rfl) (pe_op op_cat (pv 3) (pe_lst (pa_cons (pe_lamD (k := 9) (T := tabs P1 P2 P3 P4) (own := []) (t := fun E => tMeth C "place" (spPlace C C1 C3 C4) [] E (tVar 1) (tCons (tVar 0) (tCons (tC (.int 0)) (tNil)))) rfl S.g S.kp lk hcg hb scSaid rfl (Or.inl rfl) (said_gives (hr.mono (by decide)) N) (hr.mono (by decide)) (lm_by (N := NFA) (sc := defScope sFar) (by decide +kernel))
            (fun pins σ H s E Q I hT h => lm_make0 I TB rfl hmT huT hT (lm_by (N := NFA) (sc := defScope sFar) (by decide +kernel)) rfl (fun _ _ _ _ _ _ => rfl) h) (fun A outer s H E f c' hr2 => pe_meth (E := E) (pv 1) T.cl pm pG (hr2.mono (by decide)) pb .nil (passes_call (takes_of rfl rfl rfl rfl) fun _ _ _ _ z => z) (pa_cons (pv 0) (pa_cons (pe_int) pa_nil)))) (pa_cons (pe_lamD (k := 9) (T := tabs P1 P2 P3 P4) (own := ["x"]) (t := fun E => tMake C (spInit C C2) [] E (tCons (tVar 0) tNil)) rfl S.g S.kp lk hcg hb scSaid rfl (Or.inl rfl) (said_gives (hr.mono (by decide)) N) (hr.mono (by decide)) (lm_by (N := NFA) (sc := defScope sFar) (by decide +kernel))
            (fun pins σ H s E Q I hT h => lm_make1 I TB rfl hmT huT hT (lm_by (N := NFA) (sc := defScope sFar) (by decide +kernel)) rfl rfl (fun _ _ _ _ _ _ _ _ => ⟨_, rfl, rfl⟩) h) (fun A outer s H E f c' hr2 => pe_make (E := E) M G0 (hr2.mono (by decide)) rfl T.mgC b0 .nil (passes_call (takes_of rfl rfl rfl rfl) fun _ _ _ _ z => z) (pa_cons (pv 0) pa_nil))) pa_nil)))))
      (pss_cons (ps_set (i := 3) scFar.nd rfl (Or.inl rfl) (pe_op op_cat (pv 3) (pe_lst (pa_cons (pe_lamD (k := 9) (T := tabs P1 P2 P3 P4) (own := []) (t := fun E => tMeth C "value_at" (spVal C C3) [] E (tVar 1) (tCons (tVar 2) (tNil))) rfl S.g S.kp lk hcg hb scSaid rfl (Or.inl rfl) (said_gives (hr.mono (by decide)) N) (hr.mono (by decide)) (lm_by (N := NFA) (sc := defScope sFar) (by decide +kernel))
            (fun pins σ H s E Q I hT h => lm_make0 I TB rfl hmT huT hT (lm_by (N := NFA) (sc := defScope sFar) (by decide +kernel)) rfl (fun _ _ _ _ _ _ => rfl) h) (fun A outer s H E f c' hr2 => pe_meth (E := E) (pv 1) T.cl vm vG (hr2.mono (by decide)) vb .nil (passes_call (takes_of rfl rfl rfl rfl) fun _ _ _ _ z => z) (pa_cons (pv 2) pa_nil))) (pa_cons (pe_lamD (k := 9) (T := tabs P1 P2 P3 P4) (own := ["x"]) (t := fun E => tMeth C "count_of" (spCnt C C3) [] E (tVar 1) (tCons (tVar 0) (tNil))) rfl S.g S.kp lk hcg hb scSaid rfl (Or.inl rfl) (said_gives (hr.mono (by decide)) N) (hr.mono (by decide)) (lm_by (N := NFA) (sc := defScope sFar) (by decide +kernel))
            (fun pins σ H s E Q I hT h => lm_make1 I TB rfl hmT huT hT (lm_by (N := NFA) (sc := defScope sFar) (by decide +kernel)) rfl rfl (fun _ _ _ _ _ _ _ _ => ⟨_, rfl, rfl⟩) h) (fun A outer s H E f c' hr2 => pe_meth (E := E) (pv 1) T.cl cm cG (hr2.mono (by decide)) cb .nil (passes_call (takes_of rfl rfl rfl rfl) fun _ _ _ _ z => z) (pa_cons (pv 0) pa_nil))) pa_nil)))))
      (pss_cons (ps_expr (pe_bm PySem.F.plainAttrs_list PySem.F.slot_list_append PySem.F.type_list_append mt_append (pv 3) (pa_cons (pe_lamD (k := 9) (T := tabs P1 P2 P3 P4) (own := []) (t := fun E => tMeth C "slot_of" (spSlotOf C C1 C3) [] E (tVar 1) (tCons (tC (.int 5)) (tCons (tVar 0) (tNil)))) rfl S.g S.kp lk hcg hb scSaid rfl (Or.inl rfl) (said_gives (hr.mono (by decide)) N) (hr.mono (by decide)) (lm_by (N := NFA) (sc := defScope sFar) (by decide +kernel))
            (fun pins σ H s E Q I hT h => lm_make0 I TB rfl hmT huT hT (lm_by (N := NFA) (sc := defScope sFar) (by decide +kernel)) rfl (fun _ _ _ _ _ _ => rfl) h) (fun A outer s H E f c' hr2 => pe_meth (E := E) (pv 1) T.cl om oG (hr2.mono (by decide)) ob .nil (passes_call (takes_of rfl rfl rfl rfl) fun _ _ _ _ z => z) (pa_cons (pe_int) (pa_cons (pv 0) pa_nil)))) pa_nil)))
      (pss_one (ps_ret (pe_cmpR (op_eqD hu64) (pv 3) (pe_op op_cat (pe_op op_cat (pe_op op_rep (pe_lst (pa_cons (pe_tup (pa_cons pe_str (pa_cons (pv 0) pa_nil))) pa_nil)) pe_int) (pe_op op_rep (pe_lst (pa_cons (pe_tup (pa_cons pe_str (pa_cons (pe_op op_sub pe_int (pv 0)) pa_nil))) pa_nil)) pe_int)) (pe_lst (pa_cons (pe_tup (pa_cons pe_str pa_nil)) (pa_cons (pe_tup (pa_cons pe_str pa_nil)) (pa_cons (pe_lst (pa_cons (pv 0) pa_nil)) (pa_cons (pe_lst (pa_cons pe_int pa_nil)) (pa_cons (pe_lst (pa_cons (pv 2) pa_nil)) pa_nil))))))) (nomark _))))))))))), ?_⟩
    refine ⟨_, _, rfl, rfl, ⟨by decide, by decide, by decide⟩, _, _, rfl, rfl, ⟨by decide, by decide +kernel⟩, _, _, rfl, rfl, ⟨by decide, by decide +kernel⟩, ?_⟩
    obtain ⟨F0, hF, eF⟩ : ∃ F0 : Nat, 4294967296 ≤ F0 ∧ (((10 : Int) ^ (50 : Int).toNat) ^ (50 : Int).toNat) ^ (2 : Int).toNat = (F0 : Int) := ⟨((10 ^ 50) ^ 50) ^ 2, by decide +kernel, by decide +kernel⟩
    simp only [eF]
    refine fun p dx hp hdx hne => ?_
    refine ⟨p, dx, .int 8, rfl, upd_same, .int _, fun n' e' hn' l H3 tb kp hl => ⟨rfl, ?_⟩, fun e => (by rw [isSz_int (show (8 : Int) ∈ sizesI by decide)] at e; cases e)⟩
    cases e'
    have sm3 : Same H H3 := fun b o e => kp b o (ne_of_none e hp) (by
      rw [upd_ne (ne_of_none e hp)]
      exact same_new hdx _ _ e)
    have T3 := hT.ext sm3
    have tb : TabAt C H3 p l row0 := tb
    refine ⟨by show 2 ≤ sizeLine; decide, fun t0 ht0 => ⟨t0, _, rfl, SqT.of upd_same, rfl, _, _, rfl, _, _, rfl, rfl, ?_⟩⟩
    have y4 := same_new (o := .tup [.int (F0 : Int), .ref p]) ht0
    have T4 := T3.ext y4
    have tb4 := tb.same y4
    generalize upd H3 t0 (.tup [.int (F0 : Int), .ref p]) = H4 at y4 T4 tb4 ⊢
    obtain ⟨dx, hob⟩ := tb4.ob
    have a5 : asC (V.int 5) = some 5 := asC_nat (m := 5) (by decide)
    have hz0 : goodSize row0.length := by show (8 : Int) ∈ sizesI; decide
    -- place
    refine ⟨_, rfl, p, dx, _, rfl, hob, rfl, _, rfl, p, l, row0, .int 5, .int (F0 : Int), rfl, tb4, hz0, .int _, .int _, (fun e => by rw [a5] at e; cases e), (fun _ _ e => by rw [asN_nat] at e; cases e), fun cn n hcn hn => ⟨fun j fa => ?_, fun nf => ?_⟩⟩
    rotate_left
    · rw [a5] at hcn
      cases hcn
      exact (free_no free5 nf).elim
    rw [a5] at hcn
    rw [asN_nat] at hn
    cases hcn
    cases hn
    obtain rfl := free_uni free5 fa
    have t1 : TabAt C (upd H4 l (.lst ((row1 (F0 : Int)).map V.int))) p l (row1 (F0 : Int)) := by
      exact ⟨⟨dx, by rw [upd_ne (ne_of hob tb4.ls (by intro z; cases z))]; exact hob⟩, upd_same⟩
    have U5 := tabs_updL (o := .lst ((row1 (F0 : Int)).map V.int)) T4 tb4.ls
    have e0 : row0.set (sA row0.length 5 0) ((F0 : Nat) : Int) = row1 (F0 : Int) := rfl
    have e1 : sA row0.length 5 0 = 5 := rfl
    rw [e0, e1]
    generalize upd H4 l (.lst ((row1 (F0 : Int)).map V.int)) = H5 at t1 U5 ⊢
    obtain ⟨F, eFF⟩ : ∃ F : Int, F = (F0 : Int) := ⟨_, rfl⟩
    rw [← eFF] at t1 ⊢
    obtain ⟨dx, hob⟩ := t1.ob
    have obx : ∀ {H' : Hp}, ExtN H5 H' → H' p = some (.ins C dx [("_slots", .ref l)]) := fun e => e _ _ hob fun ps z => by cases z
    have hz1 : goodSize (row1 F).length := by show (8 : Int) ∈ sizesI; decide
    have c5 : asC (V.int 5) = none → False := fun e => by rw [a5] at e; cases e
    have sF : ∀ j, asS (row1 F).length (V.int F) = some j → False := fun j e => by
      obtain ⟨e1, e2⟩ := asS_some e
      have e1 := V.int.inj e1
      have e2 : j < 8 := e2
      omega
    have sG : ∀ j, asS (row1 F).length (V.int (0 - F)) = some j → False := fun j e => by
      obtain ⟨e1, e2⟩ := asS_some e
      have e1 := V.int.inj e1
      omega
    have gN : ∀ n, asN (V.int (0 - F)) = some n → False := fun n e => by
      have e1 := V.int.inj (asN_some e)
      omega
    have aF : ∀ n, asC (V.int F) = some n → False := fun n e => by
      obtain ⟨e1, e2⟩ := asC_some e
      have e1 := V.int.inj e1
      omega
    have zF : F ∈ sizesI → False := fun h => by
      have := sizes_pos h
      omega
    have s5 : asS (row1 F).length (V.int 5) = some 5 := asS_nat (j := 5) (by show 5 < 8; decide)
    have cF : (row1 F).count F = 1 := by
      unfold row1
      have n1 : ¬ (-1 : Int) = F := by omega
      simp [List.count_cons, n1]
    have nF : asN (V.int F) = none → False := fun e => by
      rw [eFF, asN_nat] at e
      cases e
    have sR : ∀ {c ix : Nat}, asC (V.int 5) = some c → asN (V.int F) = some ix → slotRes (row1 F) c ix = V.int 5 := fun hc hix => by
      rw [a5] at hc
      cases hc
      rw [slotRes_first (by
        rw [← V.int.inj (asN_some hix)]
        rfl)]
      rfl
    have x5 := ExtN.refl H5
    refine lam_x (yok := fun y => y = V.int F) (ans := [.str "entry", V.int F]) R3 h3 (fun y hy => by rw [hy]; exact Says.entry _) U5 (fun E H5 Q' e5 T5 out => ?_) fun p1 K6 g6 U6 e6 => ?_
    · have ee := x5.trans e5
      exact ⟨_, rfl, p, dx, _, rfl, obx ee, rfl, _, rfl, p, l, row1 F, .int F, rfl, t1.extN ee, .int _, (fun j y e => (sF j e).elim), fun _ d hd => out _ (fun _ _ z => z) d _ rfl hd⟩
    have x6 := x5.trans g6
    refine lam_x (yok := fun y => y = V.int F) (ans := [.str "entry", V.int F]) R3 h3 (fun y hy => by rw [hy]; exact Says.entry _) U6 (fun E H5 Q' e5 T5 out => ?_) fun p2 K7 g7 U7 e7 => ?_
    · have ee := x6.trans e5
      exact ⟨_, rfl, p, dx, _, rfl, obx ee, rfl, _, rfl, p, l, row1 F, .int F, rfl, t1.extN ee, .int _, (fun j y e => (sF j e).elim), fun _ d hd => out _ (fun _ _ z => z) d _ rfl hd⟩
    have x7 := x6.trans g7
    have r7 : Rw K7 [.ref p1, .ref p2] [.tuple [.str "entry", .int F], .tuple [.str "entry", .int F]] := .ent (g7 _ _ e6 fun ps z => by cases z) (.int _) (.ent e7 (.int _) .nil)
    refine ⟨by show 2 ≤ sizeLine; decide, fun f1 hf1 => ?_⟩
    have y8 := same_new (o := .lst [.ref p1, .ref p2]) hf1
    have ef8 : upd K7 f1 (.lst [.ref p1, .ref p2]) f1 = some (.lst [.ref p1, .ref p2]) := upd_same
    have r8 := r7.ext (ExtN.of y8)
    have U8 := U7.ext y8
    have x8 := x7.trans (ExtN.of y8)
    generalize upd K7 f1 (.lst [.ref p1, .ref p2]) = K8 at r8 U8 x8 ef8 ⊢
    refine ⟨_, rfl, lam_x (yok := fun y => y = V.int (0 - F)) (ans := [.str "entry", V.int (0 - F)]) R3 h3 (fun y hy => by rw [hy]; exact Says.entry _) U8 (fun E H5 Q' e5 T5 out => ?_) fun p3 K9 g9 U9 e9 => ?_⟩
    · have ee := x8.trans e5
      exact ⟨_, rfl, p, dx, _, rfl, obx ee, rfl, _, rfl, _, _, rfl, rfl, p, l, row1 F, .int (0 - F), rfl, t1.extN ee, .int _, (fun j y e => (sG j e).elim), fun _ d hd => out _ (fun _ _ z => z) d _ rfl hd⟩
    have x9 := x8.trans g9
    refine lam_x (yok := fun y => y = V.int (0 - F)) (ans := [.str "entry", V.int (0 - F)]) R3 h3 (fun y hy => by rw [hy]; exact Says.entry _) U9 (fun E H5 Q' e5 T5 out => ?_) fun p4 K10 g10 U10 e10 => ?_
    · have ee := x9.trans e5
      exact ⟨_, rfl, p, dx, _, rfl, obx ee, rfl, _, rfl, _, _, rfl, rfl, p, l, row1 F, .int 5, .int (0 - F), rfl, t1.extN ee, hz1, .int _, .int _, (fun e => (c5 e).elim), (fun cn e _ d hd => out _ (fun _ _ z => z) d _ rfl hd), fun cn n _ e => (gN n e).elim⟩
    have x10 := x9.trans g10
    have r10 : Rw K10 [.ref p3, .ref p4] [.tuple [.str "entry", .int (0 - F)], .tuple [.str "entry", .int (0 - F)]] := (.ent (g10 _ _ e9 fun ps z => by cases z) (.int _) (.ent e10 (.int _) .nil))
    have q10 := r8.ext (g9.trans g10)
    have ef10 := (g9.trans g10) _ _ ef8 fun ps z => by cases z
    refine ⟨by show 2 ≤ sizeLine; decide, fun h11 hh11 => ⟨f1, h11, _, _, rfl, rfl, same_new hh11 _ _ ef10, upd_same, by show 4 ≤ sizeLine; decide, fun f11 hf11 => ?_⟩⟩
    have y11 := (same_new (o := .lst [.ref p3, .ref p4]) hh11).trans (same_new (o := .lst ([.ref p1, .ref p2] ++ [.ref p3, .ref p4])) hf11)
    have ef11 : upd (upd K10 h11 (.lst [.ref p3, .ref p4])) f11 (.lst ([.ref p1, .ref p2] ++ [.ref p3, .ref p4])) f11 = some (.lst ([.ref p1, .ref p2, .ref p3, .ref p4])) := upd_same
    have r11 := (q10.app r10).ext (ExtN.of y11)
    have U11 := U10.ext y11
    have x11 := x10.trans (ExtN.of y11)
    generalize upd (upd K10 h11 (.lst [.ref p3, .ref p4])) f11 (.lst ([.ref p1, .ref p2] ++ [.ref p3, .ref p4])) = K11 at r11 U11 x11 ef11 ⊢
    refine ⟨_, rfl, lam_x (yok := fun y => y = V.int (0 - F)) (ans := [.str "entry", V.int (0 - F)]) R3 h3 (fun y hy => by rw [hy]; exact Says.entry _) U11 (fun E H5 Q' e5 T5 out => ?_) fun p5 K12 g12 U12 e12 => ?_⟩
    · have ee := x11.trans e5
      exact ⟨_, rfl, p, dx, _, rfl, obx ee, rfl, _, rfl, _, _, rfl, rfl, p, l, row1 F, .int 5, .int (0 - F), rfl, t1.extN ee, hz1, .int _, .int _, (fun e => (c5 e).elim), (fun cn e _ d hd => out _ (fun _ _ z => z) d _ rfl hd), fun cn n _ e => (gN n e).elim⟩
    have x12 := x11.trans g12
    refine lam_x (yok := fun y => y = V.int (0 - F)) (ans := [.str "entry", V.int (0 - F)]) R3 h3 (fun y hy => by rw [hy]; exact Says.entry _) U12 (fun E H5 Q' e5 T5 out => ?_) fun p6 K13 g13 U13 e13 => ?_
    · have ee := x12.trans e5
      exact ⟨_, rfl, p, dx, _, rfl, obx ee, rfl, _, rfl, _, _, rfl, rfl, p, l, row1 F, .int (0 - F), rfl, t1.extN ee, .int _, (fun n e h => by cases e; omega), fun _ d hd => out _ (fun _ _ z => z) d _ rfl hd⟩
    have x13 := x12.trans g13
    have r13 : Rw K13 [.ref p5, .ref p6] [.tuple [.str "entry", .int (0 - F)], .tuple [.str "entry", .int (0 - F)]] := (.ent (g13 _ _ e12 fun ps z => by cases z) (.int _) (.ent e13 (.int _) .nil))
    have q13 := r11.ext (g12.trans g13)
    have ef13 := (g12.trans g13) _ _ ef11 fun ps z => by cases z
    refine ⟨by show 2 ≤ sizeLine; decide, fun h14 hh14 => ⟨f11, h14, _, _, rfl, rfl, same_new hh14 _ _ ef13, upd_same, by show 6 ≤ sizeLine; decide, fun f14 hf14 => ?_⟩⟩
    have y14 := (same_new (o := .lst [.ref p5, .ref p6]) hh14).trans (same_new (o := .lst ([.ref p1, .ref p2, .ref p3, .ref p4] ++ [.ref p5, .ref p6])) hf14)
    have ef14 : upd (upd K13 h14 (.lst [.ref p5, .ref p6])) f14 (.lst ([.ref p1, .ref p2, .ref p3, .ref p4] ++ [.ref p5, .ref p6])) f14 = some (.lst ([.ref p1, .ref p2, .ref p3, .ref p4, .ref p5, .ref p6])) := upd_same
    have r14 := (q13.app r13).ext (ExtN.of y14)
    have U14 := U13.ext y14
    have x14 := x13.trans (ExtN.of y14)
    generalize upd (upd K13 h14 (.lst [.ref p5, .ref p6])) f14 (.lst ([.ref p1, .ref p2, .ref p3, .ref p4] ++ [.ref p5, .ref p6])) = K14 at r14 U14 x14 ef14 ⊢
    refine ⟨_, rfl, lam_x (yok := fun _ => True) R1 h1 (fun y _ => Says.code _ y) U14 (fun E H5 Q' e5 T5 out => ?_) fun p7 K15 g15 U15 e15 => ?_⟩
    · have ee := x14.trans e5
      exact ⟨_, rfl, p, dx, _, rfl, obx ee, rfl, _, rfl, p, l, row1 F, .int F, .int 0, rfl, t1.extN ee, hz1, .int _, .int _, (fun _ d y hd => out _ (fun _ _ z => z) d y trivial hd), (fun cn e => (aF cn e).elim), fun cn n e => (aF cn e).elim⟩
    have x15 := x14.trans g15
    refine lam_x (yok := fun _ => True) R2 h2 (fun y _ => Says.size _ y) U15 (fun E H5 Q' e5 T5 out => ?_) fun p8 K16 g16 U16 e16 => ?_
    · have ee := x15.trans e5
      exact ⟨_, rfl, fun p2 dx2 hp2 hdx2 hne2 => ⟨p2, dx2, .int F, rfl, upd_same, .int _, (fun n' e' hn' => by cases e'; exact (zF hn').elim), fun _ d y hd => out _ ((same_new hdx2).trans (same_new (by rw [upd_ne hne2.symm]; exact hp2))) d y trivial hd⟩⟩
    have x16 := x15.trans g16
    have r16 : Rw K16 [.ref p7, .ref p8] [.tuple [.str "code"], .tuple [.str "size"]] := (.word (g16 _ _ e15 fun ps z => by cases z) (.word e16 .nil))
    have q16 := r14.ext (g15.trans g16)
    have ef16 := (g15.trans g16) _ _ ef14 fun ps z => by cases z
    refine ⟨by show 2 ≤ sizeLine; decide, fun h17 hh17 => ⟨f14, h17, _, _, rfl, rfl, same_new hh17 _ _ ef16, upd_same, by show 8 ≤ sizeLine; decide, fun f17 hf17 => ?_⟩⟩
    have y17 := (same_new (o := .lst [.ref p7, .ref p8]) hh17).trans (same_new (o := .lst ([.ref p1, .ref p2, .ref p3, .ref p4, .ref p5, .ref p6] ++ [.ref p7, .ref p8])) hf17)
    have ef17 : upd (upd K16 h17 (.lst [.ref p7, .ref p8])) f17 (.lst ([.ref p1, .ref p2, .ref p3, .ref p4, .ref p5, .ref p6] ++ [.ref p7, .ref p8])) f17 = some (.lst ([.ref p1, .ref p2, .ref p3, .ref p4, .ref p5, .ref p6, .ref p7, .ref p8])) := upd_same
    have r17 := (q16.app r16).ext (ExtN.of y17)
    have U17 := U16.ext y17
    have x17 := x16.trans (ExtN.of y17)
    generalize upd (upd K16 h17 (.lst [.ref p7, .ref p8])) f17 (.lst ([.ref p1, .ref p2, .ref p3, .ref p4, .ref p5, .ref p6] ++ [.ref p7, .ref p8])) = K17 at r17 U17 x17 ef17 ⊢
    refine ⟨_, rfl, lam_ok (v := V.int F) U17 (fun E H5 Q' e5 q => ?_) fun p9 K18 g18 U18 e18 => ?_⟩
    · have ee := x17.trans e5
      exact ⟨_, rfl, p, dx, _, rfl, obx ee, rfl, _, rfl, p, l, row1 F, .int 5, rfl, t1.extN ee, .int _, (fun j y hj hy => by rw [s5] at hj; cases hj; cases hy; exact q _ (fun _ _ z => z)), fun e => by rw [s5] at e; cases e⟩
    have x18 := x17.trans g18
    refine lam_ok (v := V.int 1) U18 (fun E H5 Q' e5 q => ?_) fun p10 K19 g19 U19 e19 => ?_
    · have ee := x18.trans e5
      exact ⟨_, rfl, p, dx, _, rfl, obx ee, rfl, _, rfl, p, l, row1 F, .int F, rfl, t1.extN ee, .int _, (fun n e _ => by cases e; rw [cF]; exact q _ (fun _ _ z => z)), fun bad => absurd (bad F rfl) (by omega)⟩
    have x19 := x18.trans g19
    have r19 : Rw K19 [.ref p9, .ref p10] [.list [.int F], .list [.int 1]] := (.one (g19 _ _ e18 fun ps z => by cases z) (.int _) (.one e19 (.int _) .nil))
    have q19 := r17.ext (g18.trans g19)
    have ef19 := (g18.trans g19) _ _ ef17 fun ps z => by cases z
    refine ⟨by show 2 ≤ sizeLine; decide, fun h20 hh20 => ⟨f17, h20, _, _, rfl, rfl, same_new hh20 _ _ ef19, upd_same, by show 10 ≤ sizeLine; decide, fun f20 hf20 => ?_⟩⟩
    have y20 := (same_new (o := .lst [.ref p9, .ref p10]) hh20).trans (same_new (o := .lst ([.ref p1, .ref p2, .ref p3, .ref p4, .ref p5, .ref p6, .ref p7, .ref p8] ++ [.ref p9, .ref p10])) hf20)
    have ef20 : upd (upd K19 h20 (.lst [.ref p9, .ref p10])) f20 (.lst ([.ref p1, .ref p2, .ref p3, .ref p4, .ref p5, .ref p6, .ref p7, .ref p8] ++ [.ref p9, .ref p10])) f20 = some (.lst ([.ref p1, .ref p2, .ref p3, .ref p4, .ref p5, .ref p6, .ref p7, .ref p8, .ref p9, .ref p10])) := upd_same
    have r20 := (q19.app r19).ext (ExtN.of y20)
    have U20 := U19.ext y20
    have x20 := x19.trans (ExtN.of y20)
    generalize upd (upd K19 h20 (.lst [.ref p9, .ref p10])) f20 (.lst ([.ref p1, .ref p2, .ref p3, .ref p4, .ref p5, .ref p6, .ref p7, .ref p8] ++ [.ref p9, .ref p10])) = K20 at r20 U20 x20 ef20 ⊢
    have r20 : Rw K20 [.ref p1, .ref p2, .ref p3, .ref p4, .ref p5, .ref p6, .ref p7, .ref p8, .ref p9, .ref p10] [.tuple [.str "entry", .int F], .tuple [.str "entry", .int F], .tuple [.str "entry", .int (0 - F)], .tuple [.str "entry", .int (0 - F)], .tuple [.str "entry", .int (0 - F)], .tuple [.str "entry", .int (0 - F)], .tuple [.str "code"], .tuple [.str "size"], .list [.int F], .list [.int 1]] := r20
    refine ⟨_, rfl, .inl ⟨rfl, _, SqL.of ef20⟩, lam_ok (v := V.int 5) U20 (fun E H5 Q' e5 q => ?_) fun p11 K21 g21 U21 e21 => ?_⟩
    · have ee := x20.trans e5
      exact ⟨_, rfl, p, dx, _, rfl, obx ee, rfl, _, rfl, p, l, row1 F, .int 5, .int F, rfl, t1.extN ee, hz1, .int _, .int _, (fun e => (c5 e).elim), (fun cn _ e => (nF e).elim), fun cn ix hcn hix t2 ht2 => by rw [sR hcn hix]; exact q _ (same_new ht2)⟩
    have x21 := x20.trans g21
    have ef21 := g21 _ _ ef20 fun ps z => by cases z
    refine ⟨f20, _, _, rfl, rfl, ef21, by show 10 < sizeLine; decide, ?_⟩
    have rA : Rw (upd K21 f20 (.lst ([.ref p1, .ref p2, .ref p3, .ref p4, .ref p5, .ref p6, .ref p7, .ref p8, .ref p9, .ref p10] ++ [.ref p11]))) ([.ref p1, .ref p2, .ref p3, .ref p4, .ref p5, .ref p6, .ref p7, .ref p8, .ref p9, .ref p10] ++ [.ref p11]) ([.tuple [.str "entry", .int F], .tuple [.str "entry", .int F], .tuple [.str "entry", .int (0 - F)], .tuple [.str "entry", .int (0 - F)], .tuple [.str "entry", .int (0 - F)], .tuple [.str "entry", .int (0 - F)], .tuple [.str "code"], .tuple [.str "size"], .list [.int F], .list [.int 1]] ++ [.list [.int 5]]) := ((r20.ext g21).updL ef21).app (.one (by rw [upd_ne (ne_of e21 ef21 (by intro z; cases z))]; exact e21) (.int _) .nil)
    have eA : upd K21 f20 (.lst ([.ref p1, .ref p2, .ref p3, .ref p4, .ref p5, .ref p6, .ref p7, .ref p8, .ref p9, .ref p10] ++ [.ref p11])) f20 = some (.lst ([.ref p1, .ref p2, .ref p3, .ref p4, .ref p5, .ref p6, .ref p7, .ref p8, .ref p9, .ref p10] ++ [.ref p11])) := upd_same
    generalize upd K21 f20 (.lst ([.ref p1, .ref p2, .ref p3, .ref p4, .ref p5, .ref p6, .ref p7, .ref p8, .ref p9, .ref p10] ++ [.ref p11])) = HA at rA eA ⊢
    refine ⟨_, rfl, _, rfl, by show 2 ≤ sizeLine; decide, fun q1 hq1 => ⟨by show 1 ≤ sizeLine; decide, fun l1 hl1 => ⟨l1, 2, _, rfl, rfl, upd_same, by decide, by decide, by show 2 ≤ sizeLine; decide, fun l2 hl2 => ?_⟩⟩⟩
    have v1 := same_new (o := .tup [.str "entry", .int F]) hq1
    have v2 := same_new (o := .lst [.ref q1]) hl1
    have v3 := same_new (o := .lst [.ref q1, .ref q1]) hl2
    have c1 := v3 _ _ (v2 _ _ (upd_same (H := HA) (a := q1) (o := .tup [.str "entry", .int F])))
    have rB : Rw (upd (upd (upd HA q1 (.tup [.str "entry", .int F])) l1 (.lst [.ref q1])) l2 (.lst [.ref q1, .ref q1])) [.ref q1, .ref q1] [.tuple [.str "entry", .int F], .tuple [.str "entry", .int F]] := .ent c1 (.int _) (.ent c1 (.int _) .nil)
    have eB : upd (upd (upd HA q1 (.tup [.str "entry", .int F])) l1 (.lst [.ref q1])) l2 (.lst [.ref q1, .ref q1]) l2 = some (.lst [.ref q1, .ref q1]) := upd_same
    have vA := v1.trans (v2.trans v3)
    have rA1 := rA.ext (ExtN.of vA)
    have eA1 := vA _ _ eA
    rw [show (List.replicate (Int.toNat 2) [V.ref q1]).flatten = [V.ref q1, V.ref q1] from rfl]
    generalize upd (upd (upd HA q1 (.tup [.str "entry", .int F])) l1 (.lst [.ref q1])) l2 (.lst [.ref q1, .ref q1]) = HB at rB eB rA1 eA1 ⊢
    refine ⟨_, rfl, _, _, rfl, rfl, by show 2 ≤ sizeLine; decide, fun q2 hq2 => ⟨by show 1 ≤ sizeLine; decide, fun l3 hl3 => ⟨l3, 4, _, rfl, rfl, upd_same, by decide, by decide, by show 4 ≤ sizeLine; decide, fun l4 hl4 => ?_⟩⟩⟩
    have w1 := same_new (o := .tup [.str "entry", .int (0 - F)]) hq2
    have w2 := same_new (o := .lst [.ref q2]) hl3
    have w3 := same_new (o := .lst [.ref q2, .ref q2, .ref q2, .ref q2]) hl4
    have c2 := w3 _ _ (w2 _ _ (upd_same (H := HB) (a := q2) (o := .tup [.str "entry", .int (0 - F)])))
    have rC : Rw (upd (upd (upd HB q2 (.tup [.str "entry", .int (0 - F)])) l3 (.lst [.ref q2])) l4 (.lst [.ref q2, .ref q2, .ref q2, .ref q2])) [.ref q2, .ref q2, .ref q2, .ref q2] [.tuple [.str "entry", .int (0 - F)], .tuple [.str "entry", .int (0 - F)], .tuple [.str "entry", .int (0 - F)], .tuple [.str "entry", .int (0 - F)]] := .ent c2 (.int _) (.ent c2 (.int _) (.ent c2 (.int _) (.ent c2 (.int _) .nil)))
    have eC : upd (upd (upd HB q2 (.tup [.str "entry", .int (0 - F)])) l3 (.lst [.ref q2])) l4 (.lst [.ref q2, .ref q2, .ref q2, .ref q2]) l4 = some (.lst [.ref q2, .ref q2, .ref q2, .ref q2]) := upd_same
    have vB := w1.trans (w2.trans w3)
    have rA2 := rA1.ext (ExtN.of vB)
    have eA2 := vB _ _ eA1
    have rB2 := rB.ext (ExtN.of vB)
    have eB2 := vB _ _ eB
    rw [show (List.replicate (Int.toNat 4) [V.ref q2]).flatten = [V.ref q2, V.ref q2, V.ref q2, V.ref q2] from rfl]
    generalize upd (upd (upd HB q2 (.tup [.str "entry", .int (0 - F)])) l3 (.lst [.ref q2])) l4 (.lst [.ref q2, .ref q2, .ref q2, .ref q2]) = HC at rC eC rA2 eA2 rB2 eB2 ⊢
    refine ⟨l2, l4, _, _, rfl, rfl, eB2, eC, by show 6 ≤ sizeLine; decide, fun l5 hl5 => ?_⟩
    have y5 := same_new (o := .lst ([.ref q1, .ref q1] ++ [.ref q2, .ref q2, .ref q2, .ref q2])) hl5
    have rD := (rB2.app rC).ext (ExtN.of y5)
    have eD : upd HC l5 (.lst ([.ref q1, .ref q1] ++ [.ref q2, .ref q2, .ref q2, .ref q2])) l5 = some (.lst [.ref q1, .ref q1, .ref q2, .ref q2, .ref q2, .ref q2]) := upd_same
    have rA3 := rA2.ext (ExtN.of y5)
    have eA3 := y5 _ _ eA2
    generalize upd HC l5 (.lst ([.ref q1, .ref q1] ++ [.ref q2, .ref q2, .ref q2, .ref q2])) = HD at rD eD rA3 eA3 ⊢
    refine ⟨by show 1 ≤ sizeLine; decide, fun g1 hg1 => ⟨by show 1 ≤ sizeLine; decide, fun g2 hg2 => ⟨_, rfl, by show 1 ≤ sizeLine; decide, fun a1 ha1 => ⟨by show 1 ≤ sizeLine; decide, fun a2 ha2 => ⟨_, rfl, by show 1 ≤ sizeLine; decide, fun a3 ha3 => ⟨by show 5 ≤ sizeLine; decide, fun l6 hl6 => ?_⟩⟩⟩⟩⟩⟩
    have z1 := same_new (o := .tup [.str "code"]) hg1
    have z2 := same_new (o := .tup [.str "size"]) hg2
    have z3 := same_new (o := .lst [.int F]) ha1
    have z4 := same_new (o := .lst [.int 1]) ha2
    have z5 := same_new (o := .lst [.int 5]) ha3
    have z6 := same_new (o := .lst [.ref g1, .ref g2, .ref a1, .ref a2, .ref a3]) hl6
    have f1 := z6 _ _ (z5 _ _ (z4 _ _ (z3 _ _ (z2 _ _ (upd_same (H := HD) (a := g1) (o := .tup [.str "code"]))))))
    have f2 := z6 _ _ (z5 _ _ (z4 _ _ (z3 _ _ (upd_same (H := upd HD g1 (.tup [.str "code"])) (a := g2) (o := .tup [.str "size"])))))
    have f3 := z6 _ _ (z5 _ _ (z4 _ _ (upd_same (H := upd (upd HD g1 (.tup [.str "code"])) g2 (.tup [.str "size"])) (a := a1) (o := .lst [.int F]))))
    have f4 := z6 _ _ (z5 _ _ (upd_same (H := upd (upd (upd HD g1 (.tup [.str "code"])) g2 (.tup [.str "size"])) a1 (.lst [.int F])) (a := a2) (o := .lst [.int 1])))
    have f5 := z6 _ _ (upd_same (H := upd (upd (upd (upd HD g1 (.tup [.str "code"])) g2 (.tup [.str "size"])) a1 (.lst [.int F])) a2 (.lst [.int 1])) (a := a3) (o := .lst [.int 5]))
    have f6 := upd_same (H := upd (upd (upd (upd (upd HD g1 (.tup [.str "code"])) g2 (.tup [.str "size"])) a1 (.lst [.int F])) a2 (.lst [.int 1])) a3 (.lst [.int 5])) (a := l6) (o := .lst [.ref g1, .ref g2, .ref a1, .ref a2, .ref a3])
    have vD := z1.trans (z2.trans (z3.trans (z4.trans (z5.trans z6))))
    have rD2 := rD.ext (ExtN.of vD)
    have eD2 := vD _ _ eD
    have rA4 := rA3.ext (ExtN.of vD)
    have eA4 := vD _ _ eA3
    generalize upd (upd (upd (upd (upd (upd HD g1 (.tup [.str "code"])) g2 (.tup [.str "size"])) a1 (.lst [.int F])) a2 (.lst [.int 1])) a3 (.lst [.int 5])) l6 (.lst [.ref g1, .ref g2, .ref a1, .ref a2, .ref a3]) = HE at f1 f2 f3 f4 f5 f6 rD2 eD2 rA4 eA4 ⊢
    have rE : Rw HE [.ref g1, .ref g2, .ref a1, .ref a2, .ref a3] [.tuple [.str "code"], .tuple [.str "size"], .list [.int F], .list [.int 1], .list [.int 5]] := .word f1 (.word f2 (.one f3 (.int _) (.one f4 (.int _) (.one f5 (.int _) .nil))))
    refine ⟨l5, l6, _, _, rfl, rfl, eD2, f6, by show 11 ≤ sizeLine; decide, fun l7 hl7 => ?_⟩
    have y7 := same_new (o := .lst ([.ref q1, .ref q1, .ref q2, .ref q2, .ref q2, .ref q2] ++ [.ref g1, .ref g2, .ref a1, .ref a2, .ref a3])) hl7
    have rF := (rD2.app rE).ext (ExtN.of y7)
    have rA5 := rA4.ext (ExtN.of y7)
    have eA5 := y7 _ _ eA4
    refine ⟨.list (farD F), .list (farD F), .lst (SqL.of eA5) rA5.dp, .lst (SqL.of upd_same) rF.dp, far_shape F, far_shape F, ?_⟩
    rw [far_eqv F]
    exact k _
end
end K16
set_option Elab.async false
set_option linter.all false
set_option maxRecDepth 100000
set_option maxHeartbeats 4000000
namespace K16
open PySem L2 Xo Lm LamX
/-- the law's state: the draw and a table -/
structure Wt (TS : List (Addr × Str)) (C d g p l : Addr) (H : Hp) (xs : List Int) : Prop where
  de : DrawE H d g
  tb : TabAt C H p l xs
  ng : l ≠ g
  hz : goodSize xs.length
  ts : Tabs TS H
theorem Wt.ext {TS : List (Addr × Str)} {C d g p l : Addr} {H H' : Hp} {xs : List Int} (W : Wt TS C d g p l H xs) (s : ExtN H H') (t : Tabs TS H') : Wt TS C d g p l H' xs := ⟨W.de.ext s, W.tb.extN s, W.ng, W.hz, t⟩
theorem Wt.same {TS : List (Addr × Str)} {C d g p l : Addr} {H H' : Hp} {xs : List Int} (W : Wt TS C d g p l H xs) (s : Same H H') : Wt TS C d g p l H' xs := W.ext (ExtN.of s) (W.ts.ext s)
/-- a bad argument with what is shown of it -/
structure Bad (H : Hp) (v : V) (dn : PyData) : Prop where
  nd : Nd H v dn
  sh : Rp.Sh 500 1 dn
theorem Bad.ext {H H' : Hp} {v : V} {dn : PyData} (b : Bad H v dn) (e : ExtN H H') : Bad H' v dn := ⟨b.nd.ext e, b.sh⟩
def big : Int := (10 : Int) ^ (30 : Int).toNat
/-- what stands when the table has been filled -/
structure S6 (TS : List (Addr × Str)) (C d g p l tk : Addr) (H : Hp) (xs : List Int) (n : Nat) (vw vn vs vg vo : V) (dn ds dg : PyData) : Prop where
  W : Wt TS C d g p l H xs
  tk : H tk = some (.tup (xs.map V.int))
  oo : Odd H vo
  ow : Odd H vw
  bn : Bad H vn dn
  bs : Bad H vs ds
  bg : Bad H vg dg
theorem S6.ext {TS : List (Addr × Str)} {C d g p l tk : Addr} {H H' : Hp} {xs : List Int} {n : Nat} {vw vn vs vg vo : V} {dn ds dg : PyData} (S : S6 TS C d g p l tk H xs n vw vn vs vg vo dn ds dg) (e : ExtN H H') (t : Tabs TS H') : S6 TS C d g p l tk H' xs n vw vn vs vg vo dn ds dg :=
  ⟨S.W.ext e t, e _ _ S.tk (fun ps z => by cases z), S.oo.ext e, S.ow.ext e, S.bn.ext e, S.bs.ext e, S.bg.ext e⟩
theorem S6.same {TS : List (Addr × Str)} {C d g p l tk : Addr} {H H' : Hp} {xs : List Int} {n : Nat} {vw vn vs vg vo : V} {dn ds dg : PyData} (S : S6 TS C d g p l tk H xs n vw vn vs vg vo dn ds dg) (e : Same H H') : S6 TS C d g p l tk H' xs n vw vn vs vg vo dn ds dg := S.ext (ExtN.of e) (S.W.ts.ext e)
theorem eqI : ∀ xs : List Int, PyData.eqvAll (xs.map PyData.int) (xs.map PyData.int) = true
  | [] => by simp [PyData.eqvAll]
  | x :: xs => by
    rw [List.map_cons, PyData.eqvAll, PyData.eqv, eqI xs]
    simp
theorem shapeT (xs : List Int) : SeqAt.shaped (.tuple (xs.map PyData.int)) = true := by
  unfold SeqAt.shaped
  rw [PyData.canLay0, can_ints, PyData.depth, depth_ints]
  rfl
def forBody (s : Stmt) : List Stmt := match s with
  | .For _ _ b _ _ => b
  | _ => []
def bLaw : List Stmt := forBody ((defBody sLaw).getD 1 (.Pass ⟨0, 0, 0, 0⟩))
theorem sh2 (z : Int) : SeqAt.shaped (.tuple [.str "entry", .int z]) = true := by
  unfold SeqAt.shaped
  simp [PyData.canLay0, PyData.canLayAll0, PyData.depth, PyData.depthAll]
  decide +kernel
theorem eq2 (z : Int) : PyData.eqv (.tuple [.str "entry", .int z]) (.tuple [.str "entry", .int z]) = true := by simp [PyData.eqv, PyData.eqvAll]
abbrev NL : List Str := ["script", "draw", "turn", "wide", "second", "kept", "wrong", "number", "spot", "found", "first", "given", "odd", "table"]
theorem scLaw : FnScope NL ["script"] (defScope sLaw) := ⟨rfl, rfl, rfl, by decide +kernel, rfl, by decide +kernel, by decide +kernel⟩
section
variable {P : Program} {w : World} {K : PySem.W.Frag} {mg : Str → Option Value} {base : Heap}
theorem ok_lt {f cA P1 P2 P3 P4 gs fc1 cA1 fc2 cA2 fv fe fo fc f0 ft C C1 C2 C3 C4 Tt Aa Ff o1 o2 o3 o4 o5 o6 o7 o8 o9 pz gz : Addr} {fd1 fd2 fdv fde fdo fdc fd0 fdt : FuncData} (B : Bl mg) (T : TT K mg C pz gz) (S : Ds K mg gs) (N : Nm mg C1 C2 C3 C4 Tt Aa Ff o1 o2 o3 o4 o5 o6 o7 o8 o9)
    (D1 : Dc K mg "_law_codes_right" sCodes ["table", "wrong", "number"] fc1 cA1 fd1) (G1 : Gd.FnG P w K mg base 12 fc1 fd1 ["table", "wrong", "number"] (spCodes C P1 P2 P3 P4)) (D2 : Dc K mg "_law_slots_right" sSlots ["table", "spot"] fc2 cA2 fd2) (G2 : Gd.FnG P w K mg base 12 fc2 fd2 ["table", "spot"] (spSlots C P1 P2 P3 P4))
    (vm : Meth K C "value_at" fv) (vb : Binds K fdv ["self", "slot"] []) (vG : FnOk P w K mg base (L2.CX P w) 4 fv fdv ["self", "slot"] (spVal C C3)) (em : Meth K C "erase" fe) (eb : Binds K fde ["self", "slot"] []) (eG : FnOk P w K mg base (L2.CX P w) 5 fe fde ["self", "slot"] (spErase C C3))
    (om : Meth K C "slot_of" fo) (ok : KBn K fdo ["self", "code", "index"] 1 ["index", "code"] (fun us ws => us ++ ws.reverse) (fun vs zs => vs ++ zs.reverse)) (oG : FnOk P w K mg base (L2.CX P w) 8 fo fdo ["self", "code", "index"] (spSlotOf C C1 C3))
    (cm : Meth K C "count_of" fc) (cb : Binds K fdc ["self", "value"] []) (ck : KBn K fdc ["self", "value"] 1 ["value"] (fun us ws => us ++ ws) (fun vs zs => vs ++ zs)) (cG : FnOk P w K mg base (L2.CX P w) 3 fc fdc ["self", "value"] (spCnt C C3)) (M : Mk K C f0) (b0 : Binds K fd0 ["self", "size"] []) (G0 : FnOk P w K mg base (L2.CX P w) 4 f0 fd0 ["self", "size"] (spInit C C2))
    (m3 : Meth K C "as_tuple" ft) (b3 : Binds K fdt ["self"] []) (G3 : FnOk P w K mg base CX0 1 ft fdt ["self"] (spTup C))
    (TB : TabB base mg cA P4) (n1 : P1 ≠ P4) (n2 : P2 ≠ P4) (n3 : P3 ≠ P4)
    (R2 : Row K C2 C1 C2 C3 C4 Tt Aa Ff [o1, o2, o3, o4, o5, o6, o7, o8, o9] false true false false true false false) (h2 : PySem.W.findIn K (.ref C2) "reason" = some none)
    (R3 : Row K C3 C1 C2 C3 C4 Tt Aa Ff [o1, o2, o3, o4, o5, o6, o7, o8, o9] false false true false false true false) (h3 : PySem.W.findIn K (.ref C3) "index" = some none) {A : Around} {outer : List Env} {s : Shared} {H0 : Hp} {E0 : L2.XK}
    (hr : Room 12 (A.deeper (PyProof.Rows.envOfC "law" (defScope sLaw) s.heap.objs.size f (.ref cA)))) (hgd : (A.deeper (PyProof.Rows.envOfC "law" (defScope sLaw) s.heap.objs.size f (.ref cA))).guards = some []) :
    ∃ t, PSs (cxOf C8.CX0 P w K mg base NL "law" (defScope sLaw) f (.ref cA) A outer s H0 E0).nox (bLaw.drop 10) t ∧ ∀ D a d g p l tk (n : Nat) vt vwide vw vn vs vg vo dn ds dg v9 H xs, S6 (tabs P1 P2 P3 P4) C d g p l tk H xs n vw vn vs vg vo dn ds dg → xs.length = n →
      isSz vo = false → asC vw = none → asN vn = none → asS n vs = none → (∀ m, vg = .int m → m < -2) → xs[n - 1]? = some (-2) → xs[0]? = some big → xs.count big = 1 →
      (∀ H' v9', Wt (tabs P1 P2 P3 P4) C d g p l H' xs → D.nx [some (.ref a), some (.ref d), vt, vwide, some (.int ((0 : Nat) : Int)), some (.ref tk), some vw, some vn, some vs, v9', some (.int ((n - 1 : Nat) : Int)), some vg, some vo, some (.ref p)] H') →
      t D [some (.ref a), some (.ref d), vt, vwide, some (.int ((0 : Nat) : Int)), some (.ref tk), some vw, some vn, some vs, v9, some (.int ((n - 1 : Nat) : Int)), some vg, some vo, some (.ref p)] H := by
  obtain ⟨oc, od, dV, kV, doc, pmm, an, cdv, ct, osl, lk, hcg, hb⟩ := S.ex
  have hu64 := hr.units
  have hmT : (P4, qOf "law") ∈ tabs P1 P2 P3 P4 := by
    unfold tabs
    simp
  have huT : ∀ p ∈ tabs P1 P2 P3 P4, p.1 = P4 → p.2 = qOf "law" := fun p hp e => by
    rcases List.mem_cons.mp hp with rfl | hp
    · exact absurd e n1
    · rcases List.mem_cons.mp hp with rfl | hp
      · exact absurd e n2
      · rcases List.mem_cons.mp hp with rfl | hp
        · exact absurd e n3
        · rw [List.mem_singleton.mp hp] at e ⊢
          skip
  refine ⟨_, pss_cons (ps_if (PW.pt (pw_or (pt_cmpR (op_neD hu64) (pe_lamD (k := 9) (T := tabs P1 P2 P3 P4) (own := []) (t := fun E => tMake C (spInit C C2) [] E (tCons (tVar 12) tNil)) rfl S.g S.kp lk hcg hb scSaid rfl (Or.inl rfl) (said_gives (hr.mono (by decide)) N) (hr.mono (by decide)) (lm_by (N := NL) (sc := defScope sLaw) (by decide +kernel))
            (fun pins σ H s E Q I hT h => lm_make0 I TB rfl hmT huT hT (lm_by (N := NL) (sc := defScope sLaw) (by decide +kernel)) rfl (fun _ _ _ _ _ _ => rfl) h) (fun A outer s H E f c' hr2 => pe_make (E := E) M G0 (hr2.mono (by decide)) rfl T.mgC b0 .nil (passes_call (takes_of rfl rfl rfl rfl) fun _ _ _ _ z => z) (pa_cons (pv 12) pa_nil))) (pe_tup (pa_cons pe_str pa_nil)) (nomark _)) (pw_or1 (pt_not (pt_val (Gd.pe_callG G1 (hr.mono (by decide)) hgd rfl D1.g D1.kp D1.b (pa_cons (pv 13) (pa_cons (pv 6) (pa_cons (pv 7) pa_nil))))))))) (pss_one (ps_ret pe_bl)) pss_nil)
    (pss_cons (ps_if (PW.pt (pw_or (pt_not (pt_val (Gd.pe_callG G2 (hr.mono (by decide)) hgd rfl D2.g D2.kp D2.b (pa_cons (pv 13) (pa_cons (pv 8) pa_nil))))) (pw_or1 (pt_cmpR (op_neD hu64) (pe_lamD (k := 9) (T := tabs P1 P2 P3 P4) (own := []) (t := fun E => tMeth C "erase" (spErase C C3) [] E (tVar 13) (tCons (tVar 10) (tNil))) rfl S.g S.kp lk hcg hb scSaid rfl (Or.inl rfl) (said_gives (hr.mono (by decide)) N) (hr.mono (by decide)) (lm_by (N := NL) (sc := defScope sLaw) (by decide +kernel))
            (fun pins σ H s E Q I hT h => lm_make0 I TB rfl hmT huT hT (lm_by (N := NL) (sc := defScope sLaw) (by decide +kernel)) rfl (fun _ _ _ _ _ _ => rfl) h) (fun A outer s H E f c' hr2 => pe_meth (E := E) (pv 13) T.cl em eG (hr2.mono (by decide)) eb .nil (passes_call (takes_of rfl rfl rfl rfl) fun _ _ _ _ z => z) (pa_cons (pv 10) pa_nil))) (pe_tup (pa_cons pe_str (pa_cons (pv 10) pa_nil))) (nomark _))))) (pss_one (ps_ret pe_bl)) pss_nil)
    (pss_cons (ps_set (i := 9) scLaw.nd rfl (Or.inl rfl) (pe_lst (pa_cons (pe_lamD (k := 9) (T := tabs P1 P2 P3 P4) (own := []) (t := fun E => tMeth C "count_of" (spCnt C C3) [] E (tVar 13) (tCons (tVar 11) (tNil))) rfl S.g S.kp lk hcg hb scSaid rfl (Or.inl rfl) (said_gives (hr.mono (by decide)) N) (hr.mono (by decide)) (lm_by (N := NL) (sc := defScope sLaw) (by decide +kernel))
            (fun pins σ H s E Q I hT h => lm_make0 I TB rfl hmT huT hT (lm_by (N := NL) (sc := defScope sLaw) (by decide +kernel)) rfl (fun _ _ _ _ _ _ => rfl) h) (fun A outer s H E f c' hr2 => pe_meth (E := E) (pv 13) T.cl cm cG (hr2.mono (by decide)) cb .nil (passes_call (takes_of rfl rfl rfl rfl) fun _ _ _ _ z => z) (pa_cons (pv 11) pa_nil))) (pa_cons (pe_lamD (k := 9) (T := tabs P1 P2 P3 P4) (own := ["x"]) (t := fun E => Mw.tMethK0 (["value"] : List Str).length C "count_of" (spCnt C C3) (fun vs zs => vs ++ zs) E (tVar 13) (tCons (tOp (rI (fun i j => 0 ≤ j ∧ (Builtin.Int.intBits i : Int) * j ≤ 2 ^ 27) fun i j => .int (i ^ j.toNat)) (tC (.int 10)) (tC (.int 30))) tNil)) rfl S.g S.kp lk hcg hb scSaid rfl (Or.inl rfl) (said_gives (hr.mono (by decide)) N) (hr.mono (by decide)) (lm_by (N := NL) (sc := defScope sLaw) (by decide +kernel))
            (fun pins σ H s E Q I hT h => lm_make1 I TB rfl hmT huT hT (lm_by (N := NL) (sc := defScope sLaw) (by decide +kernel)) rfl rfl (fun _ _ _ _ _ _ _ _ => ⟨_, rfl, rfl⟩) h) (fun A outer s H E f c' hr2 => Mw.pe_methK0 (ks := ["value"]) (E := E) (sp := spCnt C C3) (gV := fun vs zs => vs ++ zs) (pv 13) T.cl cm cG (hr2.mono (by decide)) ck (passes_call (takes_of rfl rfl rfl rfl) fun _ _ _ _ z => z) (pk_cons (pe_op Mw.op_powB pe_int pe_int) pk_nil))) pa_nil))))
    (pss_cons (ps_if (PW.pt (pw_or (pt_cmpR op_ne (pe_callB (Gd.call_repr hgd hu64) (by rfl) B.repr (by decide +kernel) (pa_cons (pv 9) pa_nil)) (pe_callB (Gd.call_repr hgd hu64) (by rfl) B.repr (by decide +kernel) (pa_cons (pe_lst (pa_cons (pe_tup (pa_cons pe_str (pa_cons (pv 11) pa_nil))) (pa_cons (pe_lst (pa_cons pe_int pa_nil)) pa_nil))) pa_nil)) (nomark _)) (pw_or1 (pt_cmpR (op_neD hu64) (pe_meth0 (pv 13) T.cl m3 G3 (hr.mono (by decide)) b3 .nil pass0) (pv 5) (nomark _))))) (pss_one (ps_ret pe_bl)) pss_nil)
    (pss_one (ps_if (PW.pt (pw_or (pt_cmpR op_ne (pe_meth (E := fun _ _ _ => False) (pv 13) T.cl vm vG (hr.mono (by decide)) vb .nil passF (pa_cons (pv 4) pa_nil)) (pe_op op_pow pe_int pe_int) (nomark _)) (pw_or1 (pt_cmpR op_ne (Mw.pe_methK0 (ks := ["index", "code"]) (E := fun _ _ _ => False) (sp := spSlotOf C C1 C3) (gV := fun vs zs => vs ++ zs.reverse) (pv 13) T.cl om oG (hr.mono (by decide)) ok passF (pk_cons (pe_op op_pow pe_int pe_int) (pk_cons pe_int pk_nil))) (pv 4) (nomark _))))) (pss_one (ps_ret pe_bl)) pss_nil))))), fun D a d g p l tk n vt vwide vw vn vs vg vo dn ds dg v9 H xs S0 hl bo bw bn bs bg x1 x2 x3 k => ?_⟩
  have h8 : 8 ≤ n ∧ n ≤ 4096 := hl ▸ S0.W.hz.pos
  -- SlotTable(odd)
  refine lam_x (yok := fun _ => True) R2 h2 (fun y _ => Says.size _ y) S0.W.ts (fun E H5 Q' e5 T5 out => ?_) fun p1 K1 g1 U1 e1 => ?_
  · have Sx := S0.ext e5 T5
    refine ⟨_, rfl, fun p2 dx2 hp2 hdx2 hne2 => ⟨p2, dx2, vo, rfl, upd_same, (Sx.oo.same (same_new hdx2)).same (same_new (by rw [upd_ne hne2.symm]; exact hp2)), (fun n' e' hn' => ?_), fun _ d y hd => out _ ((same_new hdx2).trans (same_new (by rw [upd_ne hne2.symm]; exact hp2))) d y trivial hd⟩⟩
    rw [e', isSz_int hn'] at bo
    cases bo
  have S1 := S0.ext g1 U1
  refine ⟨by show 1 ≤ sizeLine; decide, fun q1 hq1 => ?_⟩
  have y1 := same_new (o := .tup [.str "size"]) hq1
  refine ⟨_, _, .tup (SqT.of (y1 _ _ e1)) (.cons (.str _) .nil), .tup (SqT.of upd_same) (.cons (.str _) .nil), by decide +kernel, by decide +kernel, _, rfl, iteNo (by decide +kernel) ?_⟩
  have S2 := S1.same y1
  generalize upd K1 q1 (.tup [.str "size"]) = H2 at S2 ⊢
  refine ⟨_, rfl, _, rfl, _, rfl, p, l, xs, vw, vn, dn, rfl, S2.W.tb, S2.W.hz, S2.ow, bw, S2.bn.nd, bn, S2.bn.sh, S2.W.ts, fun H3 g3 U3 => ⟨_, rfl, iteNo rfl ?_⟩⟩
  have S3 := S2.ext g3 U3
  -- slots
  refine ⟨_, rfl, _, rfl, p, l, xs, vs, ds, rfl, S3.W.tb, S3.bs.nd, by rw [hl]; exact bs, S3.bs.sh, S3.W.ts, fun H4 g4 U4 => ⟨_, rfl, iteNo rfl ?_⟩⟩
  have S4 := S3.ext g4 U4
  refine lam_x (yok := fun y => y = V.int ((n - 1 : Nat) : Int)) (ans := [.str "entry", V.int ((n - 1 : Nat) : Int)]) R3 h3 (fun y hy => by rw [hy]; exact Says.entry _) S4.W.ts (fun E H5 Q' e5 T5 out => ?_) fun p5 K5 g5 U5 e5 => ?_
  · have Sx := S4.ext e5 T5
    obtain ⟨dx, hob⟩ := Sx.W.tb.ob
    refine ⟨_, rfl, p, dx, _, rfl, hob, rfl, _, rfl, p, l, xs, .int ((n - 1 : Nat) : Int), rfl, Sx.W.tb, .int _, (fun j y hj hy h0 => ?_), fun _ d hd => out _ (fun _ _ z => z) d _ rfl hd⟩
    obtain ⟨ej, _⟩ := asS_some hj
    have ej : ((n - 1 : Nat) : Int) = (j : Int) := V.int.inj ej
    obtain rfl : j = n - 1 := by omega
    rw [x1] at hy
    cases hy
    exact absurd h0 (by decide)
  have S5 := S4.ext g5 U5
  refine ⟨_, rfl, by show 2 ≤ sizeLine; decide, fun q2 hq2 => ?_⟩
  have y2 := same_new (o := .tup [.str "entry", .int ((n - 1 : Nat) : Int)]) hq2
  have S6' := S5.same y2
  refine ⟨_, _, .tup (SqT.of (y2 _ _ e5)) (.cons (.str _) (.cons (.int _) .nil)), .tup (SqT.of upd_same) (.cons (.str _) (.cons (.int _) .nil)), sh2 _, sh2 _, _, rfl, iteNo (by rw [eq2]; rfl) ?_⟩
  generalize upd K5 q2 (.tup [.str "entry", .int ((n - 1 : Nat) : Int)]) = H6 at S6' ⊢
  -- found
  refine lam_x (yok := fun y => y = vg) (ans := [.str "entry", vg]) R3 h3 (fun y hy => by rw [hy]; exact Says.entry _) S6'.W.ts (fun E H5 Q' e5 T5 out => ?_) fun p7 K7 g7 U7 e7 => ?_
  · have Sx := S6'.ext e5 T5
    obtain ⟨dx, hob⟩ := Sx.W.tb.ob
    exact ⟨_, rfl, p, dx, _, rfl, hob, rfl, _, rfl, p, l, xs, vg, rfl, Sx.W.tb, Sx.bg.nd.odd, (fun m e h => absurd (bg m e) (by omega)), fun _ d hd => out _ (fun _ _ z => z) d _ rfl hd⟩
  have S7 := S6'.ext g7 U7
  refine lam_ok (v := V.int 1) S7.W.ts (fun E H5 Q' e5 q => ?_) fun p8 K8 g8 U8 e8 => ?_
  · have Sx := S7.W.tb.extN e5
    obtain ⟨dx, hob⟩ := Sx.ob
    exact ⟨_, rfl, p, dx, _, rfl, hob, rfl, _, _, rfl, rfl, ⟨by decide, by decide +kernel⟩, rfl, p, l, xs, .int big, rfl, Sx, .int _, (fun m e _ => by cases e; rw [x3]; exact q _ (fun _ _ z => z)), fun bad => absurd (bad big rfl) (by decide +kernel)⟩
  have S8 := S7.ext g8 U8
  have r8 : Rw K8 [.ref p7, .ref p8] [.tuple [.str "entry", dg], .list [.int 1]] := .ent (g8 _ _ e7 fun ps z => by cases z) S8.bg.nd (.one e8 (.int _) .nil)
  refine ⟨by show 2 ≤ sizeLine; decide, fun f9 hf9 => ?_⟩
  have y9 := same_new (o := .lst [.ref p7, .ref p8]) hf9
  have r9 := r8.ext (ExtN.of y9)
  have S9 := S8.same y9
  have ef9 : upd K8 f9 (.lst [.ref p7, .ref p8]) f9 = some (.lst [.ref p7, .ref p8]) := upd_same
  generalize upd K8 f9 (.lst [.ref p7, .ref p8]) = H9 at r9 S9 ef9 ⊢
  have shD : Rp.Sh 4000 3 (.list [.tuple [.str "entry", dg], .list [.int 1]]) := by
    refine (Rp.Sh.list (b := 1100) (e := 2) (fun x hx => ?_)).mono (by simp) (Nat.le_refl _)
    rcases List.mem_cons.mp hx with rfl | hx
    · exact sh_ent S9.bg.sh
    · rw [List.mem_singleton.mp hx]
      refine (Rp.Sh.list (b := 2) (e := 0) (fun x hx => ?_)).mono (by simp) (by decide)
      rw [List.mem_singleton.mp hx]
      exact Rp.Sh.int (k := 1) (by decide) (by decide) (by decide)
  have sD := shD.shw (by decide) (by decide)
  refine ⟨_, rfl, _, .list [.tuple [.str "entry", dg], .list [.int 1]], rfl, .lst (SqL.of ef9) r9.dp, sD.1, sD.2.1, sD.2.2.1, sD.2.2.2, ?_⟩
  refine ⟨_, rfl, by show 2 ≤ sizeLine; decide, fun q3 hq3 => ⟨by show 1 ≤ sizeLine; decide, fun q4 hq4 => ⟨by show 2 ≤ sizeLine; decide, fun q5 hq5 => ?_⟩⟩⟩
  have w1 := same_new (o := .tup [.str "entry", vg]) hq3
  have w2 := same_new (o := .lst [.int 1]) hq4
  have w3 := same_new (o := .lst [.ref q3, .ref q4]) hq5
  have ww := w1.trans (w2.trans w3)
  have eq3 := w3 _ _ (w2 _ _ (upd_same (H := H9) (a := q3) (o := .tup [.str "entry", vg])))
  have eq4 := w3 _ _ (upd_same (H := upd H9 q3 (.tup [.str "entry", vg])) (a := q4) (o := .lst [.int 1]))
  have S10 := S9.same ww
  have eq5 : upd (upd (upd H9 q3 (.tup [.str "entry", vg])) q4 (.lst [.int 1])) q5 (.lst [.ref q3, .ref q4]) q5 = some (.lst [.ref q3, .ref q4]) := upd_same
  generalize upd (upd (upd H9 q3 (.tup [.str "entry", vg])) q4 (.lst [.int 1])) q5 (.lst [.ref q3, .ref q4]) = H10 at S10 eq3 eq4 eq5 ⊢
  have r10 : Rw H10 [.ref q3, .ref q4] [.tuple [.str "entry", dg], .list [.int 1]] := .ent eq3 S10.bg.nd (.one eq4 (.int _) .nil)
  refine ⟨_, .list [.tuple [.str "entry", dg], .list [.int 1]], rfl, .lst (SqL.of eq5) r10.dp, sD.1, sD.2.1, sD.2.2.1, sD.2.2.2, rfl, _, rfl, iteNo (by rw [decide_eq_true rfl]; rfl) ?_⟩
  -- kept
  obtain ⟨dx, hob⟩ := S10.W.tb.ob
  refine ⟨_, rfl, p, dx, _, rfl, hob, rfl, p, l, xs, rfl, S10.W.tb, fun t2 ht2 => ?_⟩
  have y11 := same_new (o := .tup (xs.map V.int)) ht2
  have S11 := S10.same y11
  have ee : PyData.eqv (.tuple (xs.map PyData.int)) (.tuple (xs.map PyData.int)) = true := by rw [PyData.eqv, eqI]
  refine ⟨_, rfl, _, _, .tup (SqT.of upd_same) (dp_ints xs), .tup (SqT.of S11.tk) (dp_ints xs), shapeT _, shapeT _, _, rfl, iteNo (by rw [ee]; rfl) ?_⟩
  generalize upd H10 t2 (.tup (xs.map V.int)) = H11 at S11 ⊢
  -- value_at(second), slot_of
  obtain ⟨dx, hob⟩ := S11.W.tb.ob
  refine ⟨_, rfl, p, dx, _, rfl, hob, rfl, _, rfl, p, l, xs, .int ((0 : Nat) : Int), rfl, S11.W.tb, .int _, (fun j y hj hy => ?_), fun e => by rw [asS_nat (show 0 < xs.length by omega)] at e; cases e⟩
  rw [asS_nat (show 0 < xs.length by omega)] at hj
  cases hj
  rw [x2] at hy
  cases hy
  refine ⟨_, _, rfl, rfl, ⟨by decide, by decide, by decide⟩, rfl, _, rfl, iteNo (by decide +kernel) ?_⟩
  refine ⟨_, rfl, p, dx, _, rfl, hob, rfl, _, _, rfl, rfl, ⟨by decide, by decide, by decide⟩, rfl, p, l, xs, .int 0, .int big, rfl, S11.W.tb, S11.W.hz, .int _, .int _, (fun e => by rw [show asC (V.int 0) = some 0 from asC_nat (m := 0) (by decide)] at e; cases e), (fun c hc e => ?_), fun c ix hc hix t2 ht2 => ?_⟩
  · have : asN (V.int big) = some big.toNat := by decide +kernel
    rw [this] at e
    cases e
  · rw [show asC (V.int 0) = some 0 from asC_nat (m := 0) (by decide)] at hc
    cases hc
    rw [slotRes_first (by
      rw [← V.int.inj (asN_some hix)]
      have : sA xs.length 0 0 = 0 := Nat.zero_mod _
      rw [this]
      exact x2)]
    have e0 : sA xs.length 0 0 = 0 := Nat.zero_mod _
    rw [e0]
    refine ⟨_, rfl, rfl, _, rfl, iteNo (by decide +kernel) ?_⟩
    exact k _ _ (S11.W.same (same_new ht2))
end
end K16
set_option Elab.async false
set_option linter.all false
set_option maxRecDepth 100000
/-! Gd0: f() of a def that runs where no repr is under way -/
namespace Gd0
open PySem PySem.Spec PyProof.Rows L2
theorem pe_callG0 {X : Cx} {k : Nat} {f : Addr} {fd : FuncData} {ps : List Str} {sp : Sp} {x : Str} {p pos : Pos} (F : Gd.FnG X.prog X.w X.K X.mg X.base k f fd ps sp) (hr : Room k X.A) (hgd : X.A.guards = some []) (hg : Gl X x) (hm : X.mg x = some (.ref f)) (hk : PySem.W.keepIn X.K (.ref f) = true)
    (hb : Binds X.K fd ps []) (hdb : (x == ("__debug__" : Str)) = false := by decide) : PE X (.Call (.Name x p) [] [] pos) (tCall sp [] C8.E0 tNil) := by
  refine ⟨fun pins s σ H Q I h => ?_⟩
  refine wpAny_Call_Name_kw (ld_glob I hg hm ?_ hdb)
  refine PySem.W.callWith_K0 (first := []) I.kIn hk ?_
  have q : sp [] H Q C8.E0 := h
  have hl : ([] : List Value).length = ps.length := by rw [← F.len _ _ _ _ q]; rfl
  have hbt : BindsTo s fd ⟨[], []⟩ (ps.zip []) := by
    have z := hb s [] I.kIn (by rw [List.append_nil]; exact hl)
    rwa [List.append_nil] at z
  refine wpAny_call (codeAny_mono (F.run X.A X.stack s H ⟨[], []⟩ [] [] Q C8.E0 hr hgd I.env0 hbt .nil q) fun r' s' hq => ?_)
  cases r' with
  | error e => exact (show False from hq).elim
  | ok fl =>
    cases fl with
    | ret u => exact I.after hq
    | next => exact False.elim hq
    | brk => exact False.elim hq
    | cont => exact False.elim hq
end Gd0
set_option Elab.async false
set_option linter.all false
set_option maxRecDepth 100000
set_option maxHeartbeats 4000000
namespace K16
open PySem L2 Xo Lm LamX
structure BadA (H : Hp) (d g : Addr) (v : V) (dn : PyData) : Prop where
  b : Bad H v dn
  ap : ∀ a, v = .ref a → a ≠ d ∧ a ≠ g
theorem BadA.same {H H' : Hp} {d g : Addr} {v : V} {dn : PyData} (b : BadA H d g v dn) (s : Same H H') : BadA H' d g v dn := ⟨b.b.ext (ExtN.of s), b.ap⟩
theorem BadA.kept {H H' : Hp} {d g : Addr} {v : V} {dn : PyData} (b : BadA H d g v dn) (kp : Kept H H' d g) : BadA H' d g v dn := by
  obtain ⟨⟨nd, sh⟩, ap⟩ := b
  refine ⟨⟨?_, sh⟩, ap⟩
  cases nd with
  | non => exact .non
  | bl b => exact .bl b
  | int n => exact .int n
  | str x => exact .str x
  | tup h => exact .tup (kp _ _ h (ap _ rfl).1 (ap _ rfl).2)
  | lst h => exact .lst (kp _ _ h (ap _ rfl).1 (ap _ rfl).2)
theorem bsh_non : Rp.Sh 500 1 .none := Rp.Sh.none.mono (by decide) (by decide)
theorem bsh_bl {b : Bool} : Rp.Sh 500 1 (.bool b) := Rp.Sh.bool.mono (by decide) (by decide)
theorem bsh_int {z : Int} (h : z.natAbs < 10 ^ 400) : Rp.Sh 500 1 (.int z) := (Rp.Sh.int (k := 400) (by decide) (by decide) h).mono (by decide) (by decide)
theorem bsh_tup {z : Int} (h : z.natAbs < 10 ^ 2) : Rp.Sh 500 1 (.tuple [.int z]) := (Rp.Sh.tuple (b := 3) (e := 0) (fun x hx => by rw [List.mem_singleton.mp hx]; exact Rp.Sh.int (k := 2) (by decide) (by decide) h)).mono (by simp) (by decide)
theorem bsh_nil : Rp.Sh 500 1 (.list []) := (Rp.Sh.list (b := 3) (e := 0) (fun x hx => by cases hx)).mono (by simp) (by decide)
theorem asS_out {z : Nat} (h : z ≤ 4096) : asS z (.int (z : Int)) = none := by
  unfold asS
  rw [asN_nat]
  exact if_neg (Nat.lt_irrefl z)
theorem asS_big {z : Nat} (h : z ≤ 4096) : asS z (.int ((10 : Int) ^ (30 : Int).toNat)) = none := by
  obtain ⟨m, hm, e⟩ : ∃ m : Nat, 4096 ≤ m ∧ (10 : Int) ^ (30 : Int).toNat = (m : Int) := ⟨10 ^ 30, by decide +kernel, by decide +kernel⟩
  rw [e]
  unfold asS
  rw [asN_nat]
  exact if_neg (by omega)
theorem pickZ (n : Nat) (h : n < 4) : ∃ z : Nat, goodSize z ∧ ([V.int 8, .int 16, .int 64, .int 4096] : List V)[n]? = some (V.int (z : Int)) := by
  match n, h with
  | 0, _ => exact ⟨8, by show (8 : Int) ∈ sizesI; decide, rfl⟩
  | 1, _ => exact ⟨16, by show (16 : Int) ∈ sizesI; decide, rfl⟩
  | 2, _ => exact ⟨64, by show (64 : Int) ∈ sizesI; decide, rfl⟩
  | 3, _ => exact ⟨4096, by show (4096 : Int) ∈ sizesI; decide, rfl⟩
theorem pickO {H : Hp} {d g x7 : Addr}  (ex7 : H x7 = some (.tup [.int 8])) (nx7 : x7 ≠ d ∧ x7 ≠ g) (n : Nat) (h : n < 9) : ∃ v : V, [V.non, .int 0, .int 7, .int 24, .int 8192, .bl true, .str "8", .ref x7, .int (-8)][n]? = some v ∧ Odd H v ∧ isSz v = false := by
  match n, h with
  | 0, _ => exact ⟨_, rfl, .non, rfl⟩
  | 1, _ => exact ⟨_, rfl, .int _, by decide +kernel⟩
  | 2, _ => exact ⟨_, rfl, .int _, by decide +kernel⟩
  | 3, _ => exact ⟨_, rfl, .int _, by decide +kernel⟩
  | 4, _ => exact ⟨_, rfl, .int _, by decide +kernel⟩
  | 5, _ => exact ⟨_, rfl, .bl _, rfl⟩
  | 6, _ => exact ⟨_, rfl, .str _, rfl⟩
  | 7, _ => exact ⟨_, rfl, .tup ex7, rfl⟩
  | 8, _ => exact ⟨_, rfl, .int _, by decide +kernel⟩
theorem pickW {H : Hp} {d g x5 x6 : Addr}  (ex5 : H x5 = some (.tup [.int 0])) (nx5 : x5 ≠ d ∧ x5 ≠ g) (ex6 : H x6 = some (.lst [])) (nx6 : x6 ≠ d ∧ x6 ≠ g) (n : Nat) (h : n < 8) : ∃ v : V, [V.non, .int (-1), .int 4294967296, .bl true, .str "0", .ref x5, .ref x6, .int ((10 : Int) ^ (30 : Int).toNat)][n]? = some v ∧ Odd H v ∧ asC v = none := by
  match n, h with
  | 0, _ => exact ⟨_, rfl, .non, rfl⟩
  | 1, _ => exact ⟨_, rfl, .int _, by decide +kernel⟩
  | 2, _ => exact ⟨_, rfl, .int _, by decide +kernel⟩
  | 3, _ => exact ⟨_, rfl, .bl _, rfl⟩
  | 4, _ => exact ⟨_, rfl, .str _, rfl⟩
  | 5, _ => exact ⟨_, rfl, .tup ex5, rfl⟩
  | 6, _ => exact ⟨_, rfl, .lst ex6, rfl⟩
  | 7, _ => exact ⟨_, rfl, .int _, by decide +kernel⟩
theorem pickN {H : Hp} {d g x4 x5 : Addr}  (ex4 : H x4 = some (.tup [.int 1])) (nx4 : x4 ≠ d ∧ x4 ≠ g) (ex5 : H x5 = some (.lst [])) (nx5 : x5 ≠ d ∧ x5 ≠ g) (n : Nat) (h : n < 7) : ∃ (v : V) (dn : PyData), [V.non, .int (-1), .bl true, .str "1", .ref x4, .ref x5, .int (-2)][n]? = some v ∧ BadA H d g v dn ∧ asN v = none := by
  match n, h with
  | 0, _ => exact ⟨_, _, rfl, ⟨⟨.non, bsh_non⟩, fun a z => by cases z⟩, rfl⟩
  | 1, _ => exact ⟨_, _, rfl, ⟨⟨.int _, bsh_int (by decide +kernel)⟩, fun a z => by cases z⟩, by decide +kernel⟩
  | 2, _ => exact ⟨_, _, rfl, ⟨⟨.bl _, bsh_bl⟩, fun a z => by cases z⟩, rfl⟩
  | 3, _ => exact ⟨_, _, rfl, ⟨⟨.str _, sh_str (by decide +kernel)⟩, fun a z => by cases z⟩, rfl⟩
  | 4, _ => exact ⟨_, _, rfl, ⟨⟨.tup ex4, bsh_tup (by decide)⟩, fun a z => by cases z; exact nx4⟩, rfl⟩
  | 5, _ => exact ⟨_, _, rfl, ⟨⟨.lst ex5, bsh_nil⟩, fun a z => by cases z; exact nx5⟩, rfl⟩
  | 6, _ => exact ⟨_, _, rfl, ⟨⟨.int _, bsh_int (by decide +kernel)⟩, fun a z => by cases z⟩, by decide +kernel⟩
theorem pickS {H : Hp} {d g x5 x6 : Addr} {z : Nat} (hz2 : z ≤ 4096) (hz : (z : Int).natAbs < 10 ^ 400) (ex5 : H x5 = some (.tup [.int 0])) (nx5 : x5 ≠ d ∧ x5 ≠ g) (ex6 : H x6 = some (.lst [])) (nx6 : x6 ≠ d ∧ x6 ≠ g) (n : Nat) (h : n < 8) : ∃ (v : V) (dn : PyData), [V.non, .int (-1), .int (z : Int), .bl true, .str "0", .ref x5, .ref x6, .int ((10 : Int) ^ (30 : Int).toNat)][n]? = some v ∧ BadA H d g v dn ∧ asS z v = none := by
  match n, h with
  | 0, _ => exact ⟨_, _, rfl, ⟨⟨.non, bsh_non⟩, fun a z => by cases z⟩, rfl⟩
  | 1, _ => exact ⟨_, _, rfl, ⟨⟨.int _, bsh_int (by decide +kernel)⟩, fun a z => by cases z⟩, rfl⟩
  | 2, _ => exact ⟨_, _, rfl, ⟨⟨.int _, bsh_int hz⟩, fun a z => by cases z⟩, asS_out hz2⟩
  | 3, _ => exact ⟨_, _, rfl, ⟨⟨.bl _, bsh_bl⟩, fun a z => by cases z⟩, rfl⟩
  | 4, _ => exact ⟨_, _, rfl, ⟨⟨.str _, sh_str (by decide +kernel)⟩, fun a z => by cases z⟩, rfl⟩
  | 5, _ => exact ⟨_, _, rfl, ⟨⟨.tup ex5, bsh_tup (by decide)⟩, fun a z => by cases z; exact nx5⟩, rfl⟩
  | 6, _ => exact ⟨_, _, rfl, ⟨⟨.lst ex6, bsh_nil⟩, fun a z => by cases z; exact nx6⟩, rfl⟩
  | 7, _ => exact ⟨_, _, rfl, ⟨⟨.int _, bsh_int (by decide +kernel)⟩, fun a z => by cases z⟩, asS_big hz2⟩
theorem pickG {H : Hp} {d g x4 x5 : Addr}  (ex4 : H x4 = some (.tup [.int 0])) (nx4 : x4 ≠ d ∧ x4 ≠ g) (ex5 : H x5 = some (.lst [])) (nx5 : x5 ≠ d ∧ x5 ≠ g) (n : Nat) (h : n < 6) : ∃ (v : V) (dn : PyData), [V.non, .int (-3), .bl true, .str "0", .ref x4, .ref x5][n]? = some v ∧ BadA H d g v dn ∧ ∀ m, v = .int m → m < -2 := by
  match n, h with
  | 0, _ => exact ⟨_, _, rfl, ⟨⟨.non, bsh_non⟩, fun a z => by cases z⟩, fun m z => by cases z⟩
  | 1, _ => exact ⟨_, _, rfl, ⟨⟨.int _, bsh_int (by decide +kernel)⟩, fun a z => by cases z⟩, fun m z => by cases z; decide⟩
  | 2, _ => exact ⟨_, _, rfl, ⟨⟨.bl _, bsh_bl⟩, fun a z => by cases z⟩, fun m z => by cases z⟩
  | 3, _ => exact ⟨_, _, rfl, ⟨⟨.str _, sh_str (by decide +kernel)⟩, fun a z => by cases z⟩, fun m z => by cases z⟩
  | 4, _ => exact ⟨_, _, rfl, ⟨⟨.tup ex4, bsh_tup (by decide)⟩, fun a z => by cases z; exact nx4⟩, fun m z => by cases z⟩
  | 5, _ => exact ⟨_, _, rfl, ⟨⟨.lst ex5, bsh_nil⟩, fun a z => by cases z; exact nx5⟩, fun m z => by cases z⟩
/-! the rows -/
def ro0 (n : Nat) : List Int := List.replicate n (-1)
def ro1 (n : Nat) : List Int := (ro0 n).set (n - 1) 0
def ro2 (n : Nat) : List Int := (ro1 n).set 0 big
def ro3 (n : Nat) : List Int := (ro2 n).set (n - 1) (-2)
theorem ro0_len (n : Nat) : (ro0 n).length = n := List.length_replicate
theorem ro1_len (n : Nat) : (ro1 n).length = n := by unfold ro1; rw [List.length_set, ro0_len]
theorem ro2_len (n : Nat) : (ro2 n).length = n := by unfold ro2; rw [List.length_set, ro1_len]
theorem ro3_len (n : Nat) : (ro3 n).length = n := by unfold ro3; rw [List.length_set, ro2_len]
theorem sA_last {n : Nat} (hz : goodSize n) : sA n 4294967295 0 = n - 1 := by
  have : (n : Int) ∈ sizesI := hz
  unfold sizesI at this
  simp only [List.mem_cons, List.not_mem_nil, or_false] at this
  have e : sA n 4294967295 0 = 4294967295 % n := rfl
  rw [e]
  rcases this with h | h | h | h | h | h | h | h | h | h <;> (obtain rfl : n = _ := Int.ofNat.inj h) <;> rfl
theorem free_last {n : Nat} (hz : goodSize n) : FreeAt (ro0 n) 4294967295 0 := by
  have h8 := hz.pos
  refine ⟨by omega, ⟨-1, ?_, by decide⟩, fun i hi => absurd hi (Nat.not_lt_zero _)⟩
  rw [ro0_len, sA_last hz]
  unfold ro0
  rw [List.getElem?_replicate, if_pos (by omega)]
theorem free_zero {n : Nat} (hz : goodSize n) : FreeAt (ro1 n) 0 0 := by
  have h8 := hz.pos
  refine ⟨by omega, ⟨-1, ?_, by decide⟩, fun i hi => absurd hi (Nat.not_lt_zero _)⟩
  have e : sA (ro1 n).length 0 0 = 0 := Nat.zero_mod _
  rw [e]
  unfold ro1 ro0
  rw [List.getElem?_set_ne (by omega), List.getElem?_replicate, if_pos (by omega)]
theorem ro3_last {n : Nat} (h : 8 ≤ n) : (ro3 n)[n - 1]? = some (-2) := by
  unfold ro3
  rw [List.getElem?_set_self (by rw [ro2_len]; omega)]
theorem ro2_last {n : Nat} (h : 8 ≤ n) : (ro2 n)[n - 1]? = some 0 := by
  unfold ro2
  rw [List.getElem?_set_ne (by omega)]
  unfold ro1
  rw [List.getElem?_set_self (by rw [ro0_len]; omega)]
theorem ro3_zero {n : Nat} (h : 8 ≤ n) : (ro3 n)[0]? = some big := by
  unfold ro3
  rw [List.getElem?_set_ne (by omega)]
  unfold ro2
  rw [List.getElem?_set_self (by rw [ro1_len]; omega)]
theorem ro3_count {n : Nat} (h : 8 ≤ n) : (ro3 n).count big = 1 := by
  have b0 : ((-1 : Int) == big) = false := by decide +kernel
  have b1 : ((0 : Int) == big) = false := by decide +kernel
  have b2 : ((-2 : Int) == big) = false := by decide +kernel
  have c0 : (ro0 n).count big = 0 := by
    unfold ro0
    rw [List.count_replicate, b0]
    rfl
  have c1 : (ro1 n).count big = 0 := by
    unfold ro1
    rw [List.count_set (by rw [ro0_len]; omega), c0, b1]
    simp
  have c2 : (ro2 n).count big = 1 := by
    have l0 : 0 < (ro1 n).length := by rw [ro1_len]; omega
    have e : (ro1 n)[0]'l0 = -1 := by
      have : (ro1 n)[0]? = some (-1) := by
        unfold ro1 ro0
        rw [List.getElem?_set_ne (by omega), List.getElem?_replicate, if_pos (by omega)]
      rw [List.getElem?_eq_getElem l0] at this
      exact Option.some.inj this
    unfold ro2
    rw [List.count_set l0, c1, e, b0]
    simp
  have l1 : n - 1 < (ro2 n).length := by rw [ro2_len]; omega
  have e : (ro2 n)[n - 1]'l1 = 0 := by
    have := ro2_last h
    rw [List.getElem?_eq_getElem l1] at this
    exact Option.some.inj this
  unfold ro3
  rw [List.count_set l1, c2, e, b1, b2]
  simp
theorem Wt.draw {TS : List (Addr × Str)} {C d g p l : Addr} {H H' : Hp} {xs : List Int} (W : Wt TS C d g p l H xs) (kp : Kept H H' d g) (de : DrawE H' d g) : Wt TS C d g p l H' xs := by
  obtain ⟨dx, e⟩ := W.tb.ob
  obtain ⟨r, t, gs, dr⟩ := id W.de
  exact ⟨de, ⟨⟨dx, kp _ _ e (ne_of e dr.dc (by intro z; cases z)) (ne_of e dr.gl (by intro z; cases z))⟩, kp _ _ W.tb.ls (ne_of W.tb.ls dr.dc (by intro z; cases z)) W.ng⟩, W.ng, W.hz, tabK W.de W.ts kp⟩
theorem Wt.set {TS : List (Addr × Str)} {C d g p l : Addr} {H : Hp} {xs ys : List Int} (W : Wt TS C d g p l H xs) (hl : ys.length = xs.length) : Wt TS C d g p l (upd H l (.lst (ys.map V.int))) ys := by
  obtain ⟨dx, e⟩ := W.tb.ob
  obtain ⟨r, t, gs, dr⟩ := id W.de
  refine ⟨⟨r, t, gs, by rw [upd_ne (ne_of dr.dc W.tb.ls (by intro z; cases z))]; exact dr.dc, by rw [upd_ne W.ng.symm]; exact dr.gl, dr.r0, dr.r1⟩, ⟨⟨dx, by rw [upd_ne (ne_of e W.tb.ls (by intro z; cases z))]; exact e⟩, upd_same⟩, W.ng, by rw [hl]; exact W.hz, tabs_updL W.ts W.tb.ls⟩
theorem z400 {z : Nat} (h : z ≤ 4096) : (z : Int).natAbs < 10 ^ 400 := by
  rw [Int.natAbs_natCast]
  exact Nat.lt_of_le_of_lt h (by decide +kernel)
section
variable {P : Program} {w : World} {K : PySem.W.Frag} {mg : Str → Option Value} {base : Heap}
def spLaw (K : PySem.W.Frag) (P1 P2 P3 P4 : Addr) : Sp := fun vs H Q _ => ∃ (a : Addr) (ns : List Int), vs = [.ref a] ∧ SqL K H a (ns.map V.int) ∧ ns.length ≤ 63 ∧ Tabs (tabs P1 P2 P3 P4) H ∧ ∀ H', Q (.bl true) H'
theorem ok_law {f cA P1 P2 P3 P4 gs fb fn fc1 cA1 fc2 cA2 ff cA3 fv fe fp fo fc f0 ft C C1 C2 C3 C4 Tt Aa Ff o1 o2 o3 o4 o5 o6 o7 o8 o9 pz gz : Addr} {fd fdb fdn fd1 fd2 fd3 fdv fde fdp fdo fdc fd0 fdt : FuncData} (D : Dc K mg "law" sLaw ["script"] f cA fd) (B : Bl mg) (T : TT K mg C pz gz) (S : Ds K mg gs) (N : Nm mg C1 C2 C3 C4 Tt Aa Ff o1 o2 o3 o4 o5 o6 o7 o8 o9)
    (Db : Df K mg "_law_begun" "_law_begun" sBegun ["script"] fb fdb) (Gb : FnOk P w K mg base CX0 1 fb fdb ["script"] (spBegun K)) (Dn : Df K mg "_law_next" "_law_next" sNext ["draw", "below"] fn fdn) (Gn : FnOk P w K mg base CX0 1 fn fdn ["draw", "below"] spNext)
    (D1 : Dc K mg "_law_codes_right" sCodes ["table", "wrong", "number"] fc1 cA1 fd1) (G1 : Gd.FnG P w K mg base 12 fc1 fd1 ["table", "wrong", "number"] (spCodes C P1 P2 P3 P4)) (D2 : Dc K mg "_law_slots_right" sSlots ["table", "spot"] fc2 cA2 fd2) (G2 : Gd.FnG P w K mg base 12 fc2 fd2 ["table", "spot"] (spSlots C P1 P2 P3 P4))
    (D3 : Dc K mg "_law_far_right" sFar [] ff cA3 fd3) (G3f : Gd.FnG P w K mg base 12 ff fd3 [] (spFar P1 P2 P3 P4))
    (vm : Meth K C "value_at" fv) (vb : Binds K fdv ["self", "slot"] []) (vG : FnOk P w K mg base (L2.CX P w) 4 fv fdv ["self", "slot"] (spVal C C3)) (em : Meth K C "erase" fe) (eb : Binds K fde ["self", "slot"] []) (ek : KBn K fde ["self", "slot"] 1 ["slot"] (fun us ws => us ++ ws) (fun vs zs => vs ++ zs)) (eG : FnOk P w K mg base (L2.CX P w) 5 fe fde ["self", "slot"] (spErase C C3))
    (pm : Meth K C "place" fp) (pb : Binds K fdp ["self", "code", "index"] []) (pk : KBn K fdp ["self", "code", "index"] 1 ["code", "index"] (fun us ws => us ++ ws) (fun vs zs => vs ++ zs)) (pG : FnOk P w K mg base (L2.CX P w) 8 fp fdp ["self", "code", "index"] (spPlace C C1 C3 C4))
    (om : Meth K C "slot_of" fo) (ok : KBn K fdo ["self", "code", "index"] 1 ["index", "code"] (fun us ws => us ++ ws.reverse) (fun vs zs => vs ++ zs.reverse)) (oG : FnOk P w K mg base (L2.CX P w) 8 fo fdo ["self", "code", "index"] (spSlotOf C C1 C3))
    (cm : Meth K C "count_of" fc) (cb : Binds K fdc ["self", "value"] []) (ck : KBn K fdc ["self", "value"] 1 ["value"] (fun us ws => us ++ ws) (fun vs zs => vs ++ zs)) (cG : FnOk P w K mg base (L2.CX P w) 3 fc fdc ["self", "value"] (spCnt C C3)) (M : Mk K C f0) (b0 : Binds K fd0 ["self", "size"] []) (ik : KBn K fd0 ["self", "size"] 1 ["size"] (fun us ws => us ++ ws) (fun vs zs => vs ++ zs)) (G0 : FnOk P w K mg base (L2.CX P w) 4 f0 fd0 ["self", "size"] (spInit C C2))
    (m3 : Meth K C "as_tuple" ft) (b3 : Binds K fdt ["self"] []) (G3 : FnOk P w K mg base CX0 1 ft fdt ["self"] (spTup C))
    (TB : TabB base mg cA P4) (n1 : P1 ≠ P4) (n2 : P2 ≠ P4) (n3 : P3 ≠ P4)
    (R2 : Row K C2 C1 C2 C3 C4 Tt Aa Ff [o1, o2, o3, o4, o5, o6, o7, o8, o9] false true false false true false false) (h2 : PySem.W.findIn K (.ref C2) "reason" = some none)
    (R3 : Row K C3 C1 C2 C3 C4 Tt Aa Ff [o1, o2, o3, o4, o5, o6, o7, o8, o9] false false true false false true false) (h3 : PySem.W.findIn K (.ref C3) "index" = some none) : Gd.FnG P w K mg base 13 f fd ["script"] (spLaw K P1 P2 P3 P4) := by
  refine okGc D scLaw (fun vs H Q E h => ?_) (fun A outer s H vs Q E hr hgd h => ?_)
  · obtain ⟨a, ns, rfl, _⟩ := h
    rfl
  · obtain ⟨a, ns, rfl, hS, hlen, hT, k⟩ := h
    have hu64 := hr.units
    obtain ⟨t4, hs, qT⟩ := ok_lt (H0 := H) (E0 := E) (s := s) (outer := outer) B T S N D1 G1 D2 G2 vm vb vG em eb eG om ok oG cm cb ck cG M b0 G0 m3 b3 G3 TB n1 n2 n3 R2 h2 R3 h3 hr hgd
    refine ⟨_, pss_cons (ps_set (i := 1) scLaw.nd rfl (Or.inl rfl) (pe_call Gb (hr.mono (by decide)) rfl Db.g Db.F.kp Db.b .nil pass0 (pa_cons (pv 0) pa_nil)))
      (pss_cons (ps_for PassesOwn.never rfl (pi_range1 rfl B.range (pa_cons (pe_op op_add pe_int (pe_callB (call_min2 rfl) (by rfl) B.min (by decide +kernel) (pa_cons pe_int (pa_cons (pe_op op_fdiv (pe_callB call_len_seq (by rfl) B.len PySem.boot_len (pa_cons (pv 0) pa_nil)) pe_int) pa_nil)))) pa_nil)) (pg_name (i := 2) scLaw.nd rfl (Or.inl rfl))
        (pss_cons (ps_set (i := 3) scLaw.nd rfl (Or.inl rfl) (pe_ix ix_list (pe_lst (pa_cons (pe_int) (pa_cons (pe_int) (pa_cons (pe_int) (pa_cons (pe_int) pa_nil))))) (pe_call Gn (hr.mono (by decide)) rfl Dn.g Dn.F.kp Dn.b .nil pass0 (pa_cons (pv 1) (pa_cons pe_int pa_nil))) (fun _ _ => rfl)))
        (pss_cons (ps_set (i := 13) scLaw.nd rfl (Or.inr rfl) (pe_makeK0 (E := fun _ _ _ => False) (ks := ["size"]) (gV := fun vs zs => vs ++ zs) M G0 (hr.mono (by decide)) rfl T.mgC ik passF (pk_cons (pv 3) pk_nil)))
        (pss_cons (ps_asg (pe_tup (pa_cons (Mw.pe_methK0 (ks := ["code", "index"]) (E := fun _ _ _ => False) (sp := spPlace C C1 C3 C4) (gV := fun vs zs => vs ++ zs) (pv 13) T.cl pm pG (hr.mono (by decide)) pk passF (pk_cons pe_int (pk_cons pe_int pk_nil))) (pa_cons (pe_meth (E := fun _ _ _ => False) (pv 13) T.cl pm pG (hr.mono (by decide)) pb .nil passF (pa_cons pe_int (pa_cons (pe_op op_pow pe_int pe_int) pa_nil))) pa_nil))) (pg_tup rfl (pgs_cons (pg_name (i := 10) scLaw.nd rfl (Or.inr rfl)) (pgs_cons (pg_name (i := 4) scLaw.nd rfl (Or.inl rfl)) pgs_nil))))
        (pss_cons (ps_expr (Mw.pe_methK0 (ks := ["slot"]) (E := fun _ _ _ => False) (sp := spErase C C3) (gV := fun vs zs => vs ++ zs) (pv 13) T.cl em eG (hr.mono (by decide)) ek passF (pk_cons (pv 10) pk_nil)))
        (pss_cons (ps_set (i := 5) scLaw.nd rfl (Or.inl rfl) (pe_meth0 (pv 13) T.cl m3 G3 (hr.mono (by decide)) b3 .nil pass0))
        (pss_cons (ps_set (i := 12) scLaw.nd rfl (Or.inr rfl) (pe_ix ix_list (pe_lst (pa_cons (pe_non) (pa_cons (pe_int) (pa_cons (pe_int) (pa_cons (pe_int) (pa_cons (pe_int) (pa_cons (pe_bl) (pa_cons (pe_str) (pa_cons (pe_tup (pa_cons pe_int pa_nil)) (pa_cons (pe_un un_neg pe_int) pa_nil)))))))))) (pe_call Gn (hr.mono (by decide)) rfl Dn.g Dn.F.kp Dn.b .nil pass0 (pa_cons (pv 1) (pa_cons pe_int pa_nil))) (fun _ _ => rfl)))
        (pss_cons (ps_set (i := 6) scLaw.nd rfl (Or.inl rfl) (pe_ix ix_list (pe_lst (pa_cons (pe_non) (pa_cons (pe_un un_neg pe_int) (pa_cons (pe_int) (pa_cons (pe_bl) (pa_cons (pe_str) (pa_cons (pe_tup (pa_cons pe_int pa_nil)) (pa_cons (pe_lst pa_nil) (pa_cons (pe_op op_pow pe_int pe_int) pa_nil))))))))) (pe_call Gn (hr.mono (by decide)) rfl Dn.g Dn.F.kp Dn.b .nil pass0 (pa_cons (pv 1) (pa_cons pe_int pa_nil))) (fun _ _ => rfl)))
        (pss_cons (ps_set (i := 7) scLaw.nd rfl (Or.inl rfl) (pe_ix ix_list (pe_lst (pa_cons (pe_non) (pa_cons (pe_un un_neg pe_int) (pa_cons (pe_bl) (pa_cons (pe_str) (pa_cons (pe_tup (pa_cons pe_int pa_nil)) (pa_cons (pe_lst pa_nil) (pa_cons (pe_un un_neg pe_int) pa_nil)))))))) (pe_call Gn (hr.mono (by decide)) rfl Dn.g Dn.F.kp Dn.b .nil pass0 (pa_cons (pv 1) (pa_cons pe_int pa_nil))) (fun _ _ => rfl)))
        (pss_cons (ps_set (i := 8) scLaw.nd rfl (Or.inl rfl) (pe_ix ix_list (pe_lst (pa_cons (pe_non) (pa_cons (pe_un un_neg pe_int) (pa_cons (pv 3) (pa_cons (pe_bl) (pa_cons (pe_str) (pa_cons (pe_tup (pa_cons pe_int pa_nil)) (pa_cons (pe_lst pa_nil) (pa_cons (pe_op op_pow pe_int pe_int) pa_nil))))))))) (pe_call Gn (hr.mono (by decide)) rfl Dn.g Dn.F.kp Dn.b .nil pass0 (pa_cons (pv 1) (pa_cons pe_int pa_nil))) (fun _ _ => rfl)))
        (pss_cons (ps_set (i := 11) scLaw.nd rfl (Or.inr rfl) (pe_ix ix_list (pe_lst (pa_cons (pe_non) (pa_cons (pe_un un_neg pe_int) (pa_cons (pe_bl) (pa_cons (pe_str) (pa_cons (pe_tup (pa_cons pe_int pa_nil)) (pa_cons (pe_lst pa_nil) pa_nil))))))) (pe_call Gn (hr.mono (by decide)) rfl Dn.g Dn.F.kp Dn.b .nil pass0 (pa_cons (pv 1) (pa_cons pe_int pa_nil))) (fun _ _ => rfl)))
        hs)))))))))))
      (pss_one (ps_ret (Gd0.pe_callG0 G3f (hr.mono (by decide)) hgd rfl D3.g D3.kp D3.b)))), ?_⟩
    refine ⟨_, rfl, a, ns, rfl, hS, hlen, fun d g H1 de sm hd0 hg0 => ?_⟩
    have T1 := hT.ext sm
    refine ⟨_, rfl, a, _, rfl, .inl (sm.seq hS), _, _, rfl, rfl, ⟨by decide, by decide⟩, _, _, rfl, _, _, rfl, rfl, _, rfl, (by split <;> omega), (by split <;> omega), for_range (fun i σ H' => (∃ v2 v3 v4 v5 v6 v7 v8 v9 v10 v11 v12 v13, σ = [some (.ref a), some (.ref d), v2, v3, v4, v5, v6, v7, v8, v9, v10, v11, v12, v13]) ∧ DrawE H' d g ∧ Tabs (tabs P1 P2 P3 P4) H') ⟨⟨_, _, _, _, _, _, _, _, _, _, _, _, rfl⟩, de, T1⟩ ?_ ?_⟩
    rotate_left
    · rintro σ' H2 ⟨⟨v2, v3, v4, v5, v6, v7, v8, v9, v10, v11, v12, v13, rfl⟩, de2, T2⟩
      exact ⟨rfl, T2, fun H3 => k H3⟩
    rintro i σ' H2 hi ⟨⟨v2, v3, v4, v5, v6, v7, v8, v9, v10, v11, v12, v13, rfl⟩, de2, T2⟩
    -- z
    refine ⟨by show 4 ≤ sizeLine; decide, fun Lz hLz => ?_⟩
    have yz0 := same_new (o := .lst [.int 8, .int 16, .int 64, .int 4096]) hLz
    have yyz := yz0
    have eLz := upd_same (H := H2) (a := Lz) (o := .lst [.int 8, .int 16, .int 64, .int 4096])
    obtain ⟨r0, t0, gs0, dr0⟩ := id de2
    have nLz : Lz ≠ d ∧ Lz ≠ g := ⟨(ne_of_none (dr0.dc) hLz).symm, (ne_of_none (dr0.gl) hLz).symm⟩
    change tCall _ _ _ _ _ (upd H2 Lz (.lst [.int 8, .int 16, .int 64, .int 4096])) _
    generalize (upd H2 Lz (.lst [.int 8, .int 16, .int 64, .int 4096])) = Hza at yyz eLz ⊢
    have deza := de2.same yyz
    have Tza := T2.ext yyz
    refine ⟨_, rfl, d, g, 4, rfl, deza, by decide, by decide, fun nz Hz hnz dez kpz => ?_⟩
    obtain ⟨z, hz, evz⟩ := pickZ nz hnz
    refine ⟨Lz, _, (nz : Int), _, rfl, rfl, SqL.of (kpz Lz _ eLz nLz.1 nLz.2), atI_nat evz, ?_⟩
    have Tz := tabK deza Tza kpz
    have h8 := hz.pos
    obtain ⟨rz, tz, gsz, drz⟩ := id dez
    -- table
    refine ⟨_, rfl, rfl, rfl, fun p dx hp hdx hne => ⟨p, dx, .int (z : Int), rfl, upd_same, .int _, fun n' e' hn' l H3 tb kp hl => ⟨rfl, ?_⟩, fun e => (by rw [isSz_int (show (z : Int) ∈ sizesI from hz)] at e; cases e)⟩⟩
    cases e'
    have sm3 : Same Hz H3 := fun b o e => kp b o (ne_of_none e hp) (by
      rw [upd_ne (ne_of_none e hp)]
      exact same_new hdx _ _ e)
    have tb : TabAt C H3 p l (ro0 z) := tb
    have nlg : l ≠ g := by
      rintro rfl
      have q : upd (upd Hz dx (.own p)) p (.ins C dx []) l = some (.lst (gsz.map V.int)) := by
        rw [upd_ne (ne_of_none drz.gl hp), upd_ne (ne_of_none drz.gl hdx)]
        exact drz.gl
      rw [q] at hl
      cases hl
    have W3 : Wt (tabs P1 P2 P3 P4) C d g p l H3 (ro0 z) := ⟨dez.same sm3, tb, nlg, by rw [ro0_len]; exact hz, Tz.ext sm3⟩
    obtain ⟨dx3, hob3⟩ := W3.tb.ob
    have aL : asC (V.int 4294967295) = some 4294967295 := asC_nat (m := 4294967295) (by decide)
    have a0 : asC (V.int 0) = some 0 := asC_nat (m := 0) (by decide)
    have aB : asN (V.int ((10 : Int) ^ (30 : Int).toNat)) = some (10 ^ 30) := by decide +kernel
    -- first
    refine ⟨_, rfl, p, dx3, _, rfl, hob3, rfl, rfl, p, l, ro0 z, .int 4294967295, .int 0, rfl, W3.tb, W3.hz, .int _, .int _, (fun e => by rw [aL] at e; cases e), (fun _ _ e => by cases e), fun cn n hcn hn => ⟨fun j fa => ?_, fun nf => ?_⟩⟩
    rotate_left
    · rw [aL] at hcn
      cases hcn
      exact (free_no (free_last hz) nf).elim
    rw [aL] at hcn
    cases hcn
    cases hn
    obtain rfl := free_uni (free_last hz) fa
    have q1 : (ro0 z).set (sA (ro0 z).length 4294967295 0) ((0 : Nat) : Int) = ro1 z := by rw [ro0_len, sA_last hz]; rfl
    have q2 : sA (ro0 z).length 4294967295 0 = z - 1 := by rw [ro0_len, sA_last hz]
    have W4 : Wt (tabs P1 P2 P3 P4) C d g p l (upd H3 l (.lst ((ro1 z).map V.int))) (ro1 z) := W3.set (by rw [ro1_len, ro0_len])
    rw [show (ro0 z).set (sA (ro0 z).length 4294967295 0) ((((0 : Int).toNat) : Nat) : Int) = ro1 z from q1, q2]
    generalize upd H3 l (.lst ((ro1 z).map V.int)) = H4 at W4 ⊢
    obtain ⟨dx4, hob4⟩ := W4.tb.ob
    -- second
    refine ⟨_, rfl, p, dx4, _, rfl, hob4, rfl, _, _, rfl, rfl, ⟨by decide, by decide, by decide⟩, p, l, ro1 z, .int 0, .int ((10 : Int) ^ (30 : Int).toNat), rfl, W4.tb, W4.hz, .int _, .int _, (fun e => by rw [a0] at e; cases e), (fun _ _ e => by rw [aB] at e; cases e), fun cn n hcn hn => ⟨fun j fa => ?_, fun nf => ?_⟩⟩
    rotate_left
    · rw [a0] at hcn
      cases hcn
      exact (free_no (free_zero hz) nf).elim
    rw [a0] at hcn
    rw [aB] at hn
    cases hcn
    cases hn
    obtain rfl := free_uni (free_zero hz) fa
    have q3 : sA (ro1 z).length 0 0 = 0 := Nat.zero_mod _
    have q4 : (ro1 z).set (sA (ro1 z).length 0 0) ((10 ^ 30 : Nat) : Int) = ro2 z := by
      rw [q3]
      unfold ro2
      rw [show ((10 ^ 30 : Nat) : Int) = big by decide +kernel]
    have W5 : Wt (tabs P1 P2 P3 P4) C d g p l (upd H4 l (.lst ((ro2 z).map V.int))) (ro2 z) := W4.set (by rw [ro2_len, ro1_len])
    rw [q4, q3]
    generalize upd H4 l (.lst ((ro2 z).map V.int)) = H5 at W5 ⊢
    refine ⟨by show 2 ≤ sizeLine; decide, fun t0 ht0 => ⟨t0, _, rfl, SqT.of upd_same, rfl, _, _, rfl, _, _, rfl, rfl, ?_⟩⟩
    have y6 := same_new (o := .tup [.int ((z - 1 : Nat) : Int), .int ((0 : Nat) : Int)]) ht0
    have W6 := W5.same y6
    generalize upd H5 t0 (.tup [.int ((z - 1 : Nat) : Int), .int ((0 : Nat) : Int)]) = H6 at W6 ⊢
    obtain ⟨dx6, hob6⟩ := W6.tb.ob
    -- erase
    refine ⟨_, rfl, p, dx6, _, rfl, hob6, rfl, _, rfl, rfl, p, l, ro2 z, .int ((z - 1 : Nat) : Int), rfl, W6.tb, .int _, (fun j y hj hy h0 => ?_), fun bad => ?_⟩
    rotate_left
    · have := bad (z - 1) 0 (asS_nat (by rw [ro2_len]; omega)) (ro2_last h8.1)
      exact absurd this (by decide)
    obtain ⟨ej, _⟩ := asS_some hj
    have ej : ((z - 1 : Nat) : Int) = (j : Int) := V.int.inj ej
    obtain rfl : j = z - 1 := by omega
    have W7 : Wt (tabs P1 P2 P3 P4) C d g p l (upd H6 l (.lst ((ro3 z).map V.int))) (ro3 z) := W6.set (by rw [ro3_len, ro2_len])
    rw [show (ro2 z).set (z - 1) (-2) = ro3 z from rfl]
    generalize upd H6 l (.lst ((ro3 z).map V.int)) = H7 at W7 ⊢
    obtain ⟨dx7, hob7⟩ := W7.tb.ob
    -- kept
    refine ⟨_, rfl, p, dx7, _, rfl, hob7, rfl, p, l, ro3 z, rfl, W7.tb, fun tk htk => ?_⟩
    have y8 := same_new (o := .tup ((ro3 z).map V.int)) htk
    have W8 := W7.same y8
    have tk8 : upd H7 tk (.tup ((ro3 z).map V.int)) tk = some (.tup ((ro3 z).map V.int)) := upd_same
    have ntk : tk ≠ d ∧ tk ≠ g := by
      obtain ⟨r0, t0, gs0, dr0⟩ := id W7.de
      exact ⟨(ne_of_none dr0.dc htk).symm, (ne_of_none dr0.gl htk).symm⟩
    generalize upd H7 tk (.tup ((ro3 z).map V.int)) = H8 at W8 tk8 ⊢
    -- o
    refine ⟨by show 1 ≤ sizeLine; decide, fun ox7 hox7 => ⟨_, rfl, by show 9 ≤ sizeLine; decide, fun Lo hLo => ?_⟩⟩
    have yo0 := same_new (o := .tup [.int 8]) hox7
    have yo1 := same_new (o := .lst [.non, .int 0, .int 7, .int 24, .int 8192, .bl true, .str "8", .ref ox7, .int (-8)]) hLo
    have yyo := yo0.trans (yo1)
    have eox7 := yo1 _ _ (upd_same (H := H8) (a := ox7) (o := .tup [.int 8]))
    have eLo := upd_same (H := (upd H8 ox7 (.tup [.int 8]))) (a := Lo) (o := .lst [.non, .int 0, .int 7, .int 24, .int 8192, .bl true, .str "8", .ref ox7, .int (-8)])
    obtain ⟨r0, t0, gs0, dr0⟩ := id W8.de
    have nox7 : ox7 ≠ d ∧ ox7 ≠ g := ⟨(ne_of_none (dr0.dc) hox7).symm, (ne_of_none (dr0.gl) hox7).symm⟩
    have nLo : Lo ≠ d ∧ Lo ≠ g := ⟨(ne_of_none (yo0 _ _ (dr0.dc)) hLo).symm, (ne_of_none (yo0 _ _ (dr0.gl)) hLo).symm⟩
    change tCall _ _ _ _ _ (upd (upd H8 ox7 (.tup [.int 8])) Lo (.lst [.non, .int 0, .int 7, .int 24, .int 8192, .bl true, .str "8", .ref ox7, .int (-8)])) _
    generalize (upd (upd H8 ox7 (.tup [.int 8])) Lo (.lst [.non, .int 0, .int 7, .int 24, .int 8192, .bl true, .str "8", .ref ox7, .int (-8)])) = Hoa at yyo eox7 eLo ⊢
    have Woa := W8.same yyo
    refine ⟨_, rfl, d, g, 9, rfl, Woa.de, by decide, by decide, fun no Ho hno deo kpo => ?_⟩
    obtain ⟨vo, evo, oo, bo⟩ := pickO (d := d) (g := g) eox7 nox7 no hno
    refine ⟨Lo, _, (no : Int), _, rfl, rfl, SqL.of (kpo Lo _ eLo nLo.1 nLo.2), atI_nat evo, ?_⟩
    have Wo := Woa.draw kpo deo
    have oo := oo.kept deo kpo
    have tk8 := kpo _ _ (yyo _ _ tk8) ntk.1 ntk.2
    -- w
    refine ⟨_, rfl, by show 1 ≤ sizeLine; decide, fun wx5 hwx5 => ⟨by show 0 ≤ sizeLine; decide, fun wx6 hwx6 => ⟨_, _, rfl, rfl, ⟨by decide, by decide, by decide⟩, by show 8 ≤ sizeLine; decide, fun Lw hLw => ?_⟩⟩⟩
    have yw0 := same_new (o := .tup [.int 0]) hwx5
    have yw1 := same_new (o := .lst []) hwx6
    have yw2 := same_new (o := .lst [.non, .int (-1), .int 4294967296, .bl true, .str "0", .ref wx5, .ref wx6, .int ((10 : Int) ^ (30 : Int).toNat)]) hLw
    have yyw := yw0.trans (yw1.trans (yw2))
    have ewx5 := yw2 _ _ (yw1 _ _ (upd_same (H := Ho) (a := wx5) (o := .tup [.int 0])))
    have ewx6 := yw2 _ _ (upd_same (H := (upd Ho wx5 (.tup [.int 0]))) (a := wx6) (o := .lst []))
    have eLw := upd_same (H := (upd (upd Ho wx5 (.tup [.int 0])) wx6 (.lst []))) (a := Lw) (o := .lst [.non, .int (-1), .int 4294967296, .bl true, .str "0", .ref wx5, .ref wx6, .int ((10 : Int) ^ (30 : Int).toNat)])
    obtain ⟨r0, t0, gs0, dr0⟩ := id Wo.de
    have nwx5 : wx5 ≠ d ∧ wx5 ≠ g := ⟨(ne_of_none (dr0.dc) hwx5).symm, (ne_of_none (dr0.gl) hwx5).symm⟩
    have nwx6 : wx6 ≠ d ∧ wx6 ≠ g := ⟨(ne_of_none (yw0 _ _ (dr0.dc)) hwx6).symm, (ne_of_none (yw0 _ _ (dr0.gl)) hwx6).symm⟩
    have nLw : Lw ≠ d ∧ Lw ≠ g := ⟨(ne_of_none (yw1 _ _ (yw0 _ _ (dr0.dc))) hLw).symm, (ne_of_none (yw1 _ _ (yw0 _ _ (dr0.gl))) hLw).symm⟩
    change tCall _ _ _ _ _ (upd (upd (upd Ho wx5 (.tup [.int 0])) wx6 (.lst [])) Lw (.lst [.non, .int (-1), .int 4294967296, .bl true, .str "0", .ref wx5, .ref wx6, .int ((10 : Int) ^ (30 : Int).toNat)])) _
    generalize (upd (upd (upd Ho wx5 (.tup [.int 0])) wx6 (.lst [])) Lw (.lst [.non, .int (-1), .int 4294967296, .bl true, .str "0", .ref wx5, .ref wx6, .int ((10 : Int) ^ (30 : Int).toNat)])) = Hwa at yyw ewx5 ewx6 eLw ⊢
    have Wwa := Wo.same yyw
    refine ⟨_, rfl, d, g, 8, rfl, Wwa.de, by decide, by decide, fun nw Hw hnw dew kpw => ?_⟩
    obtain ⟨vw, evw, ow, bw⟩ := pickW (d := d) (g := g) ewx5 nwx5 ewx6 nwx6 nw hnw
    refine ⟨Lw, _, (nw : Int), _, rfl, rfl, SqL.of (kpw Lw _ eLw nLw.1 nLw.2), atI_nat evw, ?_⟩
    have Ww := Wwa.draw kpw dew
    have ow := ow.kept dew kpw
    have tk8 := kpw _ _ (yyw _ _ tk8) ntk.1 ntk.2
    have oo := (oo.same yyw).kept dew kpw
    -- n
    refine ⟨_, rfl, by show 1 ≤ sizeLine; decide, fun nx4 hnx4 => ⟨by show 0 ≤ sizeLine; decide, fun nx5 hnx5 => ⟨_, rfl, by show 7 ≤ sizeLine; decide, fun Ln hLn => ?_⟩⟩⟩
    have yn0 := same_new (o := .tup [.int 1]) hnx4
    have yn1 := same_new (o := .lst []) hnx5
    have yn2 := same_new (o := .lst [.non, .int (-1), .bl true, .str "1", .ref nx4, .ref nx5, .int (-2)]) hLn
    have yyn := yn0.trans (yn1.trans (yn2))
    have enx4 := yn2 _ _ (yn1 _ _ (upd_same (H := Hw) (a := nx4) (o := .tup [.int 1])))
    have enx5 := yn2 _ _ (upd_same (H := (upd Hw nx4 (.tup [.int 1]))) (a := nx5) (o := .lst []))
    have eLn := upd_same (H := (upd (upd Hw nx4 (.tup [.int 1])) nx5 (.lst []))) (a := Ln) (o := .lst [.non, .int (-1), .bl true, .str "1", .ref nx4, .ref nx5, .int (-2)])
    obtain ⟨r0, t0, gs0, dr0⟩ := id Ww.de
    have nnx4 : nx4 ≠ d ∧ nx4 ≠ g := ⟨(ne_of_none (dr0.dc) hnx4).symm, (ne_of_none (dr0.gl) hnx4).symm⟩
    have nnx5 : nx5 ≠ d ∧ nx5 ≠ g := ⟨(ne_of_none (yn0 _ _ (dr0.dc)) hnx5).symm, (ne_of_none (yn0 _ _ (dr0.gl)) hnx5).symm⟩
    have nLn : Ln ≠ d ∧ Ln ≠ g := ⟨(ne_of_none (yn1 _ _ (yn0 _ _ (dr0.dc))) hLn).symm, (ne_of_none (yn1 _ _ (yn0 _ _ (dr0.gl))) hLn).symm⟩
    change tCall _ _ _ _ _ (upd (upd (upd Hw nx4 (.tup [.int 1])) nx5 (.lst [])) Ln (.lst [.non, .int (-1), .bl true, .str "1", .ref nx4, .ref nx5, .int (-2)])) _
    generalize (upd (upd (upd Hw nx4 (.tup [.int 1])) nx5 (.lst [])) Ln (.lst [.non, .int (-1), .bl true, .str "1", .ref nx4, .ref nx5, .int (-2)])) = Hna at yyn enx4 enx5 eLn ⊢
    have Wna := Ww.same yyn
    refine ⟨_, rfl, d, g, 7, rfl, Wna.de, by decide, by decide, fun nn Hn hnn den kpn => ?_⟩
    obtain ⟨vn, dn, evn, bn, cn⟩ := pickN (d := d) (g := g) enx4 nnx4 enx5 nnx5 nn hnn
    refine ⟨Ln, _, (nn : Int), _, rfl, rfl, SqL.of (kpn Ln _ eLn nLn.1 nLn.2), atI_nat evn, ?_⟩
    have Wn := Wna.draw kpn den
    have bn := bn.kept kpn
    have tk8 := kpn _ _ (yyn _ _ tk8) ntk.1 ntk.2
    have oo := (oo.same yyn).kept den kpn
    have ow := (ow.same yyn).kept den kpn
    -- s
    refine ⟨_, rfl, _, rfl, by show 1 ≤ sizeLine; decide, fun sx5 hsx5 => ⟨by show 0 ≤ sizeLine; decide, fun sx6 hsx6 => ⟨_, _, rfl, rfl, ⟨by decide, by decide, by decide⟩, by show 8 ≤ sizeLine; decide, fun Ls hLs => ?_⟩⟩⟩
    have ys0 := same_new (o := .tup [.int 0]) hsx5
    have ys1 := same_new (o := .lst []) hsx6
    have ys2 := same_new (o := .lst [.non, .int (-1), .int (z : Int), .bl true, .str "0", .ref sx5, .ref sx6, .int ((10 : Int) ^ (30 : Int).toNat)]) hLs
    have yys := ys0.trans (ys1.trans (ys2))
    have esx5 := ys2 _ _ (ys1 _ _ (upd_same (H := Hn) (a := sx5) (o := .tup [.int 0])))
    have esx6 := ys2 _ _ (upd_same (H := (upd Hn sx5 (.tup [.int 0]))) (a := sx6) (o := .lst []))
    have eLs := upd_same (H := (upd (upd Hn sx5 (.tup [.int 0])) sx6 (.lst []))) (a := Ls) (o := .lst [.non, .int (-1), .int (z : Int), .bl true, .str "0", .ref sx5, .ref sx6, .int ((10 : Int) ^ (30 : Int).toNat)])
    obtain ⟨r0, t0, gs0, dr0⟩ := id Wn.de
    have nsx5 : sx5 ≠ d ∧ sx5 ≠ g := ⟨(ne_of_none (dr0.dc) hsx5).symm, (ne_of_none (dr0.gl) hsx5).symm⟩
    have nsx6 : sx6 ≠ d ∧ sx6 ≠ g := ⟨(ne_of_none (ys0 _ _ (dr0.dc)) hsx6).symm, (ne_of_none (ys0 _ _ (dr0.gl)) hsx6).symm⟩
    have nLs : Ls ≠ d ∧ Ls ≠ g := ⟨(ne_of_none (ys1 _ _ (ys0 _ _ (dr0.dc))) hLs).symm, (ne_of_none (ys1 _ _ (ys0 _ _ (dr0.gl))) hLs).symm⟩
    change tCall _ _ _ _ _ (upd (upd (upd Hn sx5 (.tup [.int 0])) sx6 (.lst [])) Ls (.lst [.non, .int (-1), .int (z : Int), .bl true, .str "0", .ref sx5, .ref sx6, .int ((10 : Int) ^ (30 : Int).toNat)])) _
    generalize (upd (upd (upd Hn sx5 (.tup [.int 0])) sx6 (.lst [])) Ls (.lst [.non, .int (-1), .int (z : Int), .bl true, .str "0", .ref sx5, .ref sx6, .int ((10 : Int) ^ (30 : Int).toNat)])) = Hsa at yys esx5 esx6 eLs ⊢
    have Wsa := Wn.same yys
    refine ⟨_, rfl, d, g, 8, rfl, Wsa.de, by decide, by decide, fun ns Hs hns des kps => ?_⟩
    obtain ⟨vs, ds, evs, bs, cs⟩ := pickS (d := d) (g := g) (z := z) h8.2 (z400 h8.2) esx5 nsx5 esx6 nsx6 ns hns
    refine ⟨Ls, _, (ns : Int), _, rfl, rfl, SqL.of (kps Ls _ eLs nLs.1 nLs.2), atI_nat evs, ?_⟩
    have Ws := Wsa.draw kps des
    have bs := bs.kept kps
    have tk8 := kps _ _ (yys _ _ tk8) ntk.1 ntk.2
    have oo := (oo.same yys).kept des kps
    have ow := (ow.same yys).kept des kps
    have bn := (bn.same yys).kept kps
    -- g
    refine ⟨_, rfl, by show 1 ≤ sizeLine; decide, fun gx4 hgx4 => ⟨by show 0 ≤ sizeLine; decide, fun gx5 hgx5 => ⟨by show 6 ≤ sizeLine; decide, fun Lg hLg => ?_⟩⟩⟩
    have yg0 := same_new (o := .tup [.int 0]) hgx4
    have yg1 := same_new (o := .lst []) hgx5
    have yg2 := same_new (o := .lst [.non, .int (-3), .bl true, .str "0", .ref gx4, .ref gx5]) hLg
    have yyg := yg0.trans (yg1.trans (yg2))
    have egx4 := yg2 _ _ (yg1 _ _ (upd_same (H := Hs) (a := gx4) (o := .tup [.int 0])))
    have egx5 := yg2 _ _ (upd_same (H := (upd Hs gx4 (.tup [.int 0]))) (a := gx5) (o := .lst []))
    have eLg := upd_same (H := (upd (upd Hs gx4 (.tup [.int 0])) gx5 (.lst []))) (a := Lg) (o := .lst [.non, .int (-3), .bl true, .str "0", .ref gx4, .ref gx5])
    obtain ⟨r0, t0, gs0, dr0⟩ := id Ws.de
    have ngx4 : gx4 ≠ d ∧ gx4 ≠ g := ⟨(ne_of_none (dr0.dc) hgx4).symm, (ne_of_none (dr0.gl) hgx4).symm⟩
    have ngx5 : gx5 ≠ d ∧ gx5 ≠ g := ⟨(ne_of_none (yg0 _ _ (dr0.dc)) hgx5).symm, (ne_of_none (yg0 _ _ (dr0.gl)) hgx5).symm⟩
    have nLg : Lg ≠ d ∧ Lg ≠ g := ⟨(ne_of_none (yg1 _ _ (yg0 _ _ (dr0.dc))) hLg).symm, (ne_of_none (yg1 _ _ (yg0 _ _ (dr0.gl))) hLg).symm⟩
    change tCall _ _ _ _ _ (upd (upd (upd Hs gx4 (.tup [.int 0])) gx5 (.lst [])) Lg (.lst [.non, .int (-3), .bl true, .str "0", .ref gx4, .ref gx5])) _
    generalize (upd (upd (upd Hs gx4 (.tup [.int 0])) gx5 (.lst [])) Lg (.lst [.non, .int (-3), .bl true, .str "0", .ref gx4, .ref gx5])) = Hga at yyg egx4 egx5 eLg ⊢
    have Wga := Ws.same yyg
    refine ⟨_, rfl, d, g, 6, rfl, Wga.de, by decide, by decide, fun ng Hg hng deg kpg => ?_⟩
    obtain ⟨vg, dg, evg, bg, cg⟩ := pickG (d := d) (g := g) egx4 ngx4 egx5 ngx5 ng hng
    refine ⟨Lg, _, (ng : Int), _, rfl, rfl, SqL.of (kpg Lg _ eLg nLg.1 nLg.2), atI_nat evg, ?_⟩
    have Wg := Wga.draw kpg deg
    have bg := bg.kept kpg
    have tk8 := kpg _ _ (yyg _ _ tk8) ntk.1 ntk.2
    have oo := (oo.same yyg).kept deg kpg
    have ow := (ow.same yyg).kept deg kpg
    have bn := (bn.same yyg).kept kpg
    have bs := (bs.same yyg).kept kpg
    exact qT _ a d g p l tk z _ _ vw vn vs vg vo dn ds dg _ Hg (ro3 z) ⟨Wg, tk8, oo, ow, bn.b, bs.b, bg.b⟩ (ro3_len z) bo bw cn cs cg (ro3_last h8.1) (ro3_zero h8.1) (ro3_count h8.1) fun H' v9' W' => ⟨⟨_, _, _, _, _, _, _, _, _, _, _, _, rfl⟩, W'.de, W'.ts⟩
end
end K16
set_option Elab.async false
set_option linter.all false
set_option maxRecDepth 100000
set_option maxHeartbeats 4000000
namespace K16
open PySem L2 Xo Lm LamX
abbrev sX1 : Stmt := inClass (top 4) 0
theorem scX1 : FnScope ["self", "reason"] ["self", "reason"] (defScope sX1) := ⟨rfl, rfl, rfl, by decide +kernel, rfl, by decide +kernel, by decide +kernel⟩
abbrev sX2 : Stmt := inClass (top 5) 0
theorem scX2 : FnScope ["self", "reason"] ["self", "reason"] (defScope sX2) := ⟨rfl, rfl, rfl, by decide +kernel, rfl, by decide +kernel, by decide +kernel⟩
abbrev sX3 : Stmt := inClass (top 14) 0
theorem scX3 : FnScope ["self", "index"] ["self", "index"] (defScope sX3) := ⟨rfl, rfl, rfl, by decide +kernel, rfl, by decide +kernel, by decide +kernel⟩
abbrev sX4 : Stmt := inClass (top 17) 0
theorem scX4 : FnScope ["self", "limit"] ["self", "limit"] (defScope sX4) := ⟨rfl, rfl, rfl, by decide +kernel, rfl, by decide +kernel, by decide +kernel⟩
theorem all_mk {l : PySem.W.OpenLaw} {w : World} {K : PySem.W.Frag} {h : Heap} {mg : Str → Option Value} {fa fW fBt fCt fCo fNc fSz fNs fNi fPa fBg fNx fSd fCd cACd PCd fSl cASl PSl fFa cAFa PFa fL cAL PL C1 C2 C3 C4 Tt Aa Ff o1 o2 o3 o4 o5 o6 o7 o8 o9 mX1 mX2 mX3 mX4 Cc mMI mMV mMNsl mMT mMCn mMP mMPf mMEr mMTr mMSo pZp mZp aS : Addr} (X : K.In h) (G : h.Ns mainGlobals mg) (hfa : mg "law" = some (.ref fa))
    {odW anW : Option Addr} {slW : Array (Option Value)} {ocW kVW dcW pmW ctW : Value} {cdW : Value} {odBt anBt : Option Addr} {slBt : Array (Option Value)} {ocBt kVBt dcBt pmBt ctBt : Value} {cdBt : Value} {odCt anCt : Option Addr} {slCt : Array (Option Value)} {ocCt kVCt dcCt pmCt ctCt : Value} {cdCt : Value} {odCo anCo : Option Addr} {slCo : Array (Option Value)} {ocCo kVCo dcCo pmCo ctCo : Value} {cdCo : Value} {odNc anNc : Option Addr} {slNc : Array (Option Value)} {ocNc kVNc dcNc pmNc ctNc : Value} {cdNc : Value} {odSz anSz : Option Addr} {slSz : Array (Option Value)} {ocSz kVSz dcSz pmSz ctSz : Value} {cdSz : Value} {odNs anNs : Option Addr} {slNs : Array (Option Value)} {ocNs kVNs dcNs pmNs ctNs : Value} {cdNs : Value} {odNi anNi : Option Addr} {slNi : Array (Option Value)} {ocNi kVNi dcNi pmNi ctNi : Value} {cdNi : Value} {odPa anPa : Option Addr} {slPa : Array (Option Value)} {ocPa kVPa dcPa pmPa ctPa : Value} {cdPa : Value} {odBg anBg : Option Addr} {slBg : Array (Option Value)} {ocBg kVBg dcBg pmBg ctBg : Value} {cdBg : Value} {odNx anNx : Option Addr} {slNx : Array (Option Value)} {ocNx kVNx dcNx pmNx ctNx : Value} {cdNx : Value} {odSd anSd : Option Addr} {slSd : Array (Option Value)} {ocSd kVSd dcSd pmSd ctSd : Value} {cdSd : Value} {odCd anCd : Option Addr} {slCd : Array (Option Value)} {ocCd kVCd dcCd pmCd ctCd : Value} {xcCd : Value} {xdCd : Option Addr} {xvCd : Array Value} {xsCd : Array (Option Value)} {odSl anSl : Option Addr} {slSl : Array (Option Value)} {ocSl kVSl dcSl pmSl ctSl : Value} {xcSl : Value} {xdSl : Option Addr} {xvSl : Array Value} {xsSl : Array (Option Value)} {odFa anFa : Option Addr} {slFa : Array (Option Value)} {ocFa kVFa dcFa pmFa ctFa : Value} {xcFa : Value} {xdFa : Option Addr} {xvFa : Array Value} {xsFa : Array (Option Value)} {odL anL : Option Addr} {slL : Array (Option Value)} {ocL kVL dcL pmL ctL : Value} {xcL : Value} {xdL : Option Addr} {xvL : Array Value} {xsL : Array (Option Value)} {odX1 anX1 : Option Addr} {slX1 : Array (Option Value)} {ocX1 kVX1 dcX1 pmX1 ctX1 : Value} {cdX1 : Value} {odX2 anX2 : Option Addr} {slX2 : Array (Option Value)} {ocX2 kVX2 dcX2 pmX2 ctX2 : Value} {cdX2 : Value} {odX3 anX3 : Option Addr} {slX3 : Array (Option Value)} {ocX3 kVX3 dcX3 pmX3 ctX3 : Value} {cdX3 : Value} {odX4 anX4 : Option Addr} {slX4 : Array (Option Value)} {ocX4 kVX4 dcX4 pmX4 ctX4 : Value} {cdX4 : Value} {odMI anMI : Option Addr} {slMI : Array (Option Value)} {ocMI kVMI dcMI pmMI ctMI : Value} {cdMI : Value} {odMV anMV : Option Addr} {slMV : Array (Option Value)} {ocMV kVMV dcMV pmMV ctMV : Value} {cdMV : Value} {odMNsl anMNsl : Option Addr} {slMNsl : Array (Option Value)} {ocMNsl kVMNsl dcMNsl pmMNsl ctMNsl : Value} {cdMNsl : Value} {odMT anMT : Option Addr} {slMT : Array (Option Value)} {ocMT kVMT dcMT pmMT ctMT : Value} {cdMT : Value} {odMCn anMCn : Option Addr} {slMCn : Array (Option Value)} {ocMCn kVMCn dcMCn pmMCn ctMCn : Value} {cdMCn : Value} {odMP anMP : Option Addr} {slMP : Array (Option Value)} {ocMP kVMP dcMP pmMP ctMP : Value} {cdMP : Value} {odMPf anMPf : Option Addr} {slMPf : Array (Option Value)} {ocMPf kVMPf dcMPf pmMPf ctMPf : Value} {cdMPf : Value} {odMEr anMEr : Option Addr} {slMEr : Array (Option Value)} {ocMEr kVMEr dcMEr pmMEr ctMEr : Value} {cdMEr : Value} {odMTr anMTr : Option Addr} {slMTr : Array (Option Value)} {ocMTr kVMTr dcMTr pmMTr ctMTr : Value} {cdMTr : Value} {odMSo anMSo : Option Addr} {slMSo : Array (Option Value)} {ocMSo kVMSo dcMSo pmMSo ctMSo : Value} {cdMSo : Value} {restZp : List Value} {odZp anZp : Option Addr} {slZp : Array (Option Value)} {ocZp kVZp dcZp pmZp ctZp : Value} {cdZp : Value} {tEMPTY : Tok} {tHOLE : Tok} {tCODES : Tok} {tPUSH_SHARE : Tok} {tEXTRA : Tok} {its : Array Value} {nS0 : Nat} {dS : Option Addr} {slS : Array (Option Value)}
    (aW : PySem.W.nsIn K mainGlobals "is_whole" = some (some (.ref fW)))
    (lW : K.lookup fW = some ⟨ocW, odW, .func (PySem.W.fnOf "is_whole" "is_whole" (defArgs sWhole) (defBody sWhole) (defScope sWhole) .none kVW dcW pmW anW cdW ctW), slW⟩)
    (cW : PySem.W.codeIn K cdW "is_whole" = true)
    (kW : PySem.W.keepIn K (.ref fW) = true)
    (aBt : PySem.W.nsIn K mainGlobals "is_between" = some (some (.ref fBt)))
    (lBt : K.lookup fBt = some ⟨ocBt, odBt, .func (PySem.W.fnOf "is_between" "is_between" (defArgs sBetween) (defBody sBetween) (defScope sBetween) .none kVBt dcBt pmBt anBt cdBt ctBt), slBt⟩)
    (cBt : PySem.W.codeIn K cdBt "is_between" = true)
    (kBt : PySem.W.keepIn K (.ref fBt) = true)
    (aCt : PySem.W.nsIn K mainGlobals "is_count" = some (some (.ref fCt)))
    (lCt : K.lookup fCt = some ⟨ocCt, odCt, .func (PySem.W.fnOf "is_count" "is_count" (defArgs sCount) (defBody sCount) (defScope sCount) .none kVCt dcCt pmCt anCt cdCt ctCt), slCt⟩)
    (cCt : PySem.W.codeIn K cdCt "is_count" = true)
    (kCt : PySem.W.keepIn K (.ref fCt) = true)
    (aCo : PySem.W.nsIn K mainGlobals "is_code" = some (some (.ref fCo)))
    (lCo : K.lookup fCo = some ⟨ocCo, odCo, .func (PySem.W.fnOf "is_code" "is_code" (defArgs sCode) (defBody sCode) (defScope sCode) .none kVCo dcCo pmCo anCo cdCo ctCo), slCo⟩)
    (cCo : PySem.W.codeIn K cdCo "is_code" = true)
    (kCo : PySem.W.keepIn K (.ref fCo) = true)
    (aNc : PySem.W.nsIn K mainGlobals "need_code" = some (some (.ref fNc)))
    (lNc : K.lookup fNc = some ⟨ocNc, odNc, .func (PySem.W.fnOf "need_code" "need_code" (defArgs sNeedCode) (defBody sNeedCode) (defScope sNeedCode) .none kVNc dcNc pmNc anNc cdNc ctNc), slNc⟩)
    (cNc : PySem.W.codeIn K cdNc "need_code" = true)
    (kNc : PySem.W.keepIn K (.ref fNc) = true)
    (aSz : PySem.W.nsIn K mainGlobals "is_size" = some (some (.ref fSz)))
    (lSz : K.lookup fSz = some ⟨ocSz, odSz, .func (PySem.W.fnOf "is_size" "is_size" (defArgs sSize) (defBody sSize) (defScope sSize) .none kVSz dcSz pmSz anSz cdSz ctSz), slSz⟩)
    (cSz : PySem.W.codeIn K cdSz "is_size" = true)
    (kSz : PySem.W.keepIn K (.ref fSz) = true)
    (aNs : PySem.W.nsIn K mainGlobals "_need_size" = some (some (.ref fNs)))
    (lNs : K.lookup fNs = some ⟨ocNs, odNs, .func (PySem.W.fnOf "_need_size" "_need_size" (defArgs sNeedSize) (defBody sNeedSize) (defScope sNeedSize) .none kVNs dcNs pmNs anNs cdNs ctNs), slNs⟩)
    (cNs : PySem.W.codeIn K cdNs "_need_size" = true)
    (kNs : PySem.W.keepIn K (.ref fNs) = true)
    (aNi : PySem.W.nsIn K mainGlobals "_need_index" = some (some (.ref fNi)))
    (lNi : K.lookup fNi = some ⟨ocNi, odNi, .func (PySem.W.fnOf "_need_index" "_need_index" (defArgs sNeedIndex) (defBody sNeedIndex) (defScope sNeedIndex) .none kVNi dcNi pmNi anNi cdNi ctNi), slNi⟩)
    (cNi : PySem.W.codeIn K cdNi "_need_index" = true)
    (kNi : PySem.W.keepIn K (.ref fNi) = true)
    (aPa : PySem.W.nsIn K mainGlobals "path" = some (some (.ref fPa)))
    (lPa : K.lookup fPa = some ⟨ocPa, odPa, .func (PySem.W.fnOf "path" "path" (defArgs sPath) (defBody sPath) (defScope sPath) .none kVPa dcPa pmPa anPa cdPa ctPa), slPa⟩)
    (cPa : PySem.W.codeIn K cdPa "path" = true)
    (kPa : PySem.W.keepIn K (.ref fPa) = true)
    (aBg : PySem.W.nsIn K mainGlobals "_law_begun" = some (some (.ref fBg)))
    (lBg : K.lookup fBg = some ⟨ocBg, odBg, .func (PySem.W.fnOf "_law_begun" "_law_begun" (defArgs sBegun) (defBody sBegun) (defScope sBegun) .none kVBg dcBg pmBg anBg cdBg ctBg), slBg⟩)
    (cBg : PySem.W.codeIn K cdBg "_law_begun" = true)
    (kBg : PySem.W.keepIn K (.ref fBg) = true)
    (aNx : PySem.W.nsIn K mainGlobals "_law_next" = some (some (.ref fNx)))
    (lNx : K.lookup fNx = some ⟨ocNx, odNx, .func (PySem.W.fnOf "_law_next" "_law_next" (defArgs sNext) (defBody sNext) (defScope sNext) .none kVNx dcNx pmNx anNx cdNx ctNx), slNx⟩)
    (cNx : PySem.W.codeIn K cdNx "_law_next" = true)
    (kNx : PySem.W.keepIn K (.ref fNx) = true)
    (aSd : PySem.W.nsIn K mainGlobals "_law_said" = some (some (.ref fSd)))
    (lSd : K.lookup fSd = some ⟨ocSd, odSd, .func (PySem.W.fnOf "_law_said" "_law_said" (defArgs sSaid) (defBody sSaid) (defScope sSaid) .none kVSd dcSd pmSd anSd cdSd ctSd), slSd⟩)
    (cSd : PySem.W.codeIn K cdSd "_law_said" = true)
    (kSd : PySem.W.keepIn K (.ref fSd) = true)
    (aCd : PySem.W.nsIn K mainGlobals "_law_codes_right" = some (some (.ref fCd)))
    (lCd : K.lookup fCd = some ⟨ocCd, odCd, .func (PySem.W.fnOf "_law_codes_right" "_law_codes_right" (defArgs sCodes) (defBody sCodes) (defScope sCodes) .none kVCd dcCd pmCd anCd (.ref cACd) ctCd), slCd⟩)
    (cCd : PySem.W.codeIn K (.ref cACd) "_law_codes_right" = true)
    (kCd : PySem.W.keepIn K (.ref fCd) = true)
    (xCd : K.lookup cACd = some ⟨xcCd, xdCd, .fields xvCd, xsCd⟩)
    (yCd : xvCd[11]? = some (.ref PCd))
    (hCd : PySem.W.codeHdIn K cACd PCd = true)
    (nCd : K.lookup PCd = none)
    (tCd : h.get? PCd = some { cls := .none, data := .fields #[] })
    (aSl : PySem.W.nsIn K mainGlobals "_law_slots_right" = some (some (.ref fSl)))
    (lSl : K.lookup fSl = some ⟨ocSl, odSl, .func (PySem.W.fnOf "_law_slots_right" "_law_slots_right" (defArgs sSlots) (defBody sSlots) (defScope sSlots) .none kVSl dcSl pmSl anSl (.ref cASl) ctSl), slSl⟩)
    (cSl : PySem.W.codeIn K (.ref cASl) "_law_slots_right" = true)
    (kSl : PySem.W.keepIn K (.ref fSl) = true)
    (xSl : K.lookup cASl = some ⟨xcSl, xdSl, .fields xvSl, xsSl⟩)
    (ySl : xvSl[11]? = some (.ref PSl))
    (hSl : PySem.W.codeHdIn K cASl PSl = true)
    (nSl : K.lookup PSl = none)
    (tSl : h.get? PSl = some { cls := .none, data := .fields #[] })
    (aFa : PySem.W.nsIn K mainGlobals "_law_far_right" = some (some (.ref fFa)))
    (lFa : K.lookup fFa = some ⟨ocFa, odFa, .func (PySem.W.fnOf "_law_far_right" "_law_far_right" (defArgs sFar) (defBody sFar) (defScope sFar) .none kVFa dcFa pmFa anFa (.ref cAFa) ctFa), slFa⟩)
    (cFa : PySem.W.codeIn K (.ref cAFa) "_law_far_right" = true)
    (kFa : PySem.W.keepIn K (.ref fFa) = true)
    (xFa : K.lookup cAFa = some ⟨xcFa, xdFa, .fields xvFa, xsFa⟩)
    (yFa : xvFa[11]? = some (.ref PFa))
    (hFa : PySem.W.codeHdIn K cAFa PFa = true)
    (nFa : K.lookup PFa = none)
    (tFa : h.get? PFa = some { cls := .none, data := .fields #[] })
    (aL : PySem.W.nsIn K mainGlobals "law" = some (some (.ref fL)))
    (lL : K.lookup fL = some ⟨ocL, odL, .func (PySem.W.fnOf "law" "law" (defArgs sLaw) (defBody sLaw) (defScope sLaw) .none kVL dcL pmL anL (.ref cAL) ctL), slL⟩)
    (cL : PySem.W.codeIn K (.ref cAL) "law" = true)
    (kL : PySem.W.keepIn K (.ref fL) = true)
    (xL : K.lookup cAL = some ⟨xcL, xdL, .fields xvL, xsL⟩)
    (yL : xvL[11]? = some (.ref PL))
    (hL : PySem.W.codeHdIn K cAL PL = true)
    (nL : K.lookup PL = none)
    (tL : h.get? PL = some { cls := .none, data := .fields #[] })
    (neCdSl : PCd ≠ PSl)
    (neCdFa : PCd ≠ PFa)
    (neCdL : PCd ≠ PL)
    (neSlFa : PSl ≠ PFa)
    (neSlL : PSl ≠ PL)
    (neFaL : PFa ≠ PL)
    (gBadCode : PySem.W.nsIn K mainGlobals "BadCode" = some (some (.ref C1)))
    (gBadSize : PySem.W.nsIn K mainGlobals "BadSize" = some (some (.ref C2)))
    (gNoEntry : PySem.W.nsIn K mainGlobals "NoEntry" = some (some (.ref C3)))
    (gTooLarge : PySem.W.nsIn K mainGlobals "TooLarge" = some (some (.ref C4)))
    (gTableError : PySem.W.nsIn K mainGlobals "TableError" = some (some (.ref Tt)))
    (gAbsent : PySem.W.nsIn K mainGlobals "Absent" = some (some (.ref Aa)))
    (gFault : PySem.W.nsIn K mainGlobals "Fault" = some (some (.ref Ff)))
    (gBadKey : PySem.W.nsIn K mainGlobals "BadKey" = some (some (.ref o1)))
    (gBadLayout : PySem.W.nsIn K mainGlobals "BadLayout" = some (some (.ref o2)))
    (gBadPairs : PySem.W.nsIn K mainGlobals "BadPairs" = some (some (.ref o3)))
    (gBadPicture : PySem.W.nsIn K mainGlobals "BadPicture" = some (some (.ref o4)))
    (gBadStep : PySem.W.nsIn K mainGlobals "BadStep" = some (some (.ref o5)))
    (gBadView : PySem.W.nsIn K mainGlobals "BadView" = some (some (.ref o6)))
    (gMissing : PySem.W.nsIn K mainGlobals "Missing" = some (some (.ref o7)))
    (gEmpty : PySem.W.nsIn K mainGlobals "Empty" = some (some (.ref o8)))
    (gLocked : PySem.W.nsIn K mainGlobals "Locked" = some (some (.ref o9)))
    (u1E1 : PySem.W.excInitIn K C1 [.type "ValueError", .type "Exception", .type "BaseException", .type "object"] "ValueError.__new__" = true)
    (u2E1 : PySem.W.excOver K C1 [.type "ValueError", .type "Exception", .type "BaseException", .type "object"] = true)
    (u3E1 : PySem.W.hasDictIn K C1 = true)
    (u4E1 : PySem.W.findIn K (.ref C1) "__setattr__" = some (some (.builtin "object.__setattr__")))
    (u5E1 : PySem.W.findIn K (.ref C1) "__getattribute__" = some (some (.builtin "BaseException.__getattribute__")))
    (u6E1 : PySem.W.findIn K (.ref C1) "__getattr__" = some none)
    (u7E1 : PySem.W.subIn K (.ref C1) (.type "BaseException") = some true)
    (u8E1 : PySem.W.typeIn K (.ref C1) = some (.type "type"))
    (u9E1 : PySem.W.keepIn K (.ref C1) = true)
    (v1E1 : PySem.W.findIn K (.ref C1) "__class__" = some (some (.builtin "object.__class__")))
    (v2E1 : PySem.W.specialIn K (.builtin "object.__class__") "__get__" = some (some (.builtin "getset_descriptor.__get__")))
    (v3E1 : PySem.W.takesIn K (.builtin "object.__class__") = some true)
    (v4E1 : PySem.W.mroIn K C1 (.type "object") = some true)
    (aX1 : PySem.W.findIn K (.ref C1) "__init__" = some (some (.ref mX1)))
    (iX1 : PySem.W.typeIn K (.ref mX1) = some (.type "function"))
    (jX1 : PySem.W.findIn K (.ref C1) "reason" = some none)
    (lX1 : K.lookup mX1 = some ⟨ocX1, odX1, .func (PySem.W.fnOf "__init__" "BadCode.__init__" (defArgs sX1) (defBody sX1) (defScope sX1) .none kVX1 dcX1 pmX1 anX1 cdX1 ctX1), slX1⟩)
    (cX1 : PySem.W.codeIn K cdX1 "BadCode.__init__" = true)
    (kX1 : PySem.W.keepIn K (.ref mX1) = true)
    (u1E2 : PySem.W.excInitIn K C2 [.type "ValueError", .type "Exception", .type "BaseException", .type "object"] "ValueError.__new__" = true)
    (u2E2 : PySem.W.excOver K C2 [.type "ValueError", .type "Exception", .type "BaseException", .type "object"] = true)
    (u3E2 : PySem.W.hasDictIn K C2 = true)
    (u4E2 : PySem.W.findIn K (.ref C2) "__setattr__" = some (some (.builtin "object.__setattr__")))
    (u5E2 : PySem.W.findIn K (.ref C2) "__getattribute__" = some (some (.builtin "BaseException.__getattribute__")))
    (u6E2 : PySem.W.findIn K (.ref C2) "__getattr__" = some none)
    (u7E2 : PySem.W.subIn K (.ref C2) (.type "BaseException") = some true)
    (u8E2 : PySem.W.typeIn K (.ref C2) = some (.type "type"))
    (u9E2 : PySem.W.keepIn K (.ref C2) = true)
    (v1E2 : PySem.W.findIn K (.ref C2) "__class__" = some (some (.builtin "object.__class__")))
    (v2E2 : PySem.W.specialIn K (.builtin "object.__class__") "__get__" = some (some (.builtin "getset_descriptor.__get__")))
    (v3E2 : PySem.W.takesIn K (.builtin "object.__class__") = some true)
    (v4E2 : PySem.W.mroIn K C2 (.type "object") = some true)
    (aX2 : PySem.W.findIn K (.ref C2) "__init__" = some (some (.ref mX2)))
    (iX2 : PySem.W.typeIn K (.ref mX2) = some (.type "function"))
    (jX2 : PySem.W.findIn K (.ref C2) "reason" = some none)
    (lX2 : K.lookup mX2 = some ⟨ocX2, odX2, .func (PySem.W.fnOf "__init__" "BadSize.__init__" (defArgs sX2) (defBody sX2) (defScope sX2) .none kVX2 dcX2 pmX2 anX2 cdX2 ctX2), slX2⟩)
    (cX2 : PySem.W.codeIn K cdX2 "BadSize.__init__" = true)
    (kX2 : PySem.W.keepIn K (.ref mX2) = true)
    (u1E3 : PySem.W.excInitIn K C3 [.type "LookupError", .type "Exception", .type "BaseException", .type "object"] "LookupError.__new__" = true)
    (u2E3 : PySem.W.excOver K C3 [.type "LookupError", .type "Exception", .type "BaseException", .type "object"] = true)
    (u3E3 : PySem.W.hasDictIn K C3 = true)
    (u4E3 : PySem.W.findIn K (.ref C3) "__setattr__" = some (some (.builtin "object.__setattr__")))
    (u5E3 : PySem.W.findIn K (.ref C3) "__getattribute__" = some (some (.builtin "BaseException.__getattribute__")))
    (u6E3 : PySem.W.findIn K (.ref C3) "__getattr__" = some none)
    (u7E3 : PySem.W.subIn K (.ref C3) (.type "BaseException") = some true)
    (u8E3 : PySem.W.typeIn K (.ref C3) = some (.type "type"))
    (u9E3 : PySem.W.keepIn K (.ref C3) = true)
    (v1E3 : PySem.W.findIn K (.ref C3) "__class__" = some (some (.builtin "object.__class__")))
    (v2E3 : PySem.W.specialIn K (.builtin "object.__class__") "__get__" = some (some (.builtin "getset_descriptor.__get__")))
    (v3E3 : PySem.W.takesIn K (.builtin "object.__class__") = some true)
    (v4E3 : PySem.W.mroIn K C3 (.type "object") = some true)
    (aX3 : PySem.W.findIn K (.ref C3) "__init__" = some (some (.ref mX3)))
    (iX3 : PySem.W.typeIn K (.ref mX3) = some (.type "function"))
    (jX3 : PySem.W.findIn K (.ref C3) "index" = some none)
    (lX3 : K.lookup mX3 = some ⟨ocX3, odX3, .func (PySem.W.fnOf "__init__" "NoEntry.__init__" (defArgs sX3) (defBody sX3) (defScope sX3) .none kVX3 dcX3 pmX3 anX3 cdX3 ctX3), slX3⟩)
    (cX3 : PySem.W.codeIn K cdX3 "NoEntry.__init__" = true)
    (kX3 : PySem.W.keepIn K (.ref mX3) = true)
    (u1E4 : PySem.W.excInitIn K C4 [.type "RuntimeError", .type "Exception", .type "BaseException", .type "object"] "RuntimeError.__new__" = true)
    (u2E4 : PySem.W.excOver K C4 [.type "RuntimeError", .type "Exception", .type "BaseException", .type "object"] = true)
    (u3E4 : PySem.W.hasDictIn K C4 = true)
    (u4E4 : PySem.W.findIn K (.ref C4) "__setattr__" = some (some (.builtin "object.__setattr__")))
    (u5E4 : PySem.W.findIn K (.ref C4) "__getattribute__" = some (some (.builtin "BaseException.__getattribute__")))
    (u6E4 : PySem.W.findIn K (.ref C4) "__getattr__" = some none)
    (u7E4 : PySem.W.subIn K (.ref C4) (.type "BaseException") = some true)
    (u8E4 : PySem.W.typeIn K (.ref C4) = some (.type "type"))
    (u9E4 : PySem.W.keepIn K (.ref C4) = true)
    (v1E4 : PySem.W.findIn K (.ref C4) "__class__" = some (some (.builtin "object.__class__")))
    (v2E4 : PySem.W.specialIn K (.builtin "object.__class__") "__get__" = some (some (.builtin "getset_descriptor.__get__")))
    (v3E4 : PySem.W.takesIn K (.builtin "object.__class__") = some true)
    (v4E4 : PySem.W.mroIn K C4 (.type "object") = some true)
    (aX4 : PySem.W.findIn K (.ref C4) "__init__" = some (some (.ref mX4)))
    (iX4 : PySem.W.typeIn K (.ref mX4) = some (.type "function"))
    (jX4 : PySem.W.findIn K (.ref C4) "limit" = some none)
    (lX4 : K.lookup mX4 = some ⟨ocX4, odX4, .func (PySem.W.fnOf "__init__" "TooLarge.__init__" (defArgs sX4) (defBody sX4) (defScope sX4) .none kVX4 dcX4 pmX4 anX4 cdX4 ctX4), slX4⟩)
    (cX4 : PySem.W.codeIn K cdX4 "TooLarge.__init__" = true)
    (kX4 : PySem.W.keepIn K (.ref mX4) = true)
    (k0E1 : PySem.W.kitOne K (.ref C1) (.ref C1) = some true)
    (k1E1 : PySem.W.kitOne K (.ref C1) (.ref C2) = some false)
    (k2E1 : PySem.W.kitOne K (.ref C1) (.ref C3) = some false)
    (k3E1 : PySem.W.kitOne K (.ref C1) (.ref C4) = some false)
    (koE1 : PySem.W.kitAny K (.ref C1) [.ref o1, .ref o2, .ref o3, .ref o4, .ref o5, .ref o6, .ref o7, .ref o8, .ref o9] = some false)
    (kbVE1 : PySem.W.kitOne K (.ref C1) (.type "ValueError") = some true)
    (kbLE1 : PySem.W.kitOne K (.ref C1) (.type "LookupError") = some false)
    (kbRE1 : PySem.W.kitOne K (.ref C1) (.type "RuntimeError") = some false)
    (kxE1 : PySem.W.exmAny K (.ref C1) [.ref Tt, .ref Aa, .ref Ff] = some true)
    (k0E2 : PySem.W.kitOne K (.ref C2) (.ref C1) = some false)
    (k1E2 : PySem.W.kitOne K (.ref C2) (.ref C2) = some true)
    (k2E2 : PySem.W.kitOne K (.ref C2) (.ref C3) = some false)
    (k3E2 : PySem.W.kitOne K (.ref C2) (.ref C4) = some false)
    (koE2 : PySem.W.kitAny K (.ref C2) [.ref o1, .ref o2, .ref o3, .ref o4, .ref o5, .ref o6, .ref o7, .ref o8, .ref o9] = some false)
    (kbVE2 : PySem.W.kitOne K (.ref C2) (.type "ValueError") = some true)
    (kbLE2 : PySem.W.kitOne K (.ref C2) (.type "LookupError") = some false)
    (kbRE2 : PySem.W.kitOne K (.ref C2) (.type "RuntimeError") = some false)
    (kxE2 : PySem.W.exmAny K (.ref C2) [.ref Tt, .ref Aa, .ref Ff] = some true)
    (k0E3 : PySem.W.kitOne K (.ref C3) (.ref C1) = some false)
    (k1E3 : PySem.W.kitOne K (.ref C3) (.ref C2) = some false)
    (k2E3 : PySem.W.kitOne K (.ref C3) (.ref C3) = some true)
    (k3E3 : PySem.W.kitOne K (.ref C3) (.ref C4) = some false)
    (koE3 : PySem.W.kitAny K (.ref C3) [.ref o1, .ref o2, .ref o3, .ref o4, .ref o5, .ref o6, .ref o7, .ref o8, .ref o9] = some false)
    (kbVE3 : PySem.W.kitOne K (.ref C3) (.type "ValueError") = some false)
    (kbLE3 : PySem.W.kitOne K (.ref C3) (.type "LookupError") = some true)
    (kbRE3 : PySem.W.kitOne K (.ref C3) (.type "RuntimeError") = some false)
    (kxE3 : PySem.W.exmAny K (.ref C3) [.ref Tt, .ref Aa, .ref Ff] = some true)
    (gSlotTable : PySem.W.nsIn K mainGlobals "SlotTable" = some (some (.ref Cc)))
    (pgCc : PySem.W.plainGet K Cc Str.empty = true)
    (hdCc : PySem.W.hasDictIn K Cc = true)
    (poCc : PySem.W.plainOver K Cc = true)
    (saCc : PySem.W.findIn K (.ref Cc) "__setattr__" = some (some (.builtin "object.__setattr__")))
    (mkCc : PySem.W.makesIn K Cc = true)
    (kcCc : PySem.W.keepIn K (.ref Cc) = true)
    (nCc_slots : PySem.W.findIn K (.ref Cc) "_slots" = some none)
    (aMI : PySem.W.findIn K (.ref Cc) "__init__" = some (some (.ref mMI)))
    (iMI : PySem.W.isFn K (.ref mMI) = true)
    (lMI : K.lookup mMI = some ⟨ocMI, odMI, .func (PySem.W.fnOf "__init__" "SlotTable.__init__" (defArgs sInit) (defBody sInit) (defScope sInit) .none kVMI dcMI pmMI anMI cdMI ctMI), slMI⟩)
    (cMI : PySem.W.codeIn K cdMI "SlotTable.__init__" = true)
    (kMI : PySem.W.keepIn K (.ref mMI) = true)
    (aMV : PySem.W.findIn K (.ref Cc) "value_at" = some (some (.ref mMV)))
    (iMV : PySem.W.isFn K (.ref mMV) = true)
    (lMV : K.lookup mMV = some ⟨ocMV, odMV, .func (PySem.W.fnOf "value_at" "SlotTable.value_at" (defArgs sVal) (defBody sVal) (defScope sVal) .none kVMV dcMV pmMV anMV cdMV ctMV), slMV⟩)
    (cMV : PySem.W.codeIn K cdMV "SlotTable.value_at" = true)
    (kMV : PySem.W.keepIn K (.ref mMV) = true)
    (aMNsl : PySem.W.findIn K (.ref Cc) "_need_slot" = some (some (.ref mMNsl)))
    (iMNsl : PySem.W.isFn K (.ref mMNsl) = true)
    (lMNsl : K.lookup mMNsl = some ⟨ocMNsl, odMNsl, .func (PySem.W.fnOf "_need_slot" "SlotTable._need_slot" (defArgs sNS) (defBody sNS) (defScope sNS) .none kVMNsl dcMNsl pmMNsl anMNsl cdMNsl ctMNsl), slMNsl⟩)
    (cMNsl : PySem.W.codeIn K cdMNsl "SlotTable._need_slot" = true)
    (kMNsl : PySem.W.keepIn K (.ref mMNsl) = true)
    (aMT : PySem.W.findIn K (.ref Cc) "as_tuple" = some (some (.ref mMT)))
    (iMT : PySem.W.isFn K (.ref mMT) = true)
    (lMT : K.lookup mMT = some ⟨ocMT, odMT, .func (PySem.W.fnOf "as_tuple" "SlotTable.as_tuple" (defArgs sTup) (defBody sTup) (defScope sTup) .none kVMT dcMT pmMT anMT cdMT ctMT), slMT⟩)
    (cMT : PySem.W.codeIn K cdMT "SlotTable.as_tuple" = true)
    (kMT : PySem.W.keepIn K (.ref mMT) = true)
    (aMCn : PySem.W.findIn K (.ref Cc) "count_of" = some (some (.ref mMCn)))
    (iMCn : PySem.W.isFn K (.ref mMCn) = true)
    (lMCn : K.lookup mMCn = some ⟨ocMCn, odMCn, .func (PySem.W.fnOf "count_of" "SlotTable.count_of" (defArgs sCnt) (defBody sCnt) (defScope sCnt) .none kVMCn dcMCn pmMCn anMCn cdMCn ctMCn), slMCn⟩)
    (cMCn : PySem.W.codeIn K cdMCn "SlotTable.count_of" = true)
    (kMCn : PySem.W.keepIn K (.ref mMCn) = true)
    (aMP : PySem.W.findIn K (.ref Cc) "place" = some (some (.ref mMP)))
    (iMP : PySem.W.isFn K (.ref mMP) = true)
    (lMP : K.lookup mMP = some ⟨ocMP, odMP, .func (PySem.W.fnOf "place" "SlotTable.place" (defArgs sPlace) (defBody sPlace) (defScope sPlace) .none kVMP dcMP pmMP anMP cdMP ctMP), slMP⟩)
    (cMP : PySem.W.codeIn K cdMP "SlotTable.place" = true)
    (kMP : PySem.W.keepIn K (.ref mMP) = true)
    (aMPf : PySem.W.findIn K (.ref Cc) "_place_for" = some (some (.ref mMPf)))
    (iMPf : PySem.W.isFn K (.ref mMPf) = true)
    (lMPf : K.lookup mMPf = some ⟨ocMPf, odMPf, .func (PySem.W.fnOf "_place_for" "SlotTable._place_for" (defArgs sPF) (defBody sPF) (defScope sPF) .none kVMPf dcMPf pmMPf anMPf cdMPf ctMPf), slMPf⟩)
    (cMPf : PySem.W.codeIn K cdMPf "SlotTable._place_for" = true)
    (kMPf : PySem.W.keepIn K (.ref mMPf) = true)
    (aMEr : PySem.W.findIn K (.ref Cc) "erase" = some (some (.ref mMEr)))
    (iMEr : PySem.W.isFn K (.ref mMEr) = true)
    (lMEr : K.lookup mMEr = some ⟨ocMEr, odMEr, .func (PySem.W.fnOf "erase" "SlotTable.erase" (defArgs sErase) (defBody sErase) (defScope sErase) .none kVMEr dcMEr pmMEr anMEr cdMEr ctMEr), slMEr⟩)
    (cMEr : PySem.W.codeIn K cdMEr "SlotTable.erase" = true)
    (kMEr : PySem.W.keepIn K (.ref mMEr) = true)
    (aMTr : PySem.W.findIn K (.ref Cc) "trail" = some (some (.ref mMTr)))
    (iMTr : PySem.W.isFn K (.ref mMTr) = true)
    (lMTr : K.lookup mMTr = some ⟨ocMTr, odMTr, .func (PySem.W.fnOf "trail" "SlotTable.trail" (defArgs sTrail) (defBody sTrail) (defScope sTrail) .none kVMTr dcMTr pmMTr anMTr cdMTr ctMTr), slMTr⟩)
    (cMTr : PySem.W.codeIn K cdMTr "SlotTable.trail" = true)
    (kMTr : PySem.W.keepIn K (.ref mMTr) = true)
    (aMSo : PySem.W.findIn K (.ref Cc) "slot_of" = some (some (.ref mMSo)))
    (iMSo : PySem.W.isFn K (.ref mMSo) = true)
    (lMSo : K.lookup mMSo = some ⟨ocMSo, odMSo, .func (PySem.W.fnOf "slot_of" "SlotTable.slot_of" (defArgs sSlotOf) (defBody sSlotOf) (defScope sSlotOf) .none kVMSo dcMSo pmMSo anMSo cdMSo ctMSo), slMSo⟩)
    (cMSo : PySem.W.codeIn K cdMSo "SlotTable.slot_of" = true)
    (kMSo : PySem.W.keepIn K (.ref mMSo) = true)
    (n1st : PySem.W.subIn K (.ref C1) (.type "StopIteration") = some false)
    (qaZp : PySem.W.findIn K (.ref Cc) "size" = some (some (.ref pZp)))
    (qbZp : PySem.W.specialIn K (.ref pZp) "__get__" = some (some (.builtin "property.__get__")))
    (qcZp : PySem.W.takesIn K (.ref pZp) = some true)
    (qdZp : PySem.W.recIn K pZp "property" = some (.ref mZp :: restZp))
    (lZp : K.lookup mZp = some ⟨ocZp, odZp, .func (PySem.W.fnOf "size" "SlotTable.size" (defArgs sSz) (defBody sSz) (defScope sSz) .none kVZp dcZp pmZp anZp cdZp ctZp), slZp⟩)
    (cZp : PySem.W.codeIn K cdZp "SlotTable.size" = true)
    (kZp : PySem.W.keepIn K (.ref mZp) = true)
    (zisinstance : PySem.W.nsIn K mainGlobals "isinstance" = some none)
    (zint : PySem.W.nsIn K mainGlobals "int" = some none)
    (zbool : PySem.W.nsIn K mainGlobals "bool" = some none)
    (zlist : PySem.W.nsIn K mainGlobals "list" = some none)
    (zrange : PySem.W.nsIn K mainGlobals "range" = some none)
    (zlen : PySem.W.nsIn K mainGlobals "len" = some none)
    (zmin : PySem.W.nsIn K mainGlobals "min" = some none)
    (zmax : PySem.W.nsIn K mainGlobals "max" = some none)
    (zsorted : PySem.W.nsIn K mainGlobals "sorted" = some none)
    (zenumerate : PySem.W.nsIn K mainGlobals "enumerate" = some none)
    (zrepr : PySem.W.nsIn K mainGlobals "repr" = some none)
    (ztuple : PySem.W.nsIn K mainGlobals "tuple" = some none)
    (zdivmod : PySem.W.nsIn K mainGlobals "divmod" = some none)
    (zValueError : PySem.W.nsIn K mainGlobals "ValueError" = some none)
    (zLookupError : PySem.W.nsIn K mainGlobals "LookupError" = some none)
    (zRuntimeError : PySem.W.nsIn K mainGlobals "RuntimeError" = some none)
    (gEMPTY : PySem.W.nsIn K mainGlobals "EMPTY" = some (some (.int (-1) tEMPTY)))
    (gHOLE : PySem.W.nsIn K mainGlobals "HOLE" = some (some (.int (-2) tHOLE)))
    (gCODES : PySem.W.nsIn K mainGlobals "CODES" = some (some (.int 4294967296 tCODES)))
    (gPUSH_SHARE : PySem.W.nsIn K mainGlobals "PUSH_SHARE" = some (some (.int 32 tPUSH_SHARE)))
    (gEXTRA : PySem.W.nsIn K mainGlobals "EXTRA" = some (some (.int 6 tEXTRA)))
    (gS : PySem.W.nsIn K mainGlobals "SIZES" = some (some (.ref aS)))
    (lS : K.lookup aS = some ⟨.type "tuple", dS, .seq its nS0, slS⟩)
    (vS : Vals sizesV its.toList)
    (zS : its.size ≤ sizeLine) :
    Gd.LawAtG l w K 13 63 "script" mg fa h := by
  have FW := fun_mk (st := sWhole) lW cW kW
  have dW : Df K mg "is_whole" "is_whole" sWhole ["thing"] fW _ := ⟨FW, FW.binds (ps := ["thing"]) (fun _ _ _ _ _ _ us hl => match us, hl with | [_], _ => rfl), PySem.W.mg_of X G aW⟩
  have FBt := fun_mk (st := sBetween) lBt cBt kBt
  have dBt : Df K mg "is_between" "is_between" sBetween ["thing", "low", "high"] fBt _ := ⟨FBt, FBt.binds (ps := ["thing", "low", "high"]) (fun _ _ _ _ _ _ us hl => match us, hl with | [_, _, _], _ => rfl), PySem.W.mg_of X G aBt⟩
  have FCt := fun_mk (st := sCount) lCt cCt kCt
  have dCt : Df K mg "is_count" "is_count" sCount ["thing"] fCt _ := ⟨FCt, FCt.binds (ps := ["thing"]) (fun _ _ _ _ _ _ us hl => match us, hl with | [_], _ => rfl), PySem.W.mg_of X G aCt⟩
  have FCo := fun_mk (st := sCode) lCo cCo kCo
  have dCo : Df K mg "is_code" "is_code" sCode ["thing"] fCo _ := ⟨FCo, FCo.binds (ps := ["thing"]) (fun _ _ _ _ _ _ us hl => match us, hl with | [_], _ => rfl), PySem.W.mg_of X G aCo⟩
  have FNc := fun_mk (st := sNeedCode) lNc cNc kNc
  have dNc : Df K mg "need_code" "need_code" sNeedCode ["thing"] fNc _ := ⟨FNc, FNc.binds (ps := ["thing"]) (fun _ _ _ _ _ _ us hl => match us, hl with | [_], _ => rfl), PySem.W.mg_of X G aNc⟩
  have FSz := fun_mk (st := sSize) lSz cSz kSz
  have dSz : Df K mg "is_size" "is_size" sSize ["thing"] fSz _ := ⟨FSz, FSz.binds (ps := ["thing"]) (fun _ _ _ _ _ _ us hl => match us, hl with | [_], _ => rfl), PySem.W.mg_of X G aSz⟩
  have FNs := fun_mk (st := sNeedSize) lNs cNs kNs
  have dNs : Df K mg "_need_size" "_need_size" sNeedSize ["size"] fNs _ := ⟨FNs, FNs.binds (ps := ["size"]) (fun _ _ _ _ _ _ us hl => match us, hl with | [_], _ => rfl), PySem.W.mg_of X G aNs⟩
  have FNi := fun_mk (st := sNeedIndex) lNi cNi kNi
  have dNi : Df K mg "_need_index" "_need_index" sNeedIndex ["index"] fNi _ := ⟨FNi, FNi.binds (ps := ["index"]) (fun _ _ _ _ _ _ us hl => match us, hl with | [_], _ => rfl), PySem.W.mg_of X G aNi⟩
  have FPa := fun_mk (st := sPath) lPa cPa kPa
  have dPa : Df K mg "path" "path" sPath ["code", "size", "many"] fPa _ := ⟨FPa, FPa.binds (ps := ["code", "size", "many"]) (fun _ _ _ _ _ _ us hl => match us, hl with | [_, _, _], _ => rfl), PySem.W.mg_of X G aPa⟩
  have FBg := fun_mk (st := sBegun) lBg cBg kBg
  have dBg : Df K mg "_law_begun" "_law_begun" sBegun ["script"] fBg _ := ⟨FBg, FBg.binds (ps := ["script"]) (fun _ _ _ _ _ _ us hl => match us, hl with | [_], _ => rfl), PySem.W.mg_of X G aBg⟩
  have FNx := fun_mk (st := sNext) lNx cNx kNx
  have dNx : Df K mg "_law_next" "_law_next" sNext ["draw", "below"] fNx _ := ⟨FNx, FNx.binds (ps := ["draw", "below"]) (fun _ _ _ _ _ _ us hl => match us, hl with | [_, _], _ => rfl), PySem.W.mg_of X G aNx⟩
  have dSd : Ds K mg fSd := ⟨PySem.W.mg_of X G aSd, kSd, ⟨_, _, _, _, _, _, _, _, _, _, lSd, cSd, .all (fun us hl => match us, hl with | [_], _ => rfl)⟩⟩
  have dCd : Dc K mg "_law_codes_right" sCodes ["table", "wrong", "number"] fCd cACd _ := ⟨⟨_, _, _, _, _, _, _, _, rfl, lCd, cCd⟩, kCd, .all (fun us hl => match us, hl with | [_, _, _], _ => rfl), PySem.W.mg_of X G aCd⟩
  have dSl : Dc K mg "_law_slots_right" sSlots ["table", "spot"] fSl cASl _ := ⟨⟨_, _, _, _, _, _, _, _, rfl, lSl, cSl⟩, kSl, .all (fun us hl => match us, hl with | [_, _], _ => rfl), PySem.W.mg_of X G aSl⟩
  have dFa : Dc K mg "_law_far_right" sFar [] fFa cAFa _ := ⟨⟨_, _, _, _, _, _, _, _, rfl, lFa, cFa⟩, kFa, .all (fun us hl => match us, hl with | [], _ => rfl), PySem.W.mg_of X G aFa⟩
  have dL : Dc K mg "law" sLaw ["script"] fL cAL _ := ⟨⟨_, _, _, _, _, _, _, _, rfl, lL, cL⟩, kL, .all (fun us hl => match us, hl with | [_], _ => rfl), PySem.W.mg_of X G aL⟩
  have wE1 : Xo.XC K C1 := ⟨⟨"ValueError", _, _, _, PySem.F.excBase_ValueError, PySem.F.store_ValueError, u1E1, u2E1⟩, u3E1, u4E1, u5E1, u6E1, u7E1, u8E1, u9E1⟩
  have eE1 : ExcC K C1 := ⟨u5E1, u6E1, u7E1, u3E1, v1E1, v2E1, v3E1, v4E1⟩
  have FX1 := fun_mk (st := sX1) lX1 cX1 kX1
  have bX1 := FX1.binds (ps := ["self", "reason"]) (fun _ _ _ _ _ _ us hl => match us, hl with | [_, _], _ => rfl)
  have wE2 : Xo.XC K C2 := ⟨⟨"ValueError", _, _, _, PySem.F.excBase_ValueError, PySem.F.store_ValueError, u1E2, u2E2⟩, u3E2, u4E2, u5E2, u6E2, u7E2, u8E2, u9E2⟩
  have eE2 : ExcC K C2 := ⟨u5E2, u6E2, u7E2, u3E2, v1E2, v2E2, v3E2, v4E2⟩
  have FX2 := fun_mk (st := sX2) lX2 cX2 kX2
  have bX2 := FX2.binds (ps := ["self", "reason"]) (fun _ _ _ _ _ _ us hl => match us, hl with | [_, _], _ => rfl)
  have wE3 : Xo.XC K C3 := ⟨⟨"LookupError", _, _, _, PySem.F.excBase_LookupError, PySem.F.store_LookupError, u1E3, u2E3⟩, u3E3, u4E3, u5E3, u6E3, u7E3, u8E3, u9E3⟩
  have eE3 : ExcC K C3 := ⟨u5E3, u6E3, u7E3, u3E3, v1E3, v2E3, v3E3, v4E3⟩
  have FX3 := fun_mk (st := sX3) lX3 cX3 kX3
  have bX3 := FX3.binds (ps := ["self", "index"]) (fun _ _ _ _ _ _ us hl => match us, hl with | [_, _], _ => rfl)
  have wE4 : Xo.XC K C4 := ⟨⟨"RuntimeError", _, _, _, PySem.F.excBase_RuntimeError, PySem.F.store_RuntimeError, u1E4, u2E4⟩, u3E4, u4E4, u5E4, u6E4, u7E4, u8E4, u9E4⟩
  have eE4 : ExcC K C4 := ⟨u5E4, u6E4, u7E4, u3E4, v1E4, v2E4, v3E4, v4E4⟩
  have FX4 := fun_mk (st := sX4) lX4 cX4 kX4
  have bX4 := FX4.binds (ps := ["self", "limit"]) (fun _ _ _ _ _ _ us hl => match us, hl with | [_, _], _ => rfl)
  have RE1 : Row K C1 C1 C2 C3 C4 Tt Aa Ff [o1, o2, o3, o4, o5, o6, o7, o8, o9] true false false false true false false := ⟨k0E1, k1E1, k2E1, k3E1, koE1, kbVE1, kbLE1, kbRE1, kxE1, eE1, wE1⟩
  have RE2 : Row K C2 C1 C2 C3 C4 Tt Aa Ff [o1, o2, o3, o4, o5, o6, o7, o8, o9] false true false false true false false := ⟨k0E2, k1E2, k2E2, k3E2, koE2, kbVE2, kbLE2, kbRE2, kxE2, eE2, wE2⟩
  have RE3 : Row K C3 C1 C2 C3 C4 Tt Aa Ff [o1, o2, o3, o4, o5, o6, o7, o8, o9] false false true false false true false := ⟨k0E3, k1E3, k2E3, k3E3, koE3, kbVE3, kbLE3, kbRE3, kxE3, eE3, wE3⟩
  have MMI := fun_mk (st := sInit) lMI cMI kMI
  have bMI := MMI.binds (ps := ["self", "size"]) (fun _ _ _ _ _ _ us hl => match us, hl with | [_, _], _ => rfl)
  have eMI : Meth K Cc "__init__" mMI := ⟨aMI, iMI, kMI⟩
  have MMV := fun_mk (st := sVal) lMV cMV kMV
  have bMV := MMV.binds (ps := ["self", "slot"]) (fun _ _ _ _ _ _ us hl => match us, hl with | [_, _], _ => rfl)
  have eMV : Meth K Cc "value_at" mMV := ⟨aMV, iMV, kMV⟩
  have MMNsl := fun_mk (st := sNS) lMNsl cMNsl kMNsl
  have bMNsl := MMNsl.binds (ps := ["self", "slot"]) (fun _ _ _ _ _ _ us hl => match us, hl with | [_, _], _ => rfl)
  have eMNsl : Meth K Cc "_need_slot" mMNsl := ⟨aMNsl, iMNsl, kMNsl⟩
  have MMT := fun_mk (st := sTup) lMT cMT kMT
  have bMT := MMT.binds (ps := ["self"]) (fun _ _ _ _ _ _ us hl => match us, hl with | [_], _ => rfl)
  have eMT : Meth K Cc "as_tuple" mMT := ⟨aMT, iMT, kMT⟩
  have MMCn := fun_mk (st := sCnt) lMCn cMCn kMCn
  have bMCn := MMCn.binds (ps := ["self", "value"]) (fun _ _ _ _ _ _ us hl => match us, hl with | [_, _], _ => rfl)
  have eMCn : Meth K Cc "count_of" mMCn := ⟨aMCn, iMCn, kMCn⟩
  have MMP := fun_mk (st := sPlace) lMP cMP kMP
  have bMP := MMP.binds (ps := ["self", "code", "index"]) (fun _ _ _ _ _ _ us hl => match us, hl with | [_, _, _], _ => rfl)
  have eMP : Meth K Cc "place" mMP := ⟨aMP, iMP, kMP⟩
  have MMPf := fun_mk (st := sPF) lMPf cMPf kMPf
  have bMPf := MMPf.binds (ps := ["self", "code"]) (fun _ _ _ _ _ _ us hl => match us, hl with | [_, _], _ => rfl)
  have eMPf : Meth K Cc "_place_for" mMPf := ⟨aMPf, iMPf, kMPf⟩
  have MMEr := fun_mk (st := sErase) lMEr cMEr kMEr
  have bMEr := MMEr.binds (ps := ["self", "slot"]) (fun _ _ _ _ _ _ us hl => match us, hl with | [_, _], _ => rfl)
  have eMEr : Meth K Cc "erase" mMEr := ⟨aMEr, iMEr, kMEr⟩
  have MMTr := fun_mk (st := sTrail) lMTr cMTr kMTr
  have bMTr := MMTr.binds (ps := ["self", "code"]) (fun _ _ _ _ _ _ us hl => match us, hl with | [_, _], _ => rfl)
  have eMTr : Meth K Cc "trail" mMTr := ⟨aMTr, iMTr, kMTr⟩
  have MMSo := fun_mk (st := sSlotOf) lMSo cMSo kMSo
  have bMSo := MMSo.binds (ps := ["self", "code", "index"]) (fun _ _ _ _ _ _ us hl => match us, hl with | [_, _, _], _ => rfl)
  have eMSo : Meth K Cc "slot_of" mMSo := ⟨aMSo, iMSo, kMSo⟩
  have MZp := fun_mk (st := sSz) lZp cZp kZp
  have bZp := MZp.binds (ps := ["self"]) (fun _ _ _ _ _ _ us hl => match us, hl with | [_], _ => rfl)
  have e := hfa.symm.trans (PySem.W.mg_of X G aL)
  cases e
  have B : Bl mg := ⟨PySem.W.mg_none_of X G zisinstance, PySem.W.mg_none_of X G zint, PySem.W.mg_none_of X G zbool, PySem.W.mg_none_of X G zlist, PySem.W.mg_none_of X G zrange, PySem.W.mg_none_of X G zlen, PySem.W.mg_none_of X G zmin, PySem.W.mg_none_of X G zmax, PySem.W.mg_none_of X G zsorted, PySem.W.mg_none_of X G zenumerate, PySem.W.mg_none_of X G zrepr, PySem.W.mg_none_of X G ztuple, PySem.W.mg_none_of X G zdivmod⟩
  have N : Nm mg C1 C2 C3 C4 Tt Aa Ff o1 o2 o3 o4 o5 o6 o7 o8 o9 := ⟨PySem.W.mg_of X G gBadCode, PySem.W.mg_of X G gBadSize, PySem.W.mg_of X G gNoEntry, PySem.W.mg_of X G gTooLarge, PySem.W.mg_of X G gTableError, PySem.W.mg_of X G gAbsent, PySem.W.mg_of X G gFault, PySem.W.mg_of X G gBadKey, PySem.W.mg_of X G gBadLayout, PySem.W.mg_of X G gBadPairs, PySem.W.mg_of X G gBadPicture, PySem.W.mg_of X G gBadStep, PySem.W.mg_of X G gBadView, PySem.W.mg_of X G gMissing, PySem.W.mg_of X G gEmpty, PySem.W.mg_of X G gLocked, PySem.W.mg_none_of X G zValueError, PySem.W.mg_none_of X G zLookupError, PySem.W.mg_none_of X G zRuntimeError, PySem.W.mg_none_of X G zisinstance⟩
  have tS : TupK K aS sizesV := ⟨_, its, nS0, lS, rfl, rfl, zS, vS⟩
  have T : TT K mg Cc pZp mZp := ⟨⟨pgCc, hdCc, poCc, saCc⟩, nCc_slots, PySem.W.mg_of X G gSlotTable, ⟨qaZp, qbZp, qcZp, ⟨_, qdZp⟩⟩, ⟨_, PySem.W.mg_of X G gEMPTY⟩, ⟨_, PySem.W.mg_of X G gHOLE⟩, ⟨_, PySem.W.mg_of X G gEXTRA⟩⟩
  refine ⟨PySem.W.fnOf "law" "law" (defArgs sLaw) (defBody sLaw) (defScope sLaw) .none kVL dcL pmL anL (.ref cAL) ctL, [(cACd, PCd), (cASl, PSl), (cAFa, PFa), (cAL, PL)], spLaw K PCd PSl PFa PL, ?_, ?_, ?_, fun s v => .of_eq rfl, fun H a ns hl hH hS => ⟨a, ns, rfl, hS, hl, ?_, fun _ => rfl⟩, fun base hb hg hT => ?_⟩
  · exact List.forall_mem_cons.mpr ⟨tCd, List.forall_mem_cons.mpr ⟨tSl, List.forall_mem_cons.mpr ⟨tFa, List.forall_mem_cons.mpr ⟨tL, fun _ z => nomatch z⟩⟩⟩⟩
  · exact List.forall_mem_cons.mpr ⟨nCd, List.forall_mem_cons.mpr ⟨nSl, List.forall_mem_cons.mpr ⟨nFa, List.forall_mem_cons.mpr ⟨nL, fun _ z => nomatch z⟩⟩⟩⟩
  · exact List.forall_mem_cons.mpr ⟨PySem.W.codeHd_of_K X hCd, List.forall_mem_cons.mpr ⟨PySem.W.codeHd_of_K X hSl, List.forall_mem_cons.mpr ⟨PySem.W.codeHd_of_K X hFa, List.forall_mem_cons.mpr ⟨PySem.W.codeHd_of_K X hL, fun _ z => nomatch z⟩⟩⟩⟩
  · exact List.forall_mem_cons.mpr ⟨.nil (hH (cACd, PCd) (by simp)), List.forall_mem_cons.mpr ⟨.nil (hH (cASl, PSl) (by simp)), List.forall_mem_cons.mpr ⟨.nil (hH (cAFa, PFa) (by simp)), List.forall_mem_cons.mpr ⟨.nil (hH (cAL, PL) (by simp)), fun _ z => nomatch z⟩⟩⟩⟩
  have x1 : XK l.prog w K mg base "BadCode" C1 "reason" := ⟨PySem.W.mg_of X G gBadCode, wE1, jX1, ⟨mX1, _, aX1, iX1, bX1, Xo.ok_xinit FX1 scX1 rfl (by decide) (by decide)⟩⟩
  have x2 : XK l.prog w K mg base "BadSize" C2 "reason" := ⟨PySem.W.mg_of X G gBadSize, wE2, jX2, ⟨mX2, _, aX2, iX2, bX2, Xo.ok_xinit FX2 scX2 rfl (by decide) (by decide)⟩⟩
  have x3 : XK l.prog w K mg base "NoEntry" C3 "index" := ⟨PySem.W.mg_of X G gNoEntry, wE3, jX3, ⟨mX3, _, aX3, iX3, bX3, Xo.ok_xinit FX3 scX3 rfl (by decide) (by decide)⟩⟩
  have x4 : XK l.prog w K mg base "TooLarge" C4 "limit" := ⟨PySem.W.mg_of X G gTooLarge, wE4, jX4, ⟨mX4, _, aX4, iX4, bX4, Xo.ok_xinit FX4 scX4 rfl (by decide) (by decide)⟩⟩
  have gW := ok_whole (P := l.prog) (w := w) (base := base) dW B
  have gBt := ok_between dBt dW gW
  have gCt := ok_count dCt dW gW
  have gCo := ok_code dCo dBt gBt (PySem.W.mg_of X G gCODES)
  have gNc := ok_needCode dNc dCo gCo x1
  have gSz := ok_size dSz dW gW (PySem.W.mg_of X G gS) tS
  have gNs := ok_needSize dNs dSz gSz x2
  have gNi := ok_needIndex dNi dCt gCt x3
  have gPa : Pth.PathDef l.prog w K mg base 5 fPa _ := fun {_ _ _} => ok_path dPa dNc gNc dNs gNs dCt gCt (PySem.W.mg_of X G gPUSH_SHARE) B.range
  have hZ := ok_sz (P := l.prog) (w := w) (base := base) MZp T B
  have hI := ok_init MMI T dNs gNs
  have hNsl := ok_ns MMNsl T B dBt gBt bZp hZ x3
  have hV := ok_val MMV T eMNsl bMNsl hNsl
  have hTu := ok_tup (P := l.prog) (w := w) (base := base) MMT T B
  have hPf := ok_pf MMPf T dPa gPa bZp hZ x4
  have hPl := ok_place MMP T dNc gNc dNi gNi eMPf bMPf hPf
  have hEr := ok_erase MMEr T eMV bMV hV x3
  have M : Mk K Cc mMI := ⟨mkCc, aMI, iMI, kcCc⟩
  have gPr : Pr.RDef l.prog w K mg base 5 fPa _ ["code", "size", "many"] (spR C1) := @ok_pathR l.prog w K mg base fPa fNc C1 _ _ dPa dNc gNc
  have hTx := ok_trailX MMTr T dPa gPr n1st bZp hZ
  have hTr := ok_trail MMTr T dPa gPa bZp hZ
  have hSo := ok_slotOf MMSo T dNc gNc dNi gNi eMTr bMTr hTr
  have hCn := ok_cnt MMCn T dW gW x3
  have gBg := ok_begun (P := l.prog) (w := w) (base := base) dBg B
  have gNx := ok_next (P := l.prog) (w := w) (base := base) dNx B
  have tb1 : TabB base mg cACd PCd := hT (cACd, PCd) (by simp)
  have tb2 : TabB base mg cASl PSl := hT (cASl, PSl) (by simp)
  have tb3 : TabB base mg cAFa PFa := hT (cAFa, PFa) (by simp)
  have tb4 : TabB base mg cAL PL := hT (cAL, PL) (by simp)
  have gCd := ok_codes (P2 := PSl) (P3 := PFa) (P4 := PL) dCd B T dSd N eMP bMP hPl eMSo bMSo hSo eMTr bMTr (Mw.kbm1 fun _ _ => rfl) hTx tb1 neCdSl.symm neCdFa.symm neCdL.symm RE1 jX1 RE3 jX3
  have gSl := ok_slots (P1 := PCd) (P3 := PFa) (P4 := PL) dSl B T dSd N eMV bMV (Mw.kbm1 fun _ _ => rfl) hV eMEr bMEr hEr tb2 neCdSl neSlFa.symm neSlL.symm RE3 jX3
  have gFa := ok_far (P1 := PCd) (P2 := PSl) (P4 := PL) dFa B T dSd N eMV bMV hV eMEr bMEr hEr eMP bMP hPl eMSo bMSo hSo eMCn bMCn hCn M bMI hI tb3 neCdFa neSlFa neFaL.symm RE1 jX1 RE2 jX2 RE3 jX3
  exact ok_law dL B T dSd N dBg gBg dNx gNx dCd gCd dSl gSl dFa gFa eMV bMV hV eMEr bMEr (Mw.kbm1 fun _ _ => rfl) hEr eMP bMP (Mw.kbm2 fun _ _ _ => rfl) hPl eMSo (Mw.kbm2r fun _ _ _ => rfl) hSo eMCn bMCn (Mw.kbm1 fun _ _ => rfl) hCn M bMI (Mw.kbm1 fun _ _ => rfl) hI eMT bMT hTu tb4 neCdL neSlL neFaL RE2 jX2 RE3 jX3

theorem walk {l : PySem.W.OpenLaw} {q : Program} {loose : List Str} {XP : (Str → Option Value) → Heap → Prop} {YP : World → Heap → Prop} {d : DefRec} {K : Params → PySem.W.Frag} (hn : l.most = some 63) (hdf : d.params.defaults = [])
    (hY : ∀ (w : World) (h : Heap), YP w h → (K w.params).In h)
    (F : ∀ (w : World) (mg : Str → Option Value) (fa : Addr) (h : Heap), YP w h → (K w.params).In h → h.Ns mainGlobals mg → mg d.name = some (.ref fa) → Gd.LawAtG l w (K w.params) 13 63 "script" mg fa h) :
    PySem.W.WalkO q loose XP YP l.row.toRowW d [] (fun f vs => PySem.call f vs) := Gd.walk_ofG hn (by decide) hdf ⟨rfl, by decide, by decide⟩ hY F
end K16
open PySem PySem.W PyProof.Rows
set_option maxRecDepth 100000 in
set_option maxHeartbeats 0 in
theorem PySem.Challenge.cw_entryhall_k16_slot_calls_with_bad_argume_holds : PySem.Challenge.rw_entryhall_k16_slot_calls_with_bad_argume.Holds := by
  w_on; o_law; k_head; (case hw => w_witness2)
  k_fill
  refine K16.walk (l := PySem.Challenge.rw_entryhall_k16_slot_calls_with_bad_argume) rfl rfl (fun w h Y => PySem.W.km_in_of Y) ?F
  case F =>
    intro w mg fa h Y KX G hmg
    have hT8 := PySem.W.km_tabs_of Y
    refine' K16.all_mk KX G hmg ?aW ?lW ?cW ?kW ?aBt ?lBt ?cBt ?kBt ?aCt ?lCt ?cCt ?kCt ?aCo ?lCo ?cCo ?kCo ?aNc ?lNc ?cNc ?kNc ?aSz ?lSz ?cSz ?kSz ?aNs ?lNs ?cNs ?kNs ?aNi ?lNi ?cNi ?kNi ?aPa ?lPa ?cPa ?kPa ?aBg ?lBg ?cBg ?kBg ?aNx ?lNx ?cNx ?kNx ?aSd ?lSd ?cSd ?kSd ?aCd ?lCd ?cCd ?kCd ?xCd ?yCd ?hCd ?nCd ?tCd ?aSl ?lSl ?cSl ?kSl ?xSl ?ySl ?hSl ?nSl ?tSl ?aFa ?lFa ?cFa ?kFa ?xFa ?yFa ?hFa ?nFa ?tFa ?aL ?lL ?cL ?kL ?xL ?yL ?hL ?nL ?tL ?neCdSl ?neCdFa ?neCdL ?neSlFa ?neSlL ?neFaL ?gBadCode ?gBadSize ?gNoEntry ?gTooLarge ?gTableError ?gAbsent ?gFault ?gBadKey ?gBadLayout ?gBadPairs ?gBadPicture ?gBadStep ?gBadView ?gMissing ?gEmpty ?gLocked ?u1E1 ?u2E1 ?u3E1 ?u4E1 ?u5E1 ?u6E1 ?u7E1 ?u8E1 ?u9E1 ?v1E1 ?v2E1 ?v3E1 ?v4E1 ?aX1 ?iX1 ?jX1 ?lX1 ?cX1 ?kX1 ?u1E2 ?u2E2 ?u3E2 ?u4E2 ?u5E2 ?u6E2 ?u7E2 ?u8E2 ?u9E2 ?v1E2 ?v2E2 ?v3E2 ?v4E2 ?aX2 ?iX2 ?jX2 ?lX2 ?cX2 ?kX2 ?u1E3 ?u2E3 ?u3E3 ?u4E3 ?u5E3 ?u6E3 ?u7E3 ?u8E3 ?u9E3 ?v1E3 ?v2E3 ?v3E3 ?v4E3 ?aX3 ?iX3 ?jX3 ?lX3 ?cX3 ?kX3 ?u1E4 ?u2E4 ?u3E4 ?u4E4 ?u5E4 ?u6E4 ?u7E4 ?u8E4 ?u9E4 ?v1E4 ?v2E4 ?v3E4 ?v4E4 ?aX4 ?iX4 ?jX4 ?lX4 ?cX4 ?kX4 ?k0E1 ?k1E1 ?k2E1 ?k3E1 ?koE1 ?kbVE1 ?kbLE1 ?kbRE1 ?kxE1 ?k0E2 ?k1E2 ?k2E2 ?k3E2 ?koE2 ?kbVE2 ?kbLE2 ?kbRE2 ?kxE2 ?k0E3 ?k1E3 ?k2E3 ?k3E3 ?koE3 ?kbVE3 ?kbLE3 ?kbRE3 ?kxE3 ?gSlotTable ?pgCc ?hdCc ?poCc ?saCc ?mkCc ?kcCc ?nCc_slots ?aMI ?iMI ?lMI ?cMI ?kMI ?aMV ?iMV ?lMV ?cMV ?kMV ?aMNsl ?iMNsl ?lMNsl ?cMNsl ?kMNsl ?aMT ?iMT ?lMT ?cMT ?kMT ?aMCn ?iMCn ?lMCn ?cMCn ?kMCn ?aMP ?iMP ?lMP ?cMP ?kMP ?aMPf ?iMPf ?lMPf ?cMPf ?kMPf ?aMEr ?iMEr ?lMEr ?cMEr ?kMEr ?aMTr ?iMTr ?lMTr ?cMTr ?kMTr ?aMSo ?iMSo ?lMSo ?cMSo ?kMSo ?n1st ?qaZp ?qbZp ?qcZp ?qdZp ?lZp ?cZp ?kZp ?zisinstance ?zint ?zbool ?zlist ?zrange ?zlen ?zmin ?zmax ?zsorted ?zenumerate ?zrepr ?ztuple ?zdivmod ?zValueError ?zLookupError ?zRuntimeError ?gEMPTY ?gHOLE ?gCODES ?gPUSH_SHARE ?gEXTRA ?gS ?lS ?vS ?zS
    (case aW => k_is)
    (case lW => k_is)
    (case cW => k_is)
    (case kW => k_is)
    (case aBt => k_is)
    (case lBt => k_is)
    (case cBt => k_is)
    (case kBt => k_is)
    (case aCt => k_is)
    (case lCt => k_is)
    (case cCt => k_is)
    (case kCt => k_is)
    (case aCo => k_is)
    (case lCo => k_is)
    (case cCo => k_is)
    (case kCo => k_is)
    (case aNc => k_is)
    (case lNc => k_is)
    (case cNc => k_is)
    (case kNc => k_is)
    (case aSz => k_is)
    (case lSz => k_is)
    (case cSz => k_is)
    (case kSz => k_is)
    (case aNs => k_is)
    (case lNs => k_is)
    (case cNs => k_is)
    (case kNs => k_is)
    (case aNi => k_is)
    (case lNi => k_is)
    (case cNi => k_is)
    (case kNi => k_is)
    (case aPa => k_is)
    (case lPa => k_is)
    (case cPa => k_is)
    (case kPa => k_is)
    (case aBg => k_is)
    (case lBg => k_is)
    (case cBg => k_is)
    (case kBg => k_is)
    (case aNx => k_is)
    (case lNx => k_is)
    (case cNx => k_is)
    (case kNx => k_is)
    (case aSd => k_is)
    (case lSd => k_is)
    (case cSd => k_is)
    (case kSd => k_is)
    (case aCd => k_is)
    (case lCd => k_is)
    (case cCd => k_is)
    (case kCd => k_is)
    (case xCd => k_is)
    (case yCd => exact rfl)
    (case hCd => kernel_rfl)
    (case nCd => kernel_rfl)
    (case tCd => exact hT8 _ (by simp))
    (case aSl => k_is)
    (case lSl => k_is)
    (case cSl => k_is)
    (case kSl => k_is)
    (case xSl => k_is)
    (case ySl => exact rfl)
    (case hSl => kernel_rfl)
    (case nSl => kernel_rfl)
    (case tSl => exact hT8 _ (by simp))
    (case aFa => k_is)
    (case lFa => k_is)
    (case cFa => k_is)
    (case kFa => k_is)
    (case xFa => k_is)
    (case yFa => exact rfl)
    (case hFa => kernel_rfl)
    (case nFa => kernel_rfl)
    (case tFa => exact hT8 _ (by simp))
    (case aL => k_is)
    (case lL => k_is)
    (case cL => k_is)
    (case kL => k_is)
    (case xL => k_is)
    (case yL => exact rfl)
    (case hL => kernel_rfl)
    (case nL => kernel_rfl)
    (case tL => exact hT8 _ (by simp))
    (case neCdSl => decide)
    (case neCdFa => decide)
    (case neCdL => decide)
    (case neSlFa => decide)
    (case neSlL => decide)
    (case neFaL => decide)
    (case gBadCode => k_is)
    (case gBadSize => k_is)
    (case gNoEntry => k_is)
    (case gTooLarge => k_is)
    (case gTableError => k_is)
    (case gAbsent => k_is)
    (case gFault => k_is)
    (case gBadKey => k_is)
    (case gBadLayout => k_is)
    (case gBadPairs => k_is)
    (case gBadPicture => k_is)
    (case gBadStep => k_is)
    (case gBadView => k_is)
    (case gMissing => k_is)
    (case gEmpty => k_is)
    (case gLocked => k_is)
    (case u1E1 => kx_is)
    (case u2E1 => kx_is)
    (case u3E1 => k_is)
    (case u4E1 => k_is)
    (case u5E1 => k_is)
    (case u6E1 => k_is)
    (case u7E1 => k_is)
    (case u8E1 => k_is)
    (case u9E1 => k_is)
    (case v1E1 => k_is)
    (case v2E1 => k_is)
    (case v3E1 => k_is)
    (case v4E1 => k_is)
    (case aX1 => k_is)
    (case iX1 => k_is)
    (case jX1 => k_is)
    (case lX1 => k_is)
    (case cX1 => k_is)
    (case kX1 => k_is)
    (case u1E2 => kx_is)
    (case u2E2 => kx_is)
    (case u3E2 => k_is)
    (case u4E2 => k_is)
    (case u5E2 => k_is)
    (case u6E2 => k_is)
    (case u7E2 => k_is)
    (case u8E2 => k_is)
    (case u9E2 => k_is)
    (case v1E2 => k_is)
    (case v2E2 => k_is)
    (case v3E2 => k_is)
    (case v4E2 => k_is)
    (case aX2 => k_is)
    (case iX2 => k_is)
    (case jX2 => k_is)
    (case lX2 => k_is)
    (case cX2 => k_is)
    (case kX2 => k_is)
    (case u1E3 => kx_is)
    (case u2E3 => kx_is)
    (case u3E3 => k_is)
    (case u4E3 => k_is)
    (case u5E3 => k_is)
    (case u6E3 => k_is)
    (case u7E3 => k_is)
    (case u8E3 => k_is)
    (case u9E3 => k_is)
    (case v1E3 => k_is)
    (case v2E3 => k_is)
    (case v3E3 => k_is)
    (case v4E3 => k_is)
    (case aX3 => k_is)
    (case iX3 => k_is)
    (case jX3 => k_is)
    (case lX3 => k_is)
    (case cX3 => k_is)
    (case kX3 => k_is)
    (case u1E4 => kx_is)
    (case u2E4 => kx_is)
    (case u3E4 => k_is)
    (case u4E4 => k_is)
    (case u5E4 => k_is)
    (case u6E4 => k_is)
    (case u7E4 => k_is)
    (case u8E4 => k_is)
    (case u9E4 => k_is)
    (case v1E4 => k_is)
    (case v2E4 => k_is)
    (case v3E4 => k_is)
    (case v4E4 => k_is)
    (case aX4 => k_is)
    (case iX4 => k_is)
    (case jX4 => k_is)
    (case lX4 => k_is)
    (case cX4 => k_is)
    (case kX4 => k_is)
    (case k0E1 => kit_is)
    (case k1E1 => kit_is)
    (case k2E1 => kit_is)
    (case k3E1 => kit_is)
    (case koE1 => kit_is)
    (case kbVE1 => kit_is)
    (case kbLE1 => kit_is)
    (case kbRE1 => kit_is)
    (case kxE1 => kernel_rfl)
    (case k0E2 => kit_is)
    (case k1E2 => kit_is)
    (case k2E2 => kit_is)
    (case k3E2 => kit_is)
    (case koE2 => kit_is)
    (case kbVE2 => kit_is)
    (case kbLE2 => kit_is)
    (case kbRE2 => kit_is)
    (case kxE2 => kernel_rfl)
    (case k0E3 => kit_is)
    (case k1E3 => kit_is)
    (case k2E3 => kit_is)
    (case k3E3 => kit_is)
    (case koE3 => kit_is)
    (case kbVE3 => kit_is)
    (case kbLE3 => kit_is)
    (case kbRE3 => kit_is)
    (case kxE3 => kernel_rfl)
    (case gSlotTable => k_is)
    (case pgCc => k_is)
    (case hdCc => k_is)
    (case poCc => k_is)
    (case saCc => k_is)
    (case mkCc => k_is)
    (case kcCc => k_is)
    (case nCc_slots => k_is)
    (case aMI => k_is)
    (case iMI => k_is)
    (case lMI => k_is)
    (case cMI => k_is)
    (case kMI => k_is)
    (case aMV => k_is)
    (case iMV => k_is)
    (case lMV => k_is)
    (case cMV => k_is)
    (case kMV => k_is)
    (case aMNsl => k_is)
    (case iMNsl => k_is)
    (case lMNsl => k_is)
    (case cMNsl => k_is)
    (case kMNsl => k_is)
    (case aMT => k_is)
    (case iMT => k_is)
    (case lMT => k_is)
    (case cMT => k_is)
    (case kMT => k_is)
    (case aMCn => k_is)
    (case iMCn => k_is)
    (case lMCn => k_is)
    (case cMCn => k_is)
    (case kMCn => k_is)
    (case aMP => k_is)
    (case iMP => k_is)
    (case lMP => k_is)
    (case cMP => k_is)
    (case kMP => k_is)
    (case aMPf => k_is)
    (case iMPf => k_is)
    (case lMPf => k_is)
    (case cMPf => k_is)
    (case kMPf => k_is)
    (case aMEr => k_is)
    (case iMEr => k_is)
    (case lMEr => k_is)
    (case cMEr => k_is)
    (case kMEr => k_is)
    (case aMTr => k_is)
    (case iMTr => k_is)
    (case lMTr => k_is)
    (case cMTr => k_is)
    (case kMTr => k_is)
    (case aMSo => k_is)
    (case iMSo => k_is)
    (case lMSo => k_is)
    (case cMSo => k_is)
    (case kMSo => k_is)
    (case n1st => k_is)
    (case qaZp => k_is)
    (case qbZp => k_is)
    (case qcZp => k_is)
    (case qdZp => k_is)
    (case lZp => k_is)
    (case cZp => k_is)
    (case kZp => k_is)
    (case zisinstance => k_is)
    (case zint => k_is)
    (case zbool => k_is)
    (case zlist => k_is)
    (case zrange => k_is)
    (case zlen => k_is)
    (case zmin => k_is)
    (case zmax => k_is)
    (case zsorted => k_is)
    (case zenumerate => k_is)
    (case zrepr => k_is)
    (case ztuple => k_is)
    (case zdivmod => k_is)
    (case zValueError => k_is)
    (case zLookupError => k_is)
    (case zRuntimeError => k_is)
    (case gEMPTY => k_is)
    (case gHOLE => k_is)
    (case gCODES => k_is)
    (case gPUSH_SHARE => k_is)
    (case gEXTRA => k_is)
    (case gS => k_is)
    (case lS => k_is)
    (case vS => exact .cons ⟨_, rfl⟩ (.cons ⟨_, rfl⟩ (.cons ⟨_, rfl⟩ (.cons ⟨_, rfl⟩ (.cons ⟨_, rfl⟩ (.cons ⟨_, rfl⟩ (.cons ⟨_, rfl⟩ (.cons ⟨_, rfl⟩ (.cons ⟨_, rfl⟩ (.cons ⟨_, rfl⟩ (.nil)))))))))))
    (case zS => decide)
#print axioms PySem.Challenge.cw_entryhall_k16_slot_calls_with_bad_argume_holds
