import PyProof.Rows.All
import Wide.All
import OpenK.AllK
import Wide.FinOn
import PyProof.GenQ
import HandS.ForMost
import HandS.GenList
import HandS.ExcInit
import HandS.ExcIs
import HandS.ExcField
import HandS.Property
import KE.KExcInit
import HandS.IsInst
import HandS.Lambda
import KE.KDflt
import HandS.Deep
import HandS.SetFor
import HandS.EndTab
import PyProof.ReprRoads
import HandS.Style
import HandS.Flow
import HandS.Wide
import HandS.Small
import HandS.More
import HandS.Codes
import HandS.CallLocal
import HandS.ListEq
import HandS.ClsMeth
import HandS.Comp
import HandS.WordsExc
import PyProof.TupleOps
import HandS.Walk
import HandS.Dict
import HandS.Nested
import KE.KSuper
import HandS.Iter
import KE.GoesMore
import KE.GoesEnum
import HandS.Defaults
import HandS.TryOnly
import HandS.MakeKw
import HandS.TupAny
import KE.KIntText
import PyProof.Rows.StrBin
import HandS.MakeKwOnly
import KE.KNestM
import KE.KExcLine
import KE.RegKIsAll
import PySem.Challenge.RW_entryhall_k02_whole_key_objects_call_by
set_option Elab.async false
set_option linter.all false
set_option maxRecDepth 100000
set_option maxHeartbeats 1000000
/-! Fk: a run that wakes none of the generators that slept when it began leaves them as they were. Those that sleep are replaced by ones that look alike and cannot be woken;
a run over the replaced ones is a run over the real ones. -/
namespace Fk
open PySem
open Sem (wp)

/-- looks alike, cannot be woken -/
def fk : GenState → GenState
  | .suspended _ l c p fs cl => .suspended (fun _ => .unsupported "") l c p fs cl
  | x => x
theorem fk_seen (x : GenState) : (fk x).seen = x.seen := by cases x <;> rfl
theorem fk_bare (x : GenState) : (fk x).bare = x.bare := by cases x <;> rfl
def isSusp : GenState → Bool
  | .suspended .. => true
  | _ => false
def plainG : GenState → Prop
  | .suspended _ _ _ _ fs _ => splitAtGen fs = none
  | _ => True
def plainE : End → Prop
  | .susp _ _ _ _ _ _ fs => splitAtGen fs = none
  | .ret _ => True
theorem plainG_end {e : End} (h : plainE e) : plainG e.genState := by cases e <;> first | exact h | trivial
/-- F: which of them are replaced, by their places: what they are in truth. a: the replaced ones; b: the real ones -/
structure Rel (F : Nat → Option GenState) (a b : Array GenState) : Prop where
  size : b.size = a.size
  fake : ∀ (i : Nat) x, F i = some x → isSusp x = true ∧ a[i]? = some (fk x) ∧ b[i]? = some x
  same : ∀ (i : Nat), F i = none → b[i]? = a[i]?
  plain : ∀ (i : Nat) x, F i = none → a[i]? = some x → plainG x
variable {F : Nat → Option GenState} {a b : Array GenState}
theorem Rel.push (h : Rel F a b) (c : Code) : Rel F (a.push (.fresh c)) (b.push (.fresh c)) := by
  refine ⟨by simp [h.size], fun i x e => ?_, fun i e => ?_, fun i x e hx => ?_⟩
  · obtain ⟨q, k, l⟩ := h.fake i x e
    have l1 : i < a.size := (Array.getElem?_eq_some_iff.mp k).1
    have l2 : i < b.size := (Array.getElem?_eq_some_iff.mp l).1
    exact ⟨q, by rw [Array.getElem?_push, if_neg (by omega)]; exact k, by rw [Array.getElem?_push, if_neg (by omega)]; exact l⟩
  · rw [Array.getElem?_push, Array.getElem?_push, h.size, h.same i e]
  · rw [Array.getElem?_push] at hx
    split at hx
    · cases hx; trivial
    · exact h.plain i x e hx
theorem Rel.set (h : Rel F a b) {g : Nat} {x : GenState} (hF : F g = none) (hx : plainG x) : Rel F (a.setIfInBounds g x) (b.setIfInBounds g x) := by
  refine ⟨by simp [h.size], fun i y e => ?_, fun i e => ?_, fun i y e hy => ?_⟩
  · obtain ⟨q, k, l⟩ := h.fake i y e
    have ne : g ≠ i := fun z => by rw [z, e] at hF; cases hF
    exact ⟨q, by rw [Array.getElem?_setIfInBounds_ne ne]; exact k, by rw [Array.getElem?_setIfInBounds_ne ne]; exact l⟩
  · rw [Array.getElem?_setIfInBounds, Array.getElem?_setIfInBounds, h.size, h.same i e]
  · rw [Array.getElem?_setIfInBounds] at hy
    split at hy
    · split at hy
      · cases hy; exact hx
      · cases hy
    · exact h.plain i y e hy
theorem plain_app {a b : List Frame} (ha : splitAtGen a = none) (hb : splitAtGen b = none) : splitAtGen (a ++ b) = none := by
  induction a with
  | nil => exact hb
  | cons f t ih =>
    cases f with
    | ret k h g l c p kp =>
      have e : (splitAtGen t).map (fun x => (Frame.ret k h g l c p kp :: x.1, x.2.1, x.2.2)) = none := ha
      have e' : splitAtGen t = none := by
        cases q : splitAtGen t with
        | none => rfl
        | some z => rw [q] at e; cases e
      show (splitAtGen (t ++ b)).map (fun x => (Frame.ret k h g l c p kp :: x.1, x.2.1, x.2.2)) = none
      rw [ih e']; rfl
    | gen g k l c p => exact absurd (show some _ = none from ha) (fun z => nomatch z)
theorem plain_tail {k h g l c p kp} {fs : List Frame} (e : splitAtGen (.ret k h g l c p kp :: fs) = none) : splitAtGen fs = none := by
  have e : (splitAtGen fs).map (fun x => (Frame.ret k h g l c p kp :: x.1, x.2.1, x.2.2)) = none := e
  cases q : splitAtGen fs with
  | none => rfl
  | some z => rw [q] at e; cases e
variable {M : Model}
theorem no_unsup {Γ : Ctx} {p : Pos} {w : String} {fs : List Frame} {s s' : Shared} {e : End} (h : Runs M Γ p (.unsupported w) fs s e s') : False := by
  generalize ht : (Sem.unsupported w : Sem PySem.Fin) = t at h
  induction h <;> first | (cases ht; done) | (rename_i ih _; exact ih ht) | (rename_i ih _ _; exact ih ht) | (rename_i ih; exact ih ht)
/-- with other generators -/
abbrev gw (s : Shared) (G : Array GenState) : Shared := { s with gens := G }
/-- the run over the real ones -/
theorem runs_fk {Γ : Ctx} {p : Pos} {t : Sem PySem.Fin} {fs : List Frame} {s s' : Shared} {e : End} (h : Runs M Γ p t fs s e s') : splitAtGen fs = none → ∀ G, Rel F s.gens G →
    ∃ G', Runs M Γ p t fs (gw s G) e (gw s' G') ∧ Rel F s'.gens G' ∧ plainE e := by
  induction h with
  | done => intro _ G R; exact ⟨G, .done, R, trivial⟩
  | raise => intro _ G R; exact ⟨G, .raise, R, trivial⟩
  | again hq _ ih => intro hf G R; obtain ⟨r', h1, h2, h3⟩ := ih hf G R; exact ⟨r', .again hq h1, h2, h3⟩
  | rule _ ih => intro hf G R; obtain ⟨r', h1, h2, h3⟩ := ih hf G R; exact ⟨r', .rule h1, h2, h3⟩
  | «at» _ ih => intro hf G R; obtain ⟨r', h1, h2, h3⟩ := ih hf G R; exact ⟨r', .at h1, h2, h3⟩
  | load ho _ ih => intro hf G R; obtain ⟨r', h1, h2, h3⟩ := ih hf G R; exact ⟨r', .load ho h1, h2, h3⟩
  | update ha _ ih => intro hf G R; obtain ⟨r', h1, h2, h3⟩ := ih hf G R; exact ⟨r', .update ha h1, h2, h3⟩
  | loadIfAlive _ ih => intro hf G R; obtain ⟨r', h1, h2, h3⟩ := ih hf G R; exact ⟨r', .loadIfAlive h1, h2, h3⟩
  | point _ ih => intro hf G R; obtain ⟨r', h1, h2, h3⟩ := ih hf G R; exact ⟨r', .point h1, h2, h3⟩
  | alloc _ ih => intro hf G R; obtain ⟨r', h1, h2, h3⟩ := ih hf G R; exact ⟨r', .alloc h1, h2, h3⟩
  | fresh _ ih => intro hf G R; obtain ⟨r', h1, h2, h3⟩ := ih hf G R; exact ⟨r', .fresh h1, h2, h3⟩
  | ask _ ih => intro hf G R; obtain ⟨r', h1, h2, h3⟩ := ih hf G R; exact ⟨r', .ask h1, h2, h3⟩
  | choose hn _ ih => intro hf G R; obtain ⟨r', h1, h2, h3⟩ := ih hf G R; exact ⟨r', .choose hn h1, h2, h3⟩
  | os _ ih => intro hf G R; obtain ⟨r', h1, h2, h3⟩ := ih hf G R; exact ⟨r', .os h1, h2, h3⟩
  | handled _ ih => intro hf G R; obtain ⟨r', h1, h2, h3⟩ := ih hf G R; exact ⟨r', .handled h1, h2, h3⟩
  | @genState g st Γ p k s e s' hg hr ih =>
    intro hf G R
    obtain ⟨r', h1, h2, h3⟩ := ih hf G R
    cases q : F g with
    | none => exact ⟨r', .genState (by rw [← R.same g q] at hg; exact hg) h1, h2, h3⟩
    | some x =>
      obtain ⟨_, k1, k2⟩ := R.fake g x q
      rw [k1] at hg
      cases hg
      rw [fk_seen] at h1
      exact ⟨r', .genState k2 h1, h2, h3⟩
  | stack _ ih => intro hf G R; obtain ⟨r', h1, h2, h3⟩ := ih hf G R; exact ⟨r', .stack h1, h2, h3⟩
  | thread _ ih => intro hf G R; obtain ⟨r', h1, h2, h3⟩ := ih hf G R; exact ⟨r', .thread h1, h2, h3⟩
  | @newGen Γ p k s e s' c hr ih =>
    intro hf G R
    obtain ⟨r', h1, h2, h3⟩ := ih hf (G.push (.fresh c)) (R.push c)
    refine ⟨r', .newGen ?_, h2, h3⟩
    have := R.size
    rw [show (gw s G).gens.size = s.gens.size from R.size]
    exact h1
  | call _ _ ih1 ih2 =>
    intro hf G R
    obtain ⟨r1, h1, h2, _⟩ := ih1 rfl G R
    obtain ⟨r2, k1, k2, k3⟩ := ih2 hf r1 h2
    exact ⟨r2, .call h1 k1, k2, k3⟩
  | callSusp _ ih =>
    intro hf G R
    obtain ⟨r1, h1, h2, h3⟩ := ih rfl G R
    exact ⟨r1, .callSusp h1, h2, plain_app h3 rfl⟩
  | yield => intro hf G R; exact ⟨G, .yield, R, rfl⟩
  | @resumeFresh Γ p g l k s c e₁ s₁ e s' hg _ hq _ ih1 ih2 =>
    intro hf G R
    cases q : F g with
    | some x =>
      obtain ⟨z, k1, k2⟩ := R.fake g x q
      rw [k1] at hg
      cases x <;> first | (cases z; done) | (cases hg; done)
    | none =>
      obtain ⟨r1, h1, h2, h3⟩ := ih1 rfl (G.setIfInBounds g .running) (R.set q trivial)
      obtain ⟨r2, j1, j2, j3⟩ := ih2 hf (r1.setIfInBounds g e₁.genState) (h2.set q (plainG_end h3))
      exact ⟨r2, .resumeFresh (by rw [← R.same g q] at hg; exact hg) h1 hq j1, j2, j3⟩
  | @resumeSuspended Γ p g rr l k s k₀ l₀ c₀ p₀ fs cl e₁ s₁ e s' hg hr hq _ ih1 ih2 =>
    intro hf G R
    cases q : F g with
    | some x =>
      obtain ⟨z, k1, k2⟩ := R.fake g x q
      rw [k1] at hg
      cases x with
      | suspended a1 a2 a3 a4 a5 a6 =>
        cases hg
        exact (no_unsup hr).elim
      | _ => cases z
    | none =>
      have pl : splitAtGen fs = none := R.plain g _ q hg
      obtain ⟨r1, h1, h2, h3⟩ := ih1 pl (G.setIfInBounds g .running) (R.set q trivial)
      obtain ⟨r2, j1, j2, j3⟩ := ih2 hf (r1.setIfInBounds g e₁.genState) (h2.set q (plainG_end h3))
      exact ⟨r2, .resumeSuspended (by rw [← R.same g q] at hg; exact hg) h1 hq j1, j2, j3⟩
  | @resumeJustStarted g v Γ p k s e s' l c hg hv _ ih =>
    intro hf G R
    cases q : F g with
    | some x =>
      obtain ⟨z, k1, k2⟩ := R.fake g x q
      rw [k1] at hg
      cases x <;> first | (cases z; done) | (cases hg; done)
    | none =>
      obtain ⟨r2, j1, j2, j3⟩ := ih hf G R
      exact ⟨r2, .resumeJustStarted (by rw [← R.same g q] at hg; exact hg) hv j1, j2, j3⟩
  | @resumeThrowFresh g Γ p k e s' x l s c hg _ ih =>
    intro hf G R
    cases q : F g with
    | some x =>
      obtain ⟨z, k1, k2⟩ := R.fake g x q
      rw [k1] at hg
      cases x <;> first | (cases z; done) | (cases hg; done)
    | none =>
      obtain ⟨r2, j1, j2, j3⟩ := ih hf (G.setIfInBounds g .finished) (R.set q trivial)
      exact ⟨r2, .resumeThrowFresh (by rw [← R.same g q] at hg; exact hg) j1, j2, j3⟩
  | @resumeRunning g Γ p k s e s' r l hg _ ih =>
    intro hf G R
    cases q : F g with
    | some x =>
      obtain ⟨z, k1, k2⟩ := R.fake g x q
      rw [k1] at hg
      cases x <;> first | (cases z; done) | (cases hg; done)
    | none =>
      obtain ⟨r2, j1, j2, j3⟩ := ih hf G R
      exact ⟨r2, .resumeRunning (by rw [← R.same g q] at hg; exact hg) j1, j2, j3⟩
  | @resumeFinished g Γ p k s e s' r l hg _ ih =>
    intro hf G R
    cases q : F g with
    | some x =>
      obtain ⟨z, k1, k2⟩ := R.fake g x q
      rw [k1] at hg
      cases x <;> first | (cases z; done) | (cases hg; done)
    | none =>
      obtain ⟨r2, j1, j2, j3⟩ := ih hf G R
      exact ⟨r2, .resumeFinished (by rw [← R.same g q] at hg; exact hg) j1, j2, j3⟩
  | segRet _ _ ih1 ih2 =>
    intro hf G R
    obtain ⟨r1, h1, h2, _⟩ := ih1 rfl G R
    obtain ⟨r2, j1, j2, j3⟩ := ih2 (plain_tail hf) r1 h2
    exact ⟨r2, .segRet h1 j1, j2, j3⟩
  | segGen _ _ _ _ => intro hf; exact absurd (show some _ = none from hf) (fun z => nomatch z)
  | segSuspOut hs _ ih =>
    intro hf G R
    obtain ⟨r1, h1, h2, h3⟩ := ih rfl G R
    exact ⟨r1, .segSuspOut hs h1, h2, plain_app h3 hs⟩
  | segSuspGen hs _ _ _ _ _ => intro hf; rw [hf] at hs; cases hs

theorem returns_fk {Γ : Ctx} {p : Pos} {s s' : Shared} {r : Result} (h : Returns M Γ p s r s') {G : Array GenState} (R : Rel F s.gens G) : ∃ G', Returns M Γ p (gw s G) r (gw s' G') ∧ Rel F s'.gens G' := by
  obtain ⟨G', h1, h2, _⟩ := runs_fk h rfl G R
  exact ⟨G', h1, h2⟩
theorem wakes_fk {Γ : Ctx} {p : Pos} {g : Nat} {r : Resume} {s s' : Shared} {res : GenResult} (h : Wakes M Γ p g r s res s') {G : Array GenState} (R : Rel F s.gens G) : ∃ G', Wakes M Γ p g r (gw s G) res (gw s' G') ∧ Rel F s'.gens G' := by
  cases q : F g with
  | some x =>
    obtain ⟨z, k1, k2⟩ := R.fake g x q
    unfold Wakes at h
    rw [k1] at h
    cases x with
    | suspended a1 a2 a3 a4 a5 a6 =>
      obtain ⟨e₁, s₁, hr, _⟩ := h
      exact (no_unsup hr).elim
    | _ => cases z
  | none =>
    have hs := R.same g q
    unfold Wakes at h ⊢
    rw [show (gw s G).gens[g]? = s.gens[g]? from hs]
    cases hg : s.gens[g]? with
    | none => rw [hg] at h; exact h.elim
    | some gs =>
      rw [hg] at h
      cases gs with
      | fresh c =>
        cases r with
        | send v =>
          by_cases hv : v = Value.none
          · subst hv
            obtain ⟨e₁, s₁, hr, hq, hres, hs'⟩ := h
            obtain ⟨G1, h1, h2, h3⟩ := runs_fk hr rfl (G.setIfInBounds g .running) (R.set q trivial)
            subst hs'
            exact ⟨G1.setIfInBounds g e₁.genState, ⟨e₁, _, h1, hq, hres, rfl⟩, h2.set q (plainG_end h3)⟩
          · cases v <;> first | exact absurd rfl hv | (obtain ⟨h1, h2⟩ := h; subst h2; exact ⟨G, ⟨h1, rfl⟩, R⟩)
        | throw x =>
          obtain ⟨h1, h2⟩ := h
          subst h2
          exact ⟨G.setIfInBounds g .finished, ⟨h1, rfl⟩, R.set q trivial⟩
      | suspended k₀ l₀ c₀ p₀ fs cl =>
        obtain ⟨e₁, s₁, hr, hq, hres, hs'⟩ := h
        obtain ⟨G1, h1, h2, h3⟩ := runs_fk hr (R.plain g _ q hg) (G.setIfInBounds g .running) (R.set q trivial)
        subst hs'
        exact ⟨G1.setIfInBounds g e₁.genState, ⟨e₁, _, h1, hq, hres, rfl⟩, h2.set q (plainG_end h3)⟩
      | running => obtain ⟨h1, h2⟩ := h; subst h2; exact ⟨G, ⟨h1, rfl⟩, R⟩
      | finished => obtain ⟨h1, h2⟩ := h; subst h2; exact ⟨G, ⟨h1, rfl⟩, R⟩
/-- what holds over the replaced ones holds over the real ones -/
theorem wp_fk {α : Type} (F : Nat → Option GenState) (M : Model) (Γ : Ctx) (t : Sem α) : ∀ (Q : α → Pos → Shared → Prop) (E : Value → Pos → Shared → Prop) (p : Pos) (s : Shared) (G : Array GenState), Rel F s.gens G → wp M Γ t Q E p s →
    wp M Γ t (fun a p' s' => ∃ G0, Rel F G0 s'.gens ∧ Q a p' (gw s' G0)) (fun e p' s' => ∃ G0, Rel F G0 s'.gens ∧ E e p' (gw s' G0)) p (gw s G) := by
  induction t with
  | pure a => intro Q E p s G R h; exact ⟨s.gens, R, h⟩
  | raise e => intro Q E p s G R h; exact ⟨s.gens, R, h⟩
  | unsupported _ => intro Q E p s G _ h; exact h
  | finish _ => intro Q E p s G _ h; exact h
  | rule _ k ih => intro Q E p s G R h; exact ih () Q E p s G R h
  | «at» p' k ih => intro Q E p s G R h; exact ih () Q E p' s G R h
  | load a _ k ih => intro Q E p s G R h; obtain ⟨o, ho, h⟩ := h; exact ⟨o, ho, ih o Q E p s G R h⟩
  | update a _ f k ih => intro Q E p s G R h; exact ⟨h.1, ih () Q E p { s with heap := s.heap.update a f } G R h.2⟩
  | loadIfAlive a k ih => intro Q E p s G R h; exact ih _ Q E p s G R h
  | point _ k ih => intro Q E p s G R h; exact ih () Q E p s G R h
  | register _ _ => intro Q E p s G _ h; exact h
  | alloc o k ih => intro Q E p s G R h; exact ih _ Q E p { s with heap := s.heap.push o } G R h
  | fresh k ih => intro Q E p s G R h; exact ih _ Q E p { s with toks := s.toks + 1 } G R h
  | ask k ih => intro Q E p s G R h; exact ih _ Q E p s G R h
  | choose src m k ih => intro Q E p s G R h; exact ⟨h.1, ih _ Q E p { s with drawn := s.drawn.bump src } G R h.2⟩
  | os q _ k ih => intro Q E p s G R h; exact ih _ Q E p { s with os := (Os.step s.os q).1 } G R h
  | call c hd _ _ k ih =>
    intro Q E p s G R h
    obtain ⟨r, s', hr, h⟩ := h
    obtain ⟨G', h1, h2⟩ := returns_fk hr R
    exact ⟨r, _, h1, ih r Q E p s' G' h2 h⟩
  | handled own k ih => intro Q E p s G R h; exact ih _ Q E p s G R h
  | genState g k ih =>
    intro Q E p s G R h
    obtain ⟨st, hs, h⟩ := h
    cases q : F g with
    | none => exact ⟨st, by rw [← R.same g q] at hs; exact hs, ih _ Q E p s G R h⟩
    | some x =>
      obtain ⟨_, k1, k2⟩ := R.fake g x q
      rw [k1] at hs
      cases hs
      rw [fk_seen] at h
      exact ⟨x, k2, ih _ Q E p s G R h⟩
  | newGen c k ih =>
    intro Q E p s G R h
    have := ih _ Q E p _ _ (R.push c) h
    rw [← R.size] at this
    exact this
  | resume g r _ k ih =>
    intro Q E p s G R h
    obtain ⟨res, s', hw, h⟩ := h
    obtain ⟨G', h1, h2⟩ := wakes_fk hw R
    exact ⟨res, _, h1, ih res Q E p s' G' h2 h⟩
  | yield _ _ _ _ => intro Q E p s G _ h; exact h
  | stack k ih => intro Q E p s G R h; exact ih _ Q E p s G R h
  | fork _ _ => intro Q E p s G _ h; exact h
  | thread k ih => intro Q E p s G R h; exact ih _ Q E p s G R h
  | await _ _ _ _ _ => intro Q E p s G _ h; exact h
theorem wpAny_fk {α : Type} {M : Model} {A : Around} {t : Sem α} {Q : α → Shared → Prop} {E : Value → Shared → Prop} {s : Shared} {G : Array GenState} (R : Rel F s.gens G) (h : wpAny M A t Q E s) :
    wpAny M A t (fun a s' => ∃ G0, Rel F G0 s'.gens ∧ Q a (gw s' G0)) (fun e s' => ∃ G0, Rel F G0 s'.gens ∧ E e (gw s' G0)) (gw s G) := fun Γ p hΓ => wp_fk F M Γ t _ _ p s G R (h Γ p hΓ)
/-- all that sleep now -/
def sleepers (G : Array GenState) (i : Nat) : Option GenState := match G[i]? with
  | some x => if isSusp x = true then some x else none
  | none => none
def faked (G : Array GenState) : Array GenState := G.map fk
theorem rel_faked (G : Array GenState) : Rel (sleepers G) (faked G) G := by
  refine ⟨by simp [faked], fun i x e => ?_, fun i e => ?_, fun i x e hx => ?_⟩
  · unfold sleepers at e
    split at e
    · rename_i y hy
      split at e
      · rename_i hs
        cases e
        exact ⟨hs, by simp [faked, hy], hy⟩
      · cases e
    · cases e
  · unfold sleepers at e
    unfold faked
    rw [Array.getElem?_map]
    cases hy : G[i]? with
    | none => rfl
    | some y =>
      rw [hy] at e
      cases y <;> first | rfl | (simp [isSusp] at e)
  · unfold sleepers at e
    unfold faked at hx
    rw [Array.getElem?_map] at hx
    cases hy : G[i]? with
    | none => rw [hy] at hx; cases hx
    | some y =>
      rw [hy] at e hx
      cases hx
      cases y <;> first | trivial | (simp [isSusp] at e)
theorem bare_faked {G : Array GenState} (h : ∀ y ∈ G, y.bare = true) : ∀ y ∈ faked G, y.bare = true := fun y hy => by
  obtain ⟨x, hx, rfl⟩ := Array.mem_map.mp hy
  rw [fk_bare]; exact h x hx
theorem bare_real (h : Rel F a b) (hF : ∀ i x, F i = some x → x.bare = true) (ha : ∀ y ∈ a, y.bare = true) : ∀ y ∈ b, y.bare = true := fun y hy => by
  obtain ⟨i, hi, rfl⟩ := Array.mem_iff_getElem.mp hy
  have hb : b[i]? = some b[i] := Array.getElem?_eq_getElem hi
  cases q : F i with
  | some x =>
    obtain ⟨_, _, k2⟩ := h.fake i x q
    rw [k2] at hb
    have : x = b[i] := Option.some.inj hb
    rw [← this]; exact hF i x q
  | none =>
    have k := h.same i q
    rw [hb] at k
    have hi' : i < a.size := by rw [← h.size]; exact hi
    rw [Array.getElem?_eq_getElem hi'] at k
    have : b[i] = a[i] := Option.some.inj k
    rw [this]; exact ha _ (Array.getElem_mem hi')
theorem sleepers_at {G : Array GenState} {g : Nat} {x : GenState} (h : G[g]? = some x) (hs : isSusp x = true) : sleepers G g = some x := by
  unfold sleepers; rw [h]; simp [hs]
theorem sleepers_bare {G : Array GenState} (h : ∀ y ∈ G, y.bare = true) : ∀ i x, sleepers G i = some x → x.bare = true := fun i x e => by
  unfold sleepers at e
  split at e
  · rename_i y hy
    split at e
    · cases e; exact h _ (Array.mem_of_getElem? hy)
    · cases e
  · cases e
end Fk
set_option Elab.async false
set_option linter.all false
set_option maxRecDepth 100000
set_option maxHeartbeats 1000000
/-! Pth: the generator path, its turns over the machine's own rules -/
namespace Pth
open PySem PySem.Spec PyProof.Rows L2 GenW
/-! ### the text of the loop -/
abbrev stPush (p1 p2 p3 p4 p5 : Pos) : Stmt := .Assign [.Name "push" p1] (.BinOp (.Name "push" p2) .FloorDiv (.Name "PUSH_SHARE" p3) p4) p5
abbrev stSlot (p1 p2 p3 p4 p5 p6 p7 p8 p9 p10 p11 : Pos) (k1 k2 : Nat) : Stmt := .Assign [.Name "slot" p1] (.BinOp (.BinOp (.BinOp (.BinOp (.Constant (.int 5) k1 p2) .Mult (.Name "slot" p3) p4) .Add (.Name "push" p5) p6) .Add (.Constant (.int 1) k2 p7) p8) .Mod (.Name "size" p9) p10) p11
/-- what the walk asks of the env -/
structure PEnv (env : Env) : Prop where
  kind : env.scope.kind = .function
  co : env.scope.isCoroutine = false
  gl : env.globals = mainGlobals
  slot : env.kindOf "slot" = some .local
  push : env.kindOf "push" = some .local
  size : env.kindOf "size" = some .local
  low : env.kindOf "_" = some .local
  share : env.kindOf "PUSH_SHARE" = some .globalImplicit
/-- the frame's names -/
structure Fm (env : Env) (h : Heap) (size slot push : Int) : Prop where
  ns : ∃ m, h.Ns env.locals m ∧ (∃ t, m "slot" = some (.int slot t)) ∧ (∃ t, m "push" = some (.int push t)) ∧ ∃ t, m "size" = some (.int size t)
  gl : ∃ mg, h.Ns mainGlobals mg ∧ ∃ t, mg "PUSH_SHARE" = some (.int 32 t)
theorem Fm.keeps {env : Env} {h h' : Heap} {size slot push : Int} (x : Fm env h size slot push) (k : ∀ b o, (b = env.locals ∨ b = mainGlobals) → h.get? b = some o → h'.get? b = some o) : Fm env h' size slot push := by
  obtain ⟨⟨m, hn, r⟩, ⟨mg, hg, q⟩⟩ := x
  exact ⟨⟨m, hn.at' fun o e => k _ o (.inl rfl) e, r⟩, ⟨mg, hg.at' fun o e => k _ o (.inr rfl) e, q⟩⟩
section
variable {prog : Program} {w : World} {A : Around} {E : Value → Shared → Prop} {s : Shared} {env : Env} {size slot push : Int}
theorem nm {x : Str} {p : Pos} {m : Str → Option Value} {v : Value} {Q : Value → Shared → Prop} (T : PEnv env) (hk : env.kindOf x = some .local) (hn : s.heap.Ns env.locals m) (hm : m x = some v) (h : Q v s) (hd : (x == ("__debug__" : Str)) = false := by decide) :
    wpAny (model prog w) A (eval (.Name x p) env) Q E s := wpAny_Name (wpAny_loadName_local T.kind hk hn hm h) hd
/-- push = push // PUSH_SHARE -/
theorem run_push {p1 p2 p3 p4 p5 : Pos} {Q : Flow → Shared → Prop} (T : PEnv env) (hL : env.locals ≠ mainGlobals) (x : Fm env s.heap size slot push)
    (h : ∀ h' tk, Fm env h' size slot (push.fdiv 32) → (∀ b o, b ≠ env.locals → s.heap.get? b = some o → h'.get? b = some o) → Q .next { s with heap := h', toks := tk }) :
    wpAny (model prog w) A (exec (stPush p1 p2 p3 p4 p5) env) Q E s := by
  obtain ⟨⟨m, hn, ⟨t1, e1⟩, ⟨t2, e2⟩, ⟨t3, e3⟩⟩, ⟨mg, hg, ⟨t4, e4⟩⟩⟩ := x
  have h1 : (("slot" : Str) = "push") = False := by simp [show ¬ (("slot" : Str) = "push") by decide]
  have h2 : (("size" : Str) = "push") = False := by simp [show ¬ (("size" : Str) = "push") by decide]
  refine wpAny_Assign_Name ?_
  refine wpAny_BinOp (nm T T.push hn e2 ?_)
  refine Calls.Name_function_global T.kind T.share (Calls.loadGlobal_global (by rw [T.gl]; exact hg) e4 ?_) (by decide)
  refine floordiv_int (by decide) ?_
  refine wpAny_storeName_local (s := { s with toks := s.toks + 1 }) T.push hn (fun h' hn' hs => ?_) (by rw [T.kind]; rfl)
  refine h h' _ ⟨⟨_, hn', ⟨t1, by rw [if_neg (by simp [h1])]; exact e1⟩, ⟨_, if_pos rfl⟩, ⟨t3, by rw [if_neg (by simp [h2])]; exact e3⟩⟩, ⟨mg, hg.sameBut hs (Ne.symm hL), t4, e4⟩⟩ fun b o hb e => (hs.2 b hb).trans e
/-- slot = (5 * slot + push + 1) % size -/
theorem run_slot {p1 p2 p3 p4 p5 p6 p7 p8 p9 p10 p11 : Pos} {k1 k2 : Nat} {Q : Flow → Shared → Prop} (T : PEnv env) (hL : env.locals ≠ mainGlobals) (hz : size ≠ 0) (x : Fm env s.heap size slot push)
    (h : ∀ h' tk, Fm env h' size ((5 * slot + push + 1).fmod size) push → (∀ b o, b ≠ env.locals → s.heap.get? b = some o → h'.get? b = some o) → Q .next { s with heap := h', toks := tk }) :
    wpAny (model prog w) A (exec (stSlot p1 p2 p3 p4 p5 p6 p7 p8 p9 p10 p11 k1 k2) env) Q E s := by
  obtain ⟨⟨m, hn, ⟨t1, e1⟩, ⟨t2, e2⟩, ⟨t3, e3⟩⟩, ⟨mg, hg, q⟩⟩ := x
  have h1 : (("push" : Str) = "slot") = False := by simp [show ¬ (("push" : Str) = "slot") by decide]
  have h2 : (("size" : Str) = "slot") = False := by simp [show ¬ (("size" : Str) = "slot") by decide]
  refine wpAny_Assign_Name ?_
  refine wpAny_BinOp (wpAny_BinOp (wpAny_BinOp (wpAny_BinOp (wpAny_Constant_int (nm (s := { s with toks := s.toks + 1 }) T T.slot hn e1 ?_)))))
  refine mul_int ?_ (CMul.ok (.inl ⟨by decide, by decide⟩))
  refine nm (s := { s with toks := s.toks + 1 + 1 }) T T.push hn e2 ?_
  refine add_int ?_
  refine wpAny_Constant_int ?_
  refine add_int ?_
  refine nm (s := { s with toks := s.toks + 1 + 1 + 1 + 1 + 1 }) T T.size hn e3 ?_
  refine mod_int' hz ?_
  refine wpAny_storeName_local (s := { s with toks := _ }) T.slot hn (fun h' hn' hs => ?_) (by rw [T.kind]; rfl)
  refine h h' _ ⟨⟨_, hn', ⟨_, if_pos rfl⟩, ⟨t2, by rw [if_neg (by simp [h1])]; exact e2⟩, ⟨t3, by rw [if_neg (by simp [h2])]; exact e3⟩⟩, ⟨mg, hg.sameBut hs (Ne.symm hL), q⟩⟩ fun b o hb e => (hs.2 b hb).trans e
end

/-! ### for, within a generator -/
section
variable {M : Model} {A : Around} {R : GenEnd} {Y : Protocol} {n : Nat} {s₀ : Shared} {c : Code} {fs : List Frame} {s : Shared} {env : Env}
  {K : Flow → Sem PySem.Fin} {H : Value → Sem PySem.Fin} {gd : Bool → Bool} {lv : List Value → List Value}
/-- what stands behind the loop's call -/
abbrev behind (env : Env) (K : Flow → Sem PySem.Fin) (H : Value → Sem PySem.Fin) (gd : Bool → Bool) (lv : List Value → List Value) (r : Result) : Sem PySem.Fin :=
  ((match r with | .ok f => (.pure f : Sem Flow) | .error e => .raise e).onRaise fun (x : Value) => do
    if (← field x 1) == Value.none then unsupported "frame.own-activation:exception-without-traceback"
    setFlight x env.frame).wrap K H gd lv
theorem seg_For {target iter : Expr} {body orelse : List Stmt} {pos : Pos} (hs : ∀ x, foldedSetIterable iter env x = pure x)
    (h : wpAny M (A.over c fs) (eval iter env) (fun x s₁ => wpAny M (A.over c fs) (pyIter x) (fun it s₂ => ∀ p, Seg M A R Y n s₀ (.forLoop target it body orelse env) (M.den (.forLoop target it body orelse env)) (.ret (behind env K H gd lv) none (gd false) (lv []) c p [] :: fs) s₂)
      (fun x s' => Seg M A R Y n s₀ c (H x) fs s') s₁) (fun x s' => Seg M A R Y n s₀ c (H x) fs s') s) :
    Seg M A R Y n s₀ c ((exec (.For target iter body orelse pos) env).wrap K H gd lv) fs s := by
  rw [exec_For]
  refine seg_at ?_
  show Seg _ _ _ _ _ _ _ (((eval iter env) >>= fun x => (foldedSetIterable iter env x >>= fun x => (standAt iter.pos >>= fun _ => (holding [x] (pyIter x)) >>= fun it => runOwn (.forLoop target it body orelse env) env))).wrap K H gd lv) fs s
  rw [Sem.bind_eq_wrap', Sem.wrap_wrap]
  refine seg_wrap (wpAny_mono h (fun x s₁ h₁ => ?_) fun _ _ h' => h')
  rw [hs x]
  refine seg_at ?_
  show Seg _ _ _ _ _ _ _ (((holding [x] (pyIter x)) >>= fun it => runOwn (.forLoop target it body orelse env) env).wrap K H gd lv) fs s₁
  rw [Sem.bind_eq_wrap', Sem.wrap_wrap]
  refine seg_wrap (wpAny_holding (wpAny_mono h₁ (fun it s₂ h₂ => ?_) fun _ _ h' => h'))
  exact seg_call h₂
end
section
variable {prog : Program} {w : World} {A : Around} {R : GenEnd} {Y : Protocol} {n : Nat} {s₀ : Shared} {fs : List Frame} {s : Shared} {env : Env}
/-- what is left of a loop's turn behind its body -/
abbrev turned (target : Expr) (it : Value) (body orelse : List Stmt) (env : Env) (f : Flow) : Sem PySem.Fin := match f with
  | .next | .cont => .pure (.again (.forLoop target it body orelse env))
  | .brk => .pure (.done .next)
  | .ret v => .pure (.done (.ret v))
abbrev noted (env : Env) (e : Value) : Sem PySem.Fin := (do noteFrame e env; theTreesLotGoes e : Sem Unit).wrap (fun _ => .raise e) .raise id id
theorem seg_forLoop {target : Expr} {it : Value} {body orelse : List Stmt} (hgo : ∀ v, letOwnedTupleGo target it v = pure ())
    (h : wpAny (model prog w) (A.over (.forLoop target it body orelse env) fs) (pyNext it) (fun r s₁ => match r with
        | none => Seg (model prog w) A R Y n s₀ (.block orelse env) ((model prog w).den (.block orelse env)) fs s₁
        | some v => wpAny (model prog w) (A.over (.forLoop target it body orelse env) fs) (assign target env v) (fun _ s₂ =>
            Seg (model prog w) A R Y n s₀ (.forLoop target it body orelse env) ((execs body env).wrap (turned target it body orelse env) (noted env) id id) fs s₂)
            (fun _ _ => False) s₁) (fun _ _ => False) s)
    (hq : (Code.block orelse env).quiet = true := by rfl) :
    Seg (model prog w) A R Y n s₀ (.forLoop target it body orelse env) ((model prog w).den (.forLoop target it body orelse env)) fs s := by
  show Seg _ A R Y n s₀ _ ((forTurn target it body orelse env).onRaise (fun x => do noteFrame x env; theTreesLotGoes x)) fs s
  rw [Sem.onRaise_eq_wrap]
  unfold forTurn
  refine seg_at ?_
  show Seg _ A R Y n s₀ _ ((((pyNext it).onRaise (fun _ => standAt { target.pos with line := 0 })) >>= fun r => (match r with
    | none => again (.block orelse env)
    | some v => letOwnedTupleGo target it v >>= fun _ => assign target env v >>= fun _ => execs body env >>= fun f => (match f with
      | .next | .cont => again (.forLoop target it body orelse env)
      | .brk => pure (.done .next)
      | .ret v => pure (.done (.ret v)) : Sem PySem.Fin) : Sem PySem.Fin)).wrap _ _ id id) fs s
  rw [Sem.bind_eq_wrap', Sem.wrap_wrap]
  refine seg_wrap (wpAny_onRaise (wpAny_mono h (fun r s₁ h₁ => ?_) fun _ _ h' => h'.elim))
  cases r with
  | none => exact seg_again hq h₁
  | some v =>
    show Seg _ A R Y n s₀ _ ((letOwnedTupleGo target it v >>= fun _ => assign target env v >>= fun _ => execs body env >>= fun f => (match f with
      | .next | .cont => again (.forLoop target it body orelse env)
      | .brk => pure (.done .next)
      | .ret v => pure (.done (.ret v)) : Sem PySem.Fin)).wrap _ _ id id) fs s₁
    rw [hgo v]
    show Seg _ A R Y n s₀ _ ((assign target env v >>= fun _ => execs body env >>= fun f => (match f with
      | .next | .cont => again (.forLoop target it body orelse env)
      | .brk => pure (.done .next)
      | .ret v => pure (.done (.ret v)) : Sem PySem.Fin)).wrap _ _ id id) fs s₁
    rw [Sem.bind_eq_wrap', Sem.wrap_wrap]
    refine seg_wrap (wpAny_mono h₁ (fun _ s₂ h₂ => ?_) fun _ _ h' => h'.elim)
    rw [Sem.bind_eq_wrap', Sem.wrap_wrap]
    refine cast ?_ h₂
    congr 1
    refine Sem.wrap_congr _ id id (fun f => by cases f <;> rfl) (fun e => ?_)
    show _ = ((do noteFrame e env; theTreesLotGoes e : Sem Unit).bind (fun _ => Sem.raise e))
    rw [Sem.bind_eq_wrap]
end

/-! ### the loop of path -/
/-- the pushes and the slots -/
def pu (code : Int) : Nat → Int
  | 0 => code
  | i + 1 => (pu code i).fdiv 32
def sl (size code : Int) : Nat → Int
  | 0 => code.fmod size
  | i + 1 => (5 * sl size code i + pu code (i + 1) + 1).fmod size
/-- ahead of the turn i: the frame, and the iterator of range(N) -/
structure LSt (env : Env) (it : Addr) (N : Nat) (size code : Int) (i : Nat) (h : Heap) : Prop where
  fm : Fm env h size (sl size code i) (pu code i)
  rg : IsRangeIter h it (0 + (i : Nat) * 1) ((N : Int) - (i : Nat)) 1
/-- amid the turn i: the slot is out -/
structure LSy (env : Env) (it : Addr) (N : Nat) (size code : Int) (i : Nat) (h : Heap) : Prop where
  fm : Fm env h size (sl size code i) (pu code i)
  rg : IsRangeIter h it (0 + ((i + 1 : Nat) : Int) * 1) ((N : Int) - ((i + 1 : Nat) : Int)) 1
/-- only the frame and the iterator have changed -/
def Mv (L it : Addr) (s s' : Shared) : Prop := ∃ h' tk, s' = { s with heap := h', toks := tk } ∧ ∀ b o, b ≠ L → b ≠ it → s.heap.get? b = some o → h'.get? b = some o
theorem Mv.refl {L it : Addr} {s : Shared} : Mv L it s s := ⟨s.heap, s.toks, rfl, fun _ _ _ _ e => e⟩
theorem Mv.trans {L it : Addr} {s s1 s2 : Shared} (a : Mv L it s s1) (b : Mv L it s1 s2) : Mv L it s s2 := by
  obtain ⟨h1, t1, rfl, k1⟩ := a
  obtain ⟨h2, t2, rfl, k2⟩ := b
  exact ⟨h2, t2, rfl, fun c o n1 n2 e => k2 c o n1 n2 (k1 c o n1 n2 e)⟩
/-- asleep: the generator's own things stay -/
def Slp (env : Env) (it : Addr) (s s' : Shared) : Prop := ∀ b o, (b = env.locals ∨ b = it ∨ b = mainGlobals) → s.heap.get? b = some o → s'.heap.get? b = some o
theorem LSy.keeps {env : Env} {it : Addr} {N : Nat} {size code : Int} {i : Nat} {s s' : Shared} (x : LSy env it N size code i s.heap) (k : Slp env it s s') : LSy env it N size code i s'.heap :=
  ⟨x.fm.keeps fun b o hb e => k b o (hb.elim .inl fun z => .inr (.inr z)) e, k it _ (.inr (.inl rfl)) x.rg⟩
/-- the wake that began at s₀ has come to s: ahead of the first slot by its own word, later the frame and the iterator alone have changed -/
def Jr (J0 : Shared → Shared → Prop) (L it : Addr) (i : Nat) (s₀ s : Shared) : Prop := if i = 0 then J0 s₀ s else Mv L it s₀ s
def YP (J0 : Shared → Shared → Prop) (env : Env) (it : Addr) (N : Nat) (size code : Int) : Protocol := fun n s₀ v s kap =>
  ∃ i t, n + 1 + i = N ∧ v = .int (sl size code i) t ∧ Jr J0 env.locals it i s₀ s ∧ LSy env it N size code i s.heap ∧ ∀ s', Slp env it s s' → kap (.send .none) s'
def RP (J0 : Shared → Shared → Prop) (L it : Addr) (N : Nat) : GenEnd := fun n s₀ r s => r = .ok (.ret .none) ∧ n = 0 ∧ Jr J0 L it N s₀ s
section
variable {prog : Program} {w : World} {A : Around} {env : Env} {J0 : Shared → Shared → Prop} {it : Addr} {N : Nat} {size code : Int}
abbrev loopBody (p0 p0' p0'' p1 p2 p3 p4 p5 q1 q2 q3 q4 q5 q6 q7 q8 q9 q10 q11 : Pos) (k1 k2 : Nat) : List Stmt :=
  [.Expr (.Yield (some (.Name "slot" p0)) p0') p0'', stPush p1 p2 p3 p4 p5, stSlot q1 q2 q3 q4 q5 q6 q7 q8 q9 q10 q11 k1 k2]
theorem path_seg {pt p0 p0' p0'' p1 p2 p3 p4 p5 q1 q2 q3 q4 q5 q6 q7 q8 q9 q10 q11 : Pos} {k1 k2 : Nat} (T : PEnv env) (hi : interactive env = false) (hL : env.locals ≠ mainGlobals) (hiL : it ≠ env.locals) (hiG : it ≠ mainGlobals) (hz : size ≠ 0)
    (hJ : ∀ s₀ s s', J0 s₀ s → Mv env.locals it s s' → J0 s₀ s') {kf : Result → Sem PySem.Fin} {g : Bool → Bool} {l : List Value} {c : Code} {p : Pos} (hg : g false = false)
    (hA : (A.over (.forLoop (.Name "_" pt) (.ref it) (loopBody p0 p0' p0'' p1 p2 p3 p4 p5 q1 q2 q3 q4 q5 q6 q7 q8 q9 q10 q11 k1 k2) [] env) [.ret kf none (g false) l c p []]).handled = none)
    (hend : ∀ s₀ s, Jr J0 env.locals it N s₀ s → Seg (model prog w) A (RP J0 env.locals it N) (YP J0 env it N size code) 0 s₀ c (kf (.ok .next)) [] s) :
    ∀ (r i : Nat) (s₀ s : Shared), i + r = N → LSt env it N size code i s.heap → Jr J0 env.locals it i s₀ s →
      Seg (model prog w) A (RP J0 env.locals it N) (YP J0 env it N size code) r s₀ (.forLoop (.Name "_" pt) (.ref it) (loopBody p0 p0' p0'' p1 p2 p3 p4 p5 q1 q2 q3 q4 q5 q6 q7 q8 q9 q10 q11 k1 k2) [] env)
        ((model prog w).den (.forLoop (.Name "_" pt) (.ref it) (loopBody p0 p0' p0'' p1 p2 p3 p4 p5 q1 q2 q3 q4 q5 q6 q7 q8 q9 q10 q11 k1 k2) [] env)) [.ret kf none (g false) l c p []] s := by
  have jmv : ∀ i s₀ s s', Jr J0 env.locals it i s₀ s → Mv env.locals it s s' → Jr J0 env.locals it i s₀ s' := fun i s₀ s s' h m => by
    unfold Jr at h ⊢
    split at h
    · rename_i e
      rw [if_pos e]; exact hJ _ _ _ h m
    · rename_i e
      rw [if_neg e]; exact h.trans m
  intro r
  induction r with
  | zero =>
    intro i s₀ s hir x j
    obtain rfl : i = N := by omega
    refine seg_forLoop (fun v => rfl) ?_
    refine wpAny_pyNext_range_end hA x.rg (by omega) fun h' eb => ?_
    show Seg _ _ _ _ 0 s₀ (.block [] env) ((model prog w).den (.block [] env)) _ _
    refine seg_leaf (.ok .next) (hend s₀ _ (jmv _ _ _ _ j ⟨h', s.toks, rfl, fun b o _ hb e => eb b o hb e⟩))
  | succ r ih =>
    intro i s₀ s hir x j
    refine seg_forLoop (fun v => rfl) ?_
    have W := Walks.range (prog := prog) (w := w) hA it 0 1 N
    refine W.item i s _ _ (by omega) x.rg fun v h1 t1 hv rg1 k1' => ?_
    obtain ⟨tv, rfl⟩ := hv
    have kk : ∀ b o, b ≠ it → s.heap.get? b = some o → h1.get? b = some o := fun b o hb e => k1' b o (by simpa using hb) e
    have f1 : Fm env h1 size (sl size code i) (pu code i) := x.fm.keeps fun b o hb e => kk b o (by rcases hb with hb | hb <;> rw [hb] <;> first | exact Ne.symm hiL | exact Ne.symm hiG) e
    have j1 : Jr J0 env.locals it i s₀ { s with heap := h1, toks := t1 } := jmv _ _ _ _ j ⟨h1, t1, rfl, fun b o _ hb e => kk b o hb e⟩
    -- the loop's own name
    show wpAny _ _ (assign (.Name "_" pt) env _) _ _ _
    obtain ⟨⟨m, hn, ⟨a1, e1⟩, ⟨a2, e2⟩, ⟨a3, e3⟩⟩, ⟨mg, hg', gq⟩⟩ := f1
    have n1 : ¬ (("slot" : Str) = "_") := by decide
    have n2 : ¬ (("push" : Str) = "_") := by decide
    have n3 : ¬ (("size" : Str) = "_") := by decide
    refine wpAny_assign_Name (wpAny_storeName_local (s := { s with heap := h1, toks := t1 }) T.low hn (fun h2 hn2 hs2 => ?_) (by rw [T.kind]; rfl))
    have f2 : Fm env h2 size (sl size code i) (pu code i) := ⟨⟨_, hn2, ⟨a1, by rw [if_neg n1]; exact e1⟩, ⟨a2, by rw [if_neg n2]; exact e2⟩, ⟨a3, by rw [if_neg n3]; exact e3⟩⟩, ⟨mg, hg'.sameBut hs2 (Ne.symm hL), gq⟩⟩
    have j2 : Jr J0 env.locals it i s₀ { s with heap := h2, toks := t1 + 1 } := jmv _ _ _ _ j1 ⟨h2, t1 + 1, rfl, fun b o hb _ e => (hs2.2 b hb).trans e⟩
    have y2 : LSy env it N size code i h2 := ⟨f2, (hs2.2 it hiL).trans rg1⟩
    -- yield slot
    refine seg_execs_cons ?_
    refine seg_Expr_Yield (n := r) (gd := id) (by rfl) rfl (by show (g false || false) = false; rw [hg]; rfl) ?_ T.co hi
    obtain ⟨⟨m2, hm2, ⟨b1, c1⟩, _⟩, _⟩ := f2
    refine nm (s := { s with heap := h2, toks := t1 + 1 }) T T.slot hm2 c1 ?_
    intro kap hk
    refine ⟨i, b1, by omega, rfl, j2, y2, fun s'' z => hk .none s'' ?_⟩
    show Seg _ _ _ _ r s'' _ _ _ _
    have y3 := y2.keeps (s := { s with heap := h2, toks := t1 + 1 }) (s' := s'') z
    -- push, slot
    show Seg _ _ _ _ r s'' _ ((execs [stPush p1 p2 p3 p4 p5, stSlot q1 q2 q3 q4 q5 q6 q7 q8 q9 q10 q11 k1 k2] env).wrap _ _ id id) _ s''
    refine seg_execs_cons (seg_wrap (run_push T hL y3.fm fun h4 t4 f4 k4 => ?_))
    show Seg _ _ _ _ r s'' _ ((execs [stSlot q1 q2 q3 q4 q5 q6 q7 q8 q9 q10 q11 k1 k2] env).wrap _ _ id id) _ _
    refine seg_execs_cons (seg_wrap (run_slot (s := { s'' with heap := h4, toks := t4 }) T hL hz f4 fun h5 t5 f5 k5 => ?_))
    show Seg _ _ _ _ r s'' _ ((execs [] env).wrap _ _ id id) _ _
    refine seg_execs_nil ?_
    refine seg_again rfl ?_
    refine ih (i + 1) s'' _ (by omega) ⟨f5, (k5 it _ hiL (k4 it _ hiL y3.rg))⟩ ?_
    unfold Jr
    rw [if_neg (by omega)]
    exact ⟨h5, t5, rfl, fun b o hb _ e => k5 b o hb (k4 b o hb e)⟩
end
end Pth
set_option Elab.async false
set_option linter.all false
set_option maxRecDepth 100000
set_option maxHeartbeats 1000000
/-! Pg: the first wake of a generator, its end by any word -/
namespace Pth
open PySem PySem.Spec PyProof.Rows L2 GenW
def SegG (M : Model) (A : Around) (Φ : End → Shared → Prop) (c : Code) (t : Sem PySem.Fin) (fs : List Frame) (s : Shared) : Prop :=
  ∀ (Γ : PySem.Ctx) (p : Pos), Γ.code = c → Γ.Woken A → ∃ e s', Runs M Γ p t fs s e s' ∧ Φ e s'
section
variable {M : Model} {A : Around} {Φ : End → Shared → Prop} {c : Code} {fs : List Frame} {s : Shared} {env : Env}
theorem sg_wrap {α : Type} {m : Sem α} {K : α → Sem PySem.Fin} {H : Value → Sem PySem.Fin} {gd lv}
    (h : wpAny M (A.over c fs) m (fun a s' => SegG M A Φ c (K a) fs s') (fun x s' => SegG M A Φ c (H x) fs s') s) : SegG M A Φ c (m.wrap K H gd lv) fs s := by
  rintro Γ p rfl hΓ
  exact runs_wrap_of_wp K H gd lv m (h (Γ.over fs) p (hΓ.over fs)) (fun a p' s' h' => h' Γ p' rfl hΓ) (fun x p' s' h' => h' Γ p' rfl hΓ)
theorem sg_at {p' : Pos} {k : Unit → Sem PySem.Fin} (h : SegG M A Φ c (k ()) fs s) : SegG M A Φ c (.at p' k) fs s :=
  sg_wrap (m := standAt p') (K := k) (H := .raise) (gd := id) (lv := id) (wpAny_standAt h)
theorem sg_point {l : List Value} {k : Unit → Sem PySem.Fin} (h : SegG M A Φ c (k ()) fs s) : SegG M A Φ c (.point l k) fs s :=
  sg_wrap (m := point) (K := k) (H := .raise) (gd := id) (lv := fun _ => l) (wpAny_point h)
theorem sg_call {c' : Code} {h g l} {k : Result → Sem PySem.Fin} (hc : ∀ p, SegG M A Φ c' (M.den c') (.ret k h g l c p [] :: fs) s) : SegG M A Φ c (.call c' h g l k) fs s := by
  rintro Γ p rfl hΓ
  obtain ⟨e, s', hr, he⟩ := hc p (Γ.goto c') p rfl (hΓ.goto c')
  exact ⟨e, s', runs_call_seg hr, he⟩
theorem sg_leaf {k h g l c₁ p₁ kp} (r : Result) (hk : SegG M A Φ c₁ (k r) fs s) : SegG M A Φ c (leafOf r) (.ret k h g l c₁ p₁ kp :: fs) s := by
  rintro Γ p rfl hΓ
  obtain ⟨e, s', hr, he⟩ := hk (Γ.goto c₁) p₁ rfl (hΓ.goto c₁)
  exact ⟨e, s', Runs.pop r hr, he⟩
theorem sg_again {c' : Code} (hq : c'.quiet = true) (hc : SegG M A Φ c' (M.den c') fs s) : SegG M A Φ c (.pure (.again c')) fs s := by
  rintro Γ p rfl hΓ
  obtain ⟨e, s', hr, he⟩ := hc (Γ.goto c') p rfl (hΓ.goto c')
  exact ⟨e, s', Runs.head (c₁ := c') (fun _ _ x => .again hq x) hr, he⟩
theorem sg_end (r : Result) (h : Φ (.ret r) s) : SegG M A Φ c (leafOf r) [] s := by
  rintro Γ p rfl _
  exact ⟨.ret r, s, Runs.leaf r, h⟩
theorem sg_yield {v g l} {k : Resume → Sem PySem.Fin} (hfs : splitAtGen fs = none) (h : ∀ p, Φ (.susp v g l k c p fs) s) : SegG M A Φ c (.yield v g l k) fs s := by
  rintro Γ p rfl _
  exact ⟨_, s, Runs.yield' fs hfs, h p⟩
variable {K : Flow → Sem PySem.Fin} {H : Value → Sem PySem.Fin} {gd : Bool → Bool} {lv : List Value → List Value}
theorem sg_execs_nil (h : SegG M A Φ c (K .next) fs s) : SegG M A Φ c ((execs [] env).wrap K H gd lv) fs s := h
theorem sg_execs_cons {st : Stmt} {rest : List Stmt}
    (h : SegG M A Φ c ((exec st env).wrap (fun f => match f with | .next => (execs rest env).wrap K H gd lv | f => K f) H gd lv) fs s) :
    SegG M A Φ c ((execs (st :: rest) env).wrap K H gd lv) fs s := by rw [execs_cons_wrap]; exact h
/-- some statements ahead, by one judgement -/
theorem execs_app_wrap : ∀ (l r : List Stmt) (K : Flow → Sem PySem.Fin), (execs (l ++ r) env).wrap K H gd lv = (execs l env).wrap (fun f => match f with | .next => (execs r env).wrap K H gd lv | f => K f) H gd lv := by
  intro l
  induction l with
  | nil => intro r K; rfl
  | cons a t ih =>
    intro r K
    rw [List.cons_append, execs_cons_wrap, execs_cons_wrap]
    refine Sem.wrap_congr _ gd lv (fun f => ?_) (fun _ => rfl)
    cases f with
    | next => exact ih r K
    | _ => rfl
theorem sg_app {l r : List Stmt} (h : SegG M A Φ c ((execs l env).wrap (fun f => match f with | .next => (execs r env).wrap K H gd lv | f => K f) H gd lv) fs s) : SegG M A Φ c ((execs (l ++ r) env).wrap K H gd lv) fs s := by
  rw [execs_app_wrap]; exact h
theorem sg_For {target iter : Expr} {body orelse : List Stmt} {pos : Pos} (hs : ∀ x, foldedSetIterable iter env x = pure x)
    (h : wpAny M (A.over c fs) (eval iter env) (fun x s₁ => wpAny M (A.over c fs) (pyIter x) (fun it s₂ => ∀ p, SegG M A Φ (.forLoop target it body orelse env) (M.den (.forLoop target it body orelse env)) (.ret (behind env K H gd lv) none (gd false) (lv []) c p [] :: fs) s₂)
      (fun x s' => SegG M A Φ c (H x) fs s') s₁) (fun x s' => SegG M A Φ c (H x) fs s') s) :
    SegG M A Φ c ((exec (.For target iter body orelse pos) env).wrap K H gd lv) fs s := by
  rw [exec_For]
  refine sg_at ?_
  show SegG _ _ _ _ (((eval iter env) >>= fun x => (foldedSetIterable iter env x >>= fun x => (standAt iter.pos >>= fun _ => (holding [x] (pyIter x)) >>= fun it => runOwn (.forLoop target it body orelse env) env))).wrap K H gd lv) fs s
  rw [Sem.bind_eq_wrap', Sem.wrap_wrap]
  refine sg_wrap (wpAny_mono h (fun x s₁ h₁ => ?_) fun _ _ h' => h')
  rw [hs x]
  refine sg_at ?_
  show SegG _ _ _ _ (((holding [x] (pyIter x)) >>= fun it => runOwn (.forLoop target it body orelse env) env).wrap K H gd lv) fs s₁
  rw [Sem.bind_eq_wrap', Sem.wrap_wrap]
  refine sg_wrap (wpAny_holding (wpAny_mono h₁ (fun it s₂ h₂ => ?_) fun _ _ h' => h'))
  exact sg_call h₂
end
section
variable {prog : Program} {w : World} {A : Around} {Φ : End → Shared → Prop} {fs : List Frame} {s : Shared} {env : Env}
theorem sg_forLoop {target : Expr} {it : Value} {body orelse : List Stmt} (hgo : ∀ v, letOwnedTupleGo target it v = pure ())
    (h : wpAny (model prog w) (A.over (.forLoop target it body orelse env) fs) (pyNext it) (fun r s₁ => match r with
        | none => SegG (model prog w) A Φ (.block orelse env) ((model prog w).den (.block orelse env)) fs s₁
        | some v => wpAny (model prog w) (A.over (.forLoop target it body orelse env) fs) (assign target env v) (fun _ s₂ =>
            SegG (model prog w) A Φ (.forLoop target it body orelse env) ((execs body env).wrap (turned target it body orelse env) (noted env) id id) fs s₂)
            (fun _ _ => False) s₁) (fun _ _ => False) s)
    (hq : (Code.block orelse env).quiet = true := by rfl) :
    SegG (model prog w) A Φ (.forLoop target it body orelse env) ((model prog w).den (.forLoop target it body orelse env)) fs s := by
  show SegG _ A Φ _ ((forTurn target it body orelse env).onRaise (fun x => do noteFrame x env; theTreesLotGoes x)) fs s
  rw [Sem.onRaise_eq_wrap]
  unfold forTurn
  refine sg_at ?_
  show SegG _ A Φ _ ((((pyNext it).onRaise (fun _ => standAt { target.pos with line := 0 })) >>= fun r => (match r with
    | none => again (.block orelse env)
    | some v => letOwnedTupleGo target it v >>= fun _ => assign target env v >>= fun _ => execs body env >>= fun f => (match f with
      | .next | .cont => again (.forLoop target it body orelse env)
      | .brk => pure (.done .next)
      | .ret v => pure (.done (.ret v)) : Sem PySem.Fin) : Sem PySem.Fin)).wrap _ _ id id) fs s
  rw [Sem.bind_eq_wrap', Sem.wrap_wrap]
  refine sg_wrap (wpAny_onRaise (wpAny_mono h (fun r s₁ h₁ => ?_) fun _ _ h' => h'.elim))
  cases r with
  | none => exact sg_again hq h₁
  | some v =>
    show SegG _ A Φ _ ((letOwnedTupleGo target it v >>= fun _ => assign target env v >>= fun _ => execs body env >>= fun f => (match f with
      | .next | .cont => again (.forLoop target it body orelse env)
      | .brk => pure (.done .next)
      | .ret v => pure (.done (.ret v)) : Sem PySem.Fin)).wrap _ _ id id) fs s₁
    rw [hgo v]
    show SegG _ A Φ _ ((assign target env v >>= fun _ => execs body env >>= fun f => (match f with
      | .next | .cont => again (.forLoop target it body orelse env)
      | .brk => pure (.done .next)
      | .ret v => pure (.done (.ret v)) : Sem PySem.Fin)).wrap _ _ id id) fs s₁
    rw [Sem.bind_eq_wrap', Sem.wrap_wrap]
    refine sg_wrap (wpAny_mono h₁ (fun _ s₂ h₂ => ?_) fun _ _ h' => h'.elim)
    rw [Sem.bind_eq_wrap', Sem.wrap_wrap]
    refine cast ?_ h₂
    congr 1
    refine Sem.wrap_congr _ id id (fun f => by cases f <;> rfl) (fun e => ?_)
    show _ = ((do noteFrame e env; theTreesLotGoes e : Sem Unit).bind (fun _ => Sem.raise e))
    rw [Sem.bind_eq_wrap]
theorem sg_Expr_Yield {K : Flow → Sem PySem.Fin} {H : Value → Sem PySem.Fin} {e : Expr} {ypos pos : Pos} {c : Code} (hfs : splitAtGen fs = none)
    (h : wpAny (model prog w) (A.over c fs) (eval e env) (fun v s' => ∀ p k, (∀ v, k (.send v) = (dropValue (.Yield (some e) ypos) pos v).wrap K H id id) → Φ (.susp v false [] k c p fs) s')
      (fun x s' => SegG (model prog w) A Φ c (H x) fs s') s) (hco : env.scope.isCoroutine = false := by rfl) (hi : interactive env = false := by rfl) :
    SegG (model prog w) A Φ c ((exec (.Expr (.Yield (some e) ypos) pos) env).wrap K H id id) fs s := by
  rw [exec_Expr env _ pos hi rfl]
  show SegG _ A Φ c (.at pos fun _ => ((eval e env >>= fun v => (standAt ypos >>= fun _ => yieldOut env v)) >>= fun x =>
    dropValue (.Yield (some e) ypos) pos x).wrap K H id id) fs s
  have hy : ∀ v, yieldOut env v = yieldValue v := fun v => by simp only [yieldOut, hco, Bool.false_eq_true, if_false]
  simp only [hy]
  refine sg_at ?_
  rw [Sem.bind_eq_wrap', Sem.bind_eq_wrap', Sem.wrap_wrap, Sem.wrap_wrap]
  refine sg_wrap (wpAny_mono h (fun v s' h' => ?_) fun _ _ x => x)
  refine sg_at ?_
  exact sg_yield hfs fun p => h' p _ fun v => rfl
theorem sg_func {body : List Stmt}
    (h : SegG (model prog w) A Φ (.func body env) ((execs body env).wrap (fun f => .pure (.done (.ret (match f with | .ret v => v | _ => .none))))
      (fun e => (leaving env e).wrap (fun _ => .raise e) .raise id id) id id) fs s) :
    SegG (model prog w) A Φ (.func body env) ((model prog w).den (.func body env)) fs s := by
  show SegG _ A Φ _ (.point [] fun _ => ((execs body env).onRaise (leaving env)) >>= _) fs s
  refine sg_point ?_
  rw [Sem.onRaise_eq_wrap, Sem.bind_eq_wrap', Sem.wrap_wrap]
  rw [Sem.wrap_congr (execs body env) _ _ (K' := fun f => .pure (.done (.ret (match f with | .ret v => v | _ => .none))))
    (H' := fun e => (leaving env e).wrap (fun _ => .raise e) .raise id id) (fun f => by cases f <;> rfl)
    (fun e => by rw [Sem.bind_eq_wrap, Sem.wrap_wrap]; rfl)]
  exact h
end

/-! ### the first turn -/
/-- what the first wake comes to: J the state's own word; no slot at all, or the first one is out -/
def FstP (prog : Program) (w : World) (A : Around) (env : Env) (N : Nat) (size code : Int) (low : List Addr) (J : Shared → Prop) (e : End) (s' : Shared) : Prop := match e with
  | .ret r => r = .ok (.ret .none) ∧ N = 0 ∧ J s'
  | .susp v g l k c p fs => (End.susp v g l k c p fs).quiet = true ∧ 0 < N ∧ (∃ t, v = .int (sl size code 0) t) ∧ J s' ∧ ∃ it : Addr, (∀ b ∈ low, b < it) ∧ LSy env it N size code 0 s'.heap ∧
      ∀ s'', Slp env it s' s'' → Seg (model prog w) A (RP (fun _ _ => True) env.locals it N) (YP (fun _ _ => True) env it N size code) (N - 1) s'' c (k (.send .none)) fs s''
section
variable {prog : Program} {w : World} {A : Around} {env : Env} {it : Addr} {N : Nat} {size code : Int}
theorem path_first {J : Shared → Prop} {low : List Addr} {pt p0 p0' p0'' p1 p2 p3 p4 p5 q1 q2 q3 q4 q5 q6 q7 q8 q9 q10 q11 : Pos} {k1 k2 : Nat} (T : PEnv env) (hi : interactive env = false) (hL : env.locals ≠ mainGlobals) (hiL : it ≠ env.locals) (hiG : it ≠ mainGlobals) (hz : size ≠ 0) (hlow : ∀ b ∈ low, b < it)
    (hJ : ∀ s s', J s → Mv env.locals it s s' → J s') {kf : Result → Sem PySem.Fin} {g : Bool → Bool} {l : List Value} {c : Code} {p : Pos} (hg : g false = false)
    (hA : (A.over (.forLoop (.Name "_" pt) (.ref it) (loopBody p0 p0' p0'' p1 p2 p3 p4 p5 q1 q2 q3 q4 q5 q6 q7 q8 q9 q10 q11 k1 k2) [] env) [.ret kf none (g false) l c p []]).handled = none)
    (hend0 : ∀ s, N = 0 → J s → SegG (model prog w) A (FstP prog w A env N size code low J) c (kf (.ok .next)) [] s)
    (hend : ∀ s₀ s, Jr (fun _ _ => True) env.locals it N s₀ s → Seg (model prog w) A (RP (fun _ _ => True) env.locals it N) (YP (fun _ _ => True) env it N size code) 0 s₀ c (kf (.ok .next)) [] s)
    {s : Shared} (x : LSt env it N size code 0 s.heap) (j : J s) :
    SegG (model prog w) A (FstP prog w A env N size code low J) (.forLoop (.Name "_" pt) (.ref it) (loopBody p0 p0' p0'' p1 p2 p3 p4 p5 q1 q2 q3 q4 q5 q6 q7 q8 q9 q10 q11 k1 k2) [] env)
        ((model prog w).den (.forLoop (.Name "_" pt) (.ref it) (loopBody p0 p0' p0'' p1 p2 p3 p4 p5 q1 q2 q3 q4 q5 q6 q7 q8 q9 q10 q11 k1 k2) [] env)) [.ret kf none (g false) l c p []] s := by
  refine sg_forLoop (fun v => rfl) ?_
  by_cases hN : N = 0
  · refine wpAny_pyNext_range_end hA x.rg (by omega) fun h' eb => ?_
    show SegG _ _ _ (.block [] env) ((model prog w).den (.block [] env)) _ _
    exact sg_leaf (.ok .next) (hend0 _ hN (hJ _ _ j ⟨h', s.toks, rfl, fun b o _ hb e => eb b o hb e⟩))
  · have W := Walks.range (prog := prog) (w := w) hA it 0 1 N
    refine W.item 0 s _ _ (by omega) x.rg fun v h1 t1 hv rg1 k1' => ?_
    obtain ⟨tv, rfl⟩ := hv
    have kk : ∀ b o, b ≠ it → s.heap.get? b = some o → h1.get? b = some o := fun b o hb e => k1' b o (by simpa using hb) e
    have f1 : Fm env h1 size (sl size code 0) (pu code 0) := x.fm.keeps fun b o hb e => kk b o (by rcases hb with hb | hb <;> rw [hb] <;> first | exact Ne.symm hiL | exact Ne.symm hiG) e
    have j1 : J { s with heap := h1, toks := t1 } := hJ _ _ j ⟨h1, t1, rfl, fun b o _ hb e => kk b o hb e⟩
    show wpAny _ _ (assign (.Name "_" pt) env _) _ _ _
    obtain ⟨⟨m, hn, ⟨a1, e1⟩, ⟨a2, e2⟩, ⟨a3, e3⟩⟩, ⟨mg, hg', gq⟩⟩ := f1
    have n1 : ¬ (("slot" : Str) = "_") := by decide
    have n2 : ¬ (("push" : Str) = "_") := by decide
    have n3 : ¬ (("size" : Str) = "_") := by decide
    refine wpAny_assign_Name (wpAny_storeName_local (s := { s with heap := h1, toks := t1 }) T.low hn (fun h2 hn2 hs2 => ?_) (by rw [T.kind]; rfl))
    have f2 : Fm env h2 size (sl size code 0) (pu code 0) := ⟨⟨_, hn2, ⟨a1, by rw [if_neg n1]; exact e1⟩, ⟨a2, by rw [if_neg n2]; exact e2⟩, ⟨a3, by rw [if_neg n3]; exact e3⟩⟩, ⟨mg, hg'.sameBut hs2 (Ne.symm hL), gq⟩⟩
    have j2 : J { s with heap := h2, toks := t1 + 1 } := hJ _ _ j1 ⟨h2, t1 + 1, rfl, fun b o hb _ e => (hs2.2 b hb).trans e⟩
    have y2 : LSy env it N size code 0 h2 := ⟨f2, (hs2.2 it hiL).trans rg1⟩
    refine sg_execs_cons ?_
    refine sg_Expr_Yield (by rfl) ?_ T.co hi
    obtain ⟨⟨m2, hm2, ⟨b1, c1⟩, _⟩, _⟩ := f2
    refine nm (s := { s with heap := h2, toks := t1 + 1 }) T T.slot hm2 c1 ?_
    intro pp kk' hkk
    refine ⟨?_, by omega, ⟨b1, rfl⟩, j2, it, hlow, y2, fun s'' z => ?_⟩
    · show (!(false || (g false || false))) = true
      rw [hg]; rfl
    rw [hkk]
    show Seg _ _ _ _ _ s'' _ (((dropValue (.Yield (some (.Name "slot" p0)) p0') p0'' .none)).wrap _ _ id id) _ s''
    have y3 := y2.keeps (s := { s with heap := h2, toks := t1 + 1 }) (s' := s'') z
    show Seg _ _ _ _ _ s'' _ ((execs [stPush p1 p2 p3 p4 p5, stSlot q1 q2 q3 q4 q5 q6 q7 q8 q9 q10 q11 k1 k2] env).wrap _ _ id id) _ s''
    refine seg_execs_cons (seg_wrap (run_push T hL y3.fm fun h4 t4 f4 k4 => ?_))
    show Seg _ _ _ _ _ s'' _ ((execs [stSlot q1 q2 q3 q4 q5 q6 q7 q8 q9 q10 q11 k1 k2] env).wrap _ _ id id) _ _
    refine seg_execs_cons (seg_wrap (run_slot (s := { s'' with heap := h4, toks := t4 }) T hL hz f4 fun h5 t5 f5 k5 => ?_))
    show Seg _ _ _ _ _ s'' _ ((execs [] env).wrap _ _ id id) _ _
    refine seg_execs_nil ?_
    refine seg_again rfl ?_
    refine path_seg T hi hL hiL hiG hz (fun _ _ _ _ _ => trivial) hg hA hend (N - 1) 1 s'' _ (by omega) ⟨f5, (k5 it _ hiL (k4 it _ hiL y3.rg))⟩ ?_
    unfold Jr
    rw [if_neg (by omega)]
    exact ⟨h5, t5, rfl, fun b o hb _ e => k5 b o hb (k4 b o hb e)⟩
end
end Pth
set_option Elab.async false
set_option linter.all false
set_option maxRecDepth 100000
set_option maxHeartbeats 1000000
/-! Pm: path is called -/
namespace Pth
open PySem PySem.Spec PyProof.Rows L2 GenW
theorem run_range {X : Cx} {pins : List (Addr × Obj)} {σ : L2.St} {H : Hp} {s : Shared} {j : Int} {p pm pos : Pos} (I : Inv X pins σ H s) (hg : Gl X "range") (hm : X.mg "range" = none) (h2 : X.N[2]? = some ("many" : Str)) (hv : Vis X.env.scope "many") (hσ : σ[2]? = some (some (V.int j)))
    (j0 : 0 ≤ j) (j1 : j < 2 ^ 62) :
    wpAny (model X.prog X.w) X.A (eval (.Call (.Name "range" p) [.Name "many" pm] [] pos) X.env) (fun v s1 => wpAny (model X.prog X.w) X.A (pyIter v) (fun itv s2 => ∃ it : Addr, itv = .ref it ∧ X.env.locals < it ∧ (∀ p ∈ X.pn ++ pins, p.1 < it) ∧
      IsRangeIter s2.heap it (0 + ((0 : Nat) : Int) * 1) ((j.toNat : Int) - ((0 : Nat) : Int)) 1 ∧ Inv X pins σ H s2) X.xe s1) X.xe s := by
  refine Call_ (ld_blt I hg hm boot_range (PyProof.Rows.callWith_type1 (thn ((pa_cons (pe_var (i := 2) h2 hv) pa_nil).run pos pins s σ H (fun vs H1 => vs = [.int j] ∧ H1 = H) I ⟨_, hσ, rfl, rfl⟩) fun us s1 ⟨vs, H1, I1, r1, q1⟩ => ?_) rfl rfl))
  obtain ⟨e1, e2⟩ := q1
  subst e1
  subst e2
  cases r1 with
  | cons r rr =>
    cases rr
    obtain ⟨t, rfl⟩ := r
    refine call_range_1 ?_
    refine wpAny_pyIter_range (IsRange.new ..) (small_one (by omega) (by omega) (by omega) j1) ?_
    have I2 : Inv X pins σ H1 { s1 with heap := s1.heap.push { cls := .type "range", data := .fields #[.int 0 s1.toks, .int j t, .int 1 (s1.toks + 1)] }, toks := s1.toks + 1 + 1 } := I1.kept (t' := s1.toks + 1 + 1) fun b o e => Heap.get?_push_of_some _ e
    have hsz : s1.heap.objs.size < (s1.heap.push { cls := .type "range", data := .fields #[.int 0 s1.toks, .int j t, .int 1 (s1.toks + 1)] }).objs.size := by rw [Heap.size_push]; exact Nat.lt_succ_self _
    refine ⟨_, rfl, Nat.lt_trans I1.lt hsz, fun p hp => Nat.lt_trans (Heap.lt_size (I1.pin p hp).1) hsz, ?_, I2.kept (t' := s1.toks + 1 + 1) fun b o e => Heap.get?_push_of_some _ e⟩
    have e1 : (0 : Int) + ((0 : Nat) : Int) * 1 = 0 := by simp
    have e2 : ((j.toNat : Nat) : Int) - ((0 : Nat) : Int) = Builtin.Range.rangeSize 0 j 1 := by rw [rangeSize_one]; split <;> omega
    rw [e1, e2]
    exact Heap.get?_push_size _ rfl

/-- what a call of path gives: a generator that has not begun; what its first wake comes to, from any state that has all that stood there -/
structure PMade (P : Program) (w : World) (k : Nat) (outer : List Env) (H : Hp) (sC : Shared) (N : Nat) (size code : Int) (a : Addr) (g : Nat) (c : Code) (env : Env) (s' : Shared) : Prop where
  T : PEnv env
  nG : env.locals ≠ mainGlobals
  young : sC.heap.objs.size ≤ env.locals
  La : env.locals < a
  aE : a + 1 = s'.heap.objs.size
  gen : s'.heap.IsGen a g
  fresh : s'.gens[g]? = some (.fresh c)
  os : s'.os = sC.os
  bare : AllBare s'.gens
  lim : s'.heap.NoLimit
  keep : ∀ b o, sC.heap.get? b = some o → s'.heap.get? b = some o
  wake : ∀ (A : Around) (s2 : Shared) (xs : List (Addr × Obj)), Room k A → A.frames = some outer → (∀ b o, s'.heap.get? b = some o → s2.heap.get? b = some o) → s2.os = sC.os → AllBare s2.gens → (∀ p ∈ xs, s2.heap.get? p.1 = some p.2 ∧ a < p.1 ∧ ∀ v, p.2.data ≠ .cell v) →
     SegG (model P w) A (FstP P w A env N size code (a :: xs.map (·.1)) (fun s3 => s3.os = sC.os ∧ AllBare s3.gens ∧ Un (frs outer) [] H H sC.heap s3.heap ∧ HOk P w H s3.heap ∧ s3.heap.IsGen a g ∧ s3.heap.NoLimit ∧ ∀ p ∈ xs, s3.heap.get? p.1 = some p.2)) c ((model P w).den c) [] s2
def E00 : XK := fun _ _ _ => False
section
variable {P : Program} {w : World} {K : PySem.W.Frag} {mg : Str → Option Value} {base : Heap}
/-- path's names -/
abbrev pN : List Str := ["code", "size", "many", "slot", "push", "_"]
abbrev pP : List Str := ["code", "size", "many"]
structure PSc (sc : Scope) : Prop where
  S : GScope pN pP sc
  co : sc.isCoroutine = false
  slot : sc.names.lookup ("slot" : Str) = some NameKind.local
  push : sc.names.lookup ("push" : Str) = some NameKind.local
  size : sc.names.lookup ("size" : Str) = some NameKind.local
  many : sc.names.lookup ("many" : Str) = some NameKind.local
  low : sc.names.lookup ("_" : Str) = some NameKind.local
  share : sc.names.lookup ("PUSH_SHARE" : Str) = some NameKind.globalImplicit
  range : sc.names.lookup ("range" : Str) = some NameKind.globalImplicit
theorem PSc.env {sc : Scope} (S : PSc sc) {q : Str} {L f : Addr} {cd : Value} : PEnv (envOfC q sc L f cd) := ⟨S.S.kind, S.co, rfl, S.slot, S.push, S.size, S.low, S.share⟩
theorem path_call {k : Nat} {f : Addr} {name qual : Str} {params : Arguments} {l5 : List Stmt} {scope : Scope} {dV kV doc pm cdv ct oc : Value} {an od : Option Addr} {osl : Array (Option Value)} {tsh : Tok}
    {pt pr pmm pcl pf p0 p0' p0'' p1 p2 p3 p4 p5 q1 q2 q3 q4 q5 q6 q7 q8 q9 q10 q11 : Pos} {k1 k2 : Nat} {size code many : Int}
    (lk : K.lookup f = some ⟨oc, od, .func (PySem.W.fnOf name qual params (l5 ++ [.For (.Name "_" pt) (.Call (.Name "range" pr) [.Name "many" pmm] [] pcl) (loopBody p0 p0' p0'' p1 p2 p3 p4 p5 q1 q2 q3 q4 q5 q6 q7 q8 q9 q10 q11 k1 k2) [] pf]) scope dV kV doc pm an cdv ct), osl⟩)
    (hcd : PySem.W.codeIn K cdv qual = true) (S : PSc scope) (msh : mg "PUSH_SHARE" = some (.int 32 tsh)) (mra : mg "range" = none) (hm0 : 0 ≤ many) (hm1 : many < 2 ^ 62) (hz : size ≠ 0)
    (h5 : ∀ (A : Around) (outer : List Env) (s : Shared) (H : Hp) (pn : List (Addr × Obj)), Room k (A.deeper (envOfC qual scope s.heap.objs.size f cdv)) →
      ∃ t, PSs (gcxOf P w K mg base pN qual scope f cdv A outer s H E00 pn) l5 t ∧ t { nx := fun σ' H' => σ' = [some (.int code), some (.int size), some (.int many), some (.int (code.fmod size)), some (.int code), none] ∧ H' = H, rt := fun _ _ => False } (start pN [.int code, .int size, .int many]) H)
    {A : Around} {outer : List Env} {s : Shared} {H : Hp} {args : Args} {us : List Value} (hr : Room (k + 1) A) (e0 : Env0 P w K mg base A outer s H)
    (hb : BindsTo s (PySem.W.fnOf name qual params (l5 ++ [.For (.Name "_" pt) (.Call (.Name "range" pr) [.Name "many" pmm] [] pcl) (loopBody p0 p0' p0'' p1 p2 p3 p4 p5 q1 q2 q3 q4 q5 q6 q7 q8 q9 q10 q11 k1 k2) [] pf]) scope dV kV doc pm an cdv ct) args (pP.zip us))
    (r : Vals [.int code, .int size, .int many] us) :
    codeAny (model P w) A (.call (.ref f) args) (fun r s' => match r with | .ok (.ret u) => ∃ a g c env, u = .ref a ∧ PMade P w (k + 1) outer H s many.toNat size code a g c env s' | _ => False) s := by
  have hl : [V.int code, .int size, .int many].length = pP.length := rfl
  have KX : K.In s.heap := e0.mod.kin.keeps fun b o e => (e0.bs b o e).1
  have lim : s.heap.NoLimit := e0.mod.nolimit.keeps fun b o e => (e0.bs b o e).1
  have hkind : ∀ y ∈ pP.zip us, scope.names.lookup y.1 = some .local ∨ (scope.names.lookup y.1 = some .cell ∧ ((cellsFrom (s.heap.objs.size + 1) scope.names []).lookup y.1).isSome = true) := fun ⟨n, v⟩ hy => by
    rcases S.S.par n (List.of_mem_zip hy).1 with q | q
    · exact .inl q
    · exact .inr ⟨q, PySem.W.cellsFrom_some _ _ _ (.inl q)⟩
  refine codeAny_call_generator hr.depth (KX _ _ lk) rfl S.S.co S.S.gen rfl (PySem.W.codeRec_of KX hcd) (hb _ _ _ _ ?_)
  refine wpAny_newFunctionEnv_cells S.S.kind hkind fun env he s1 x => ?_
  subst he
  have lim1 : s1.heap.NoLimit := lim.keeps x.toInCall.keep
  refine ⟨lim1, ?_⟩
  obtain ⟨h1, tk, es1, hk1⟩ := x.done
  have os1 : s1.os = s.os := by rw [es1]
  have gen1 : s1.gens = s.gens := by rw [es1]
  have lt1 : s.heap.objs.size < s1.heap.objs.size := x.toInCall.ns.lt
  have sz1 : s.heap.objs.size ≤ s1.heap.objs.size := Nat.le_of_lt lt1
  have kp1 : ∀ b o, s.heap.get? b = some o → s1.heap.get? b = some o := x.toInCall.keep
  have main : ∀ (go : Obj) (nm' qn : Value) (tk2 : Nat), go.cls = .type "generator" → go.data = .fields #[.int s1.gens.size 0, nm', qn] → go.slots = #[] → (∀ h : Heap, (h.push go).get? h.objs.size = some go) →
      PMade P w (k + 1) outer H s many.toNat size code s1.heap.objs.size s1.gens.size (.func (l5 ++ [.For (.Name "_" pt) (.Call (.Name "range" pr) [.Name "many" pmm] [] pcl) (loopBody p0 p0' p0'' p1 p2 p3 p4 p5 q1 q2 q3 q4 q5 q6 q7 q8 q9 q10 q11 k1 k2) [] pf]) (envOfC qual scope s.heap.objs.size f cdv)) (envOfC qual scope s.heap.objs.size f cdv)
        { s1 with gens := s1.gens.push (.fresh (.func (l5 ++ [.For (.Name "_" pt) (.Call (.Name "range" pr) [.Name "many" pmm] [] pcl) (loopBody p0 p0' p0'' p1 p2 p3 p4 p5 q1 q2 q3 q4 q5 q6 q7 q8 q9 q10 q11 k1 k2) [] pf]) (envOfC qual scope s.heap.objs.size f cdv))), toks := tk2, heap := s1.heap.push go } := by
    intro go nm' qn tk2 hgc hgd0 hgs hgp
    have hgen : ∀ h : Heap, h.get? s1.heap.objs.size = some go → h.IsGen s1.heap.objs.size s1.gens.size := fun h e => ⟨go, nm', qn, e, hgc, hgd0, hgs⟩
    have hpushed : (s1.heap.push go).get? s1.heap.objs.size = some go := hgp _
    have hG : mainGlobals < s.heap.objs.size := by
      obtain ⟨o, es, ep, ho, _⟩ := e0.mod.glob
      exact Heap.lt_size (e0.bs _ o ho).1
    have T : PEnv (envOfC qual scope s.heap.objs.size f cdv) := S.env
    have hint : interactive (envOfC qual scope s.heap.objs.size f cdv) = false := by
      unfold interactive
      rw [show (envOfC qual scope s.heap.objs.size f cdv).scope.kind = .function from S.S.kind]
      rfl
    have nG : (envOfC qual scope s.heap.objs.size f cdv).locals ≠ mainGlobals := Nat.ne_of_gt hG
    refine ⟨T, nG, Nat.le_refl _, lt1, ?_, hgen _ hpushed, Array.getElem?_push_size .., os1, ?_, lim1.keeps fun b o e => Heap.get?_push_of_some _ e, fun b o e => Heap.get?_push_of_some _ (kp1 b o e), ?_⟩
    · show _ = (s1.heap.push _).objs.size
      rw [Heap.size_push]
    · exact AllBare.push (by rw [gen1]; exact e0.bare) rfl
    intro Aw s2 xs hrw hfr hk2 hos hba hxs
    have e0w : Env0 P w K mg base Aw outer s H := ⟨hfr, e0.mod, e0.bs, e0.bsz, e0.funs, e0.frf, e0.hok, e0.bare⟩
    obtain ⟨t, ht, hq⟩ := h5 Aw outer s H [(s1.heap.objs.size, go)] (hrw.deeper _)
    have I1 : Inv (gcxOf P w K mg base pN qual scope f cdv Aw outer s H E00 []) [] (start pN [.int code, .int size, .int many]) H s1 := inv_startG S.S hrw.hd e0w hl r x
    have kp2 : ∀ b o, s1.heap.get? b = some o → s2.heap.get? b = some o := fun b o e => hk2 b o (Heap.get?_push_of_some _ e)
    have I2 : Inv (gcxOf P w K mg base pN qual scope f cdv Aw outer s H E00 []) [] (start pN [.int code, .int size, .int many]) H s2 :=
      I1.call' (ch := []) (hos.trans os1.symm) (Un.kept kp2) (I1.hok.kept kp2) hba fun b z => by simp at z
    have hea : s2.heap.get? s1.heap.objs.size = some go := hk2 s1.heap.objs.size go hpushed
    have hgd : ∀ v, go.data ≠ .cell v := fun v q => by rw [hgd0] at q; cases q
    have I3 : Inv (gcxOf P w K mg base pN qual scope f cdv Aw outer s H E00 [(s1.heap.objs.size, go)]) xs (start pN [.int code, .int size, .int many]) H s2 := Inv.pinnedG I2 fun p hp => by
      rcases List.mem_append.mp hp with z | z
      · rw [List.mem_singleton.mp z]
        exact ⟨hea, I1.hok.fresh (Nat.le_refl _), Nat.ne_of_gt lt1, I1.nofs (Nat.le_refl _), hgd⟩
      · obtain ⟨x1, x2, x3⟩ := hxs p z
        exact ⟨x1, I1.hok.fresh (Nat.le_of_lt x2), Nat.ne_of_gt (Nat.lt_trans lt1 x2), I1.nofs (Nat.le_of_lt x2), x3⟩
    -- the state's own word
    have word : ∀ {σ' : L2.St} {s3 : Shared}, Inv (gcxOf P w K mg base pN qual scope f cdv Aw outer s H E00 [(s1.heap.objs.size, go)]) xs σ' H s3 →
        (s3.os = s.os ∧ AllBare s3.gens ∧ Un (frs outer) [] H H s.heap s3.heap ∧ HOk P w H s3.heap ∧ s3.heap.IsGen s1.heap.objs.size s1.gens.size ∧ s3.heap.NoLimit ∧ ∀ p ∈ xs, s3.heap.get? p.1 = some p.2) := fun {σ' s3} J =>
      ⟨J.os, J.bare, J.base, J.hok, hgen _ (J.pin (s1.heap.objs.size, go) (List.mem_append_left _ (List.mem_singleton.mpr rfl))).1, J.nolimit, fun p hp => (J.pin p (List.mem_append_right _ hp)).1⟩
    have fall : ∀ (e : Value) (s' : Shared), (gcxOf P w K mg base pN qual scope f cdv Aw outer s H E00 [(s1.heap.objs.size, go)]).xe e s' → ∀ Φ : End → Shared → Prop, SegG (model P w) Aw Φ (.func (l5 ++ [.For (.Name "_" pt) (.Call (.Name "range" pr) [.Name "many" pmm] [] pcl) (loopBody p0 p0' p0'' p1 p2 p3 p4 p5 q1 q2 q3 q4 q5 q6 q7 q8 q9 q10 q11 k1 k2) [] pf]) (envOfC qual scope s.heap.objs.size f cdv))
        (Sem.wrap (fun _ => .raise e) .raise id id (leaving (envOfC qual scope s.heap.objs.size f cdv) e)) [] s' := fun e s' hx Φ => by
      refine sg_wrap ?_
      rw [over_func]
      refine wpAny_mono (show wpAny (model P w) (Aw.deeper (envOfC qual scope s.heap.objs.size f cdv)) (leaving (envOfC qual scope s.heap.objs.size f cdv) e) (fun _ s'' => CX P w outer H s E00 e s'' ∧ ∀ p ∈ [(s1.heap.objs.size, go)], s''.heap.get? p.1 = some p.2) (fun _ _ => False) s' from hx) (fun _ s'' q => ?_) fun _ s'' q => q.elim
      obtain ⟨⟨_, _, _, _, _, _, _, _, _, _, _, _, z⟩, _⟩ := q
      exact z.elim
    refine sg_func (sg_app (sg_wrap ?_))
    rw [over_func]
    refine wpAny_mono (ht.run xs s2 _ H _ I3 hq) (fun fl s3 hs => ?_) fun e s' hx => fall e s' hx _
    cases fl with
    | brk => obtain ⟨_, _, _, q⟩ := hs; exact False.elim q
    | cont => obtain ⟨_, _, _, q⟩ := hs; exact False.elim q
    | ret u => obtain ⟨_, _, _, _, _, q⟩ := hs; exact False.elim q
    | next =>
      obtain ⟨σ3, H3, J3, e3, e4⟩ := hs
      subst e3
      subst e4
      refine sg_execs_cons (sg_For (fun _ => rfl) ?_)
      rw [over_func]
      have hvis : Vis scope ("many" : Str) := .inl S.many
      refine wpAny_mono (run_range (j := many) (pm := pmm) (p := pr) (pos := pcl) J3 S.range mra rfl hvis rfl hm0 hm1) (fun v s4 h4 => wpAny_mono h4 (fun itv s5 h5' => ?_) fun e s' hx => fall e s' hx _) fun e s' hx => fall e s' hx _
      obtain ⟨it, rfl, hLit, hpit, hrg, J5⟩ := h5'
      have hLit' : s.heap.objs.size < it := hLit
      have hait : s1.heap.objs.size < it := hpit (s1.heap.objs.size, go) (List.mem_append_left _ (List.mem_singleton.mpr rfl))
      have hlows : ∀ b ∈ s1.heap.objs.size :: xs.map (·.1), b < it := fun b hb => by
        rcases List.mem_cons.mp hb with z | z
        · rw [z]; exact hait
        · obtain ⟨p, hp, rfl⟩ := List.mem_map.mp z
          exact hpit p (List.mem_append_right _ hp)
      have hit0 : it ≠ (envOfC qual scope s.heap.objs.size f cdv).locals := Nat.ne_of_gt hLit'
      have hitG : it ≠ mainGlobals := Nat.ne_of_gt (Nat.lt_trans hG hLit')
      have fm5 : Fm (envOfC qual scope s.heap.objs.size f cdv) s5.heap size (code.fmod size) code := by
        obtain ⟨m, hn, hl5⟩ := J5.loc
        have get : ∀ (i : Nat) (x : Str) (n : Int), pN[i]? = some x → scope.names.lookup x = some NameKind.local → ([some (.int code), some (.int size), some (.int many), some (.int (code.fmod size)), some (.int code), none] : L2.St)[i]? = some (some (.int n)) → ∃ t, m x = some (.int n t) := fun i x n h1 h2 h3 => by
          obtain ⟨u, ru, lu⟩ := hl5 i x _ h1 h3 (.inl h2)
          obtain ⟨t, rfl⟩ := ru
          rcases lu with ⟨_, hm⟩ | ⟨hk, _⟩
          · exact ⟨t, hm⟩
          · have hk' : scope.names.lookup x = some .cell ∨ scope.names.lookup x = some .free := hk
            rw [h2] at hk'
            rcases hk' with z | z <;> cases z
        exact ⟨⟨m, hn, get 3 _ _ rfl S.slot rfl, get 4 _ _ rfl S.push rfl, get 1 _ _ rfl S.size rfl⟩, ⟨mg, J5.mod.glob.keeps J5.bk, tsh, msh⟩⟩
      intro pp
      have ltL : ∀ b o, s.heap.get? b = some o → b ≠ s.heap.objs.size ∧ b ≠ it := fun b o e => ⟨Nat.ne_of_lt (Heap.lt_size e), Nat.ne_of_lt (Nat.lt_trans (Heap.lt_size e) hLit')⟩
      refine path_first T hint nG hit0 hitG hz hlows (fun sa sb hja hm => ?_) rfl ?_ (fun sa hN hja => ?_) (fun s₀ sa hja => ?_) ⟨fm5, hrg⟩ (word J5)
      · obtain ⟨h', tk', rfl, hk⟩ := hm
        obtain ⟨a1, a2, a3, a4, a5, a6, a7⟩ := hja
        have hLn : H3 s.heap.objs.size = none := e0.hok.fresh (Nat.le_refl _)
        have hIn : H3 it = none := e0.hok.fresh (Nat.le_of_lt hLit')
        have nt : ∀ b u, H3 b = some u → b ≠ s.heap.objs.size ∧ b ≠ it := fun b u e => ⟨ne_of_none e hLn, ne_of_none e hIn⟩
        have hcS : cStatics < s.heap.objs.size := let ⟨_, hn, _⟩ := lim; hn.lt
        refine ⟨a1, a2, ⟨fun b o e n hb hx => ?_, fun b o e n hb hx => ?_, a3.free, fun b o e hx => ?_, a3.tups, a3.frzs, a3.tbls⟩, fun b u e => ?_, ?_, ?_, fun p hp => hk p.1 p.2 (Nat.ne_of_gt (Nat.lt_trans lt1 (hxs p hp).2.1)) (Nat.ne_of_lt (hlows p.1 (List.mem_cons_of_mem _ (List.mem_map.mpr ⟨p, hp, rfl⟩)))) (a7 p hp)⟩
        · exact hk b o (ltL b o e).1 (ltL b o e).2 (a3.keep b o e n hb hx)
        · obtain ⟨sl', e'⟩ := a3.slot b o e n hb hx
          exact ⟨sl', hk b _ (ltL b o e).1 (ltL b o e).2 e'⟩
        · obtain ⟨o', e'⟩ := a3.there b o e hx
          exact ⟨o', hk b _ (ltL b o e).1 (ltL b o e).2 e'⟩
        · refine (a4 b u e).stay (fun c v hc q => ?_) (fun _ z => z) fun _ _ z => z
          rcases hc with hc | hc
          · rw [hc] at q ⊢
            exact hk b v (nt b u e).1 (nt b u e).2 q
          · exact hk c v (nt c _ hc).1 (nt c _ hc).2 q
        · obtain ⟨o, n1, n2, ho, z⟩ := a5
          exact ⟨o, n1, n2, hk _ o (Nat.ne_of_gt lt1) (Nat.ne_of_lt hait) ho, z⟩
        · obtain ⟨mc, hns, hnn⟩ := a6
          exact ⟨mc, hns.at' fun o e => hk _ o (Nat.ne_of_lt hcS) (Nat.ne_of_lt (Nat.lt_trans hcS hLit')) e, hnn⟩
      · exact hrw.hd
      · exact sg_end (.ok (.ret .none)) ⟨rfl, hN, hja⟩
      · exact seg_end (.ok (.ret .none)) ⟨rfl, rfl, hja⟩
  exact ⟨_, _, _, _, rfl, main _ _ _ _ rfl rfl rfl fun h => Heap.get?_push_size _ rfl⟩
end
end Pth
set_option Elab.async false
set_option linter.all false
set_option maxRecDepth 100000
set_option maxHeartbeats 1000000
/-! Pf: a for over path(..), its body by a judgement; list(path(..)) -/
namespace Pth
open PySem PySem.Spec PyProof.Rows L2 GenW
open Sem (wp)
section
variable {M : Model}
theorem resume_first {A : Around} {Φ : End → Shared → Prop} {E : Value → Shared → Prop} {s : Shared} {g : Nat} {c : Code} {l : List Value} {α : Type} {k : GenResult → Sem α} {Q : α → Shared → Prop} (hg : s.gens[g]? = some (.fresh c))
    (hgo : SegG M A Φ c (M.den c) [] (s.setGen g .running))
    (hR : ∀ e s₁, Φ e s₁ → e.quiet = true ∧ wpAny M A (k e.result) Q E (s₁.setGen g e.genState)) : wpAny M A (.resume g (.send .none) l k) Q E s := by
  intro Γ p hΓ
  rw [Sem.wp_resume]
  obtain ⟨e₁, s₁, hr, he⟩ := hgo (Γ.wake c p) p rfl (hΓ.wake c p)
  obtain ⟨hq, hw⟩ := hR e₁ s₁ he
  exact ⟨_, _, by unfold Wakes; rw [hg]; exact ⟨e₁, s₁, hr, hq, rfl, rfl⟩, hw Γ p hΓ⟩
theorem resume_later {A : Around} {R : GenEnd} {Y : Protocol} {n : Nat} {E : Value → Shared → Prop} {s : Shared} {g : Nat} {k₀ : Resume → Sem PySem.Fin} {l₀ : List Value} {c₀ : Code} {p₀ : Pos} {fs₀ : List Frame} {cl₀ : Bool} {r : Resume} {l : List Value} {α : Type} {k : GenResult → Sem α} {Q : α → Shared → Prop}
    (hg : s.gens[g]? = some (.suspended k₀ l₀ c₀ p₀ fs₀ cl₀))
    (hgo : Seg M A R Y n (s.setGen g .running) c₀ (k₀ r) fs₀ (s.setGen g .running))
    (hR : ∀ e s₁, SegEnd R Y n (Seg.next M A R Y n) (s.setGen g .running) e s₁ → e.quiet = true ∧ wpAny M A (k e.result) Q E (s₁.setGen g e.genState)) : wpAny M A (.resume g r l k) Q E s := by
  intro Γ p hΓ
  rw [Sem.wp_resume]
  obtain ⟨e₁, s₁, hr, he⟩ := seg_iff.mp hgo (Γ.wake c₀ p) p₀ rfl (hΓ.wake c₀ p)
  obtain ⟨hq, hw⟩ := hR e₁ s₁ he
  exact ⟨_, _, by unfold Wakes; rw [hg]; exact ⟨e₁, s₁, hr, hq, rfl, rfl⟩, hw Γ p hΓ⟩
end
section
variable {P : Program} {w : World} {A : Around} {E : Value → Shared → Prop} {s : Shared}
theorem next_first {a : Addr} {g : Nat} {c : Code} {Φ : End → Shared → Prop} {Q : Option Value → Shared → Prop} (hh : A.handled = none) (hl : s.heap.NoLimit) (hroom : A.depth < recursionLimit) (hg : s.heap.IsGen a g) (hgs : s.gens[g]? = some (.fresh c))
    (hgo : SegG (model P w) A.in1 Φ c ((model P w).den c) [] (s.setGen g .running))
    (hR : ∀ e s₁, Φ e s₁ → (e = .ret (.ok (.ret .none)) ∧ ∀ h', (∀ b o, s₁.heap.get? b = some o → h'.get? b = some o) → Q none { s₁.setGen g .finished with heap := h' }) ∨
      ∃ v gd l k c' p' fs, e = .susp v gd l k c' p' fs ∧ e.quiet = true ∧ Q (some v) (s₁.setGen g e.genState)) :
    wpAny (model P w) A (pyNext (.ref a)) Q E s := by
  unfold pyNext
  refine wpAny_bind (wpAny_attempt (wpAny_callSpecial?_slot (name := Str.ofString "__next__") hg.typeIs slot_gen_next
    (wpAny_call_entry slot_gen_next hg.typeIs entry_gen_next ?_ (args_gen_next _))))
  show wpAny _ A.in1 (Builtin.Generator.genWake (.ref a) (.send .none)) _ _ s
  unfold Builtin.Generator.genWake
  refine wpAny_bind (wpAny_holding (wpAny_genNumber hg (wpAny_bind (wpAny_genState hgs ?_))))
  refine wpAny_bind (wpAny_roomToWake hl hroom ?_)
  show wpAny _ A.in1 (.resume g (.send .none) [] _) _ _ s
  refine resume_first hgs hgo fun e s₁ he => ?_
  rcases hR e s₁ he with ⟨rfl, h⟩ | ⟨v, gd, l, k, c', p', fs, rfl, hq, h⟩
  · refine ⟨rfl, ?_⟩
    show wpAny _ A.in1 (newExc (.type "StopIteration") [] >>= _) _ _ _
    refine wpAny_bind ?_
    simp only [newExc, newTuple]
    refine wpAny_bind (wpAny_newObj_type ?_ (by size_fits))
    refine wpAny_bind (m := firstArgMember _ _) (wpAny_of_eq (a := Value.none) (by first | rfl | (simp only [firstArgMember]; rfl)) ?_)
    refine wpAny_newObj_type ?_ (by size_fits)
    simp only [raiseNew]
    refine wpAny_bind (wpAny_bind (wpAny_handled ?_))
    first | rw [show A.in1.handled = none from hh] | rw [hh]
    refine wpAny_throw ?_
    refine wpAny_bind (wpAny_isInstance (T := "StopIteration") (b := true) ⟨_, Heap.get?_push_size _ rfl, rfl⟩ isSubtype_stop ?_)
    exact wpAny_pure (h _ fun b o hb => Heap.get?_push_of_some _ (Heap.get?_push_of_some _ hb))
  · exact ⟨hq, wpAny_pure ⟨v, rfl, wpAny_pure h⟩⟩
theorem next_later {a : Addr} {g n : Nat} {R : GenEnd} {Y : Protocol} {k₀ : Resume → Sem PySem.Fin} {l₀ : List Value} {c₀ : Code} {p₀ : Pos} {fs₀ : List Frame} {cl₀ : Bool} {Q : Option Value → Shared → Prop} (hh : A.handled = none) (hl : s.heap.NoLimit) (hroom : A.depth < recursionLimit) (hg : s.heap.IsGen a g)
    (hgs : s.gens[g]? = some (.suspended k₀ l₀ c₀ p₀ fs₀ cl₀))
    (hgo : Seg (model P w) A.in1 R Y n (s.setGen g .running) c₀ (k₀ (.send .none)) fs₀ (s.setGen g .running))
    (hR : ∀ r s₁, R n (s.setGen g .running) r s₁ → r = .ok (.ret .none) ∧ ∀ h', (∀ b o, s₁.heap.get? b = some o → h'.get? b = some o) → Q none { s₁.setGen g .finished with heap := h' })
    (hY : ∀ v gd l k c' p' fs s₁, (End.susp v gd l k c' p' fs).quiet = true → Y (n - 1) (s.setGen g .running) v s₁ (fun r s'' => Seg.next (model P w) A.in1 R Y n c' (k r) fs s'') → Q (some v) (s₁.setGen g (End.susp v gd l k c' p' fs).genState)) :
    wpAny (model P w) A (pyNext (.ref a)) Q E s := by
  unfold pyNext
  refine wpAny_bind (wpAny_attempt (wpAny_callSpecial?_slot (name := Str.ofString "__next__") hg.typeIs slot_gen_next
    (wpAny_call_entry slot_gen_next hg.typeIs entry_gen_next ?_ (args_gen_next _))))
  show wpAny _ A.in1 (Builtin.Generator.genWake (.ref a) (.send .none)) _ _ s
  unfold Builtin.Generator.genWake
  refine wpAny_bind (wpAny_holding (wpAny_genNumber hg (wpAny_bind (wpAny_genState hgs ?_))))
  refine wpAny_bind (wpAny_roomToWake hl hroom ?_)
  show wpAny _ A.in1 (.resume g (.send .none) [] _) _ _ s
  refine resume_later hgs hgo fun e s₁ he => ?_
  cases e with
  | ret r =>
    obtain ⟨rfl, h⟩ := hR r s₁ he
    refine ⟨rfl, ?_⟩
    show wpAny _ A.in1 (newExc (.type "StopIteration") [] >>= _) _ _ _
    refine wpAny_bind ?_
    simp only [newExc, newTuple]
    refine wpAny_bind (wpAny_newObj_type ?_ (by size_fits))
    refine wpAny_bind (m := firstArgMember _ _) (wpAny_of_eq (a := Value.none) (by first | rfl | (simp only [firstArgMember]; rfl)) ?_)
    refine wpAny_newObj_type ?_ (by size_fits)
    simp only [raiseNew]
    refine wpAny_bind (wpAny_bind (wpAny_handled ?_))
    first | rw [show A.in1.handled = none from hh] | rw [hh]
    refine wpAny_throw ?_
    refine wpAny_bind (wpAny_isInstance (T := "StopIteration") (b := true) ⟨_, Heap.get?_push_size _ rfl, rfl⟩ isSubtype_stop ?_)
    exact wpAny_pure (h _ fun b o hb => Heap.get?_push_of_some _ (Heap.get?_push_of_some _ hb))
  | susp v gd l k c' p' fs =>
    obtain ⟨hq, h⟩ := he
    exact ⟨hq, wpAny_pure ⟨v, rfl, wpAny_pure (hY v gd l k c' p' fs s₁ hq h)⟩⟩
end

/-! ### the consumer -/
/-- what path takes -/
def POk (code size many : Int) : Prop := 0 ≤ code ∧ code < 4294967296 ∧ size ∈ ([8, 16, 32, 64, 128, 256, 512, 1024, 2048, 4096] : List Int) ∧ 0 ≤ many ∧ many < 2 ^ 62
/-- path, called -/
def PathDef (P : Program) (w : World) (K : PySem.W.Frag) (mg : Str → Option Value) (base : Heap) (k : Nat) (f : Addr) (fd : FuncData) : Prop :=
  ∀ {code size many : Int}, POk code size many → ∀ {A : Around} {outer : List Env} {s : Shared} {H : Hp} {args : Args} {us : List Value}, Room k A → Env0 P w K mg base A outer s H → BindsTo s fd args (pP.zip us) → Vals [.int code, .int size, .int many] us →
    codeAny (model P w) A (.call (.ref f) args) (fun r s' => match r with | .ok (.ret u) => ∃ a g c env, u = .ref a ∧ PMade P w k outer H s many.toNat size code a g c env s' | _ => False) s
section
variable {X : Cx} {pins : List (Addr × Obj)} {σ : L2.St} {H : Hp} {s : Shared}
/-- with other generators -/
theorem Inv.withG (I : Inv X pins σ H s) {G : Array GenState} (h : AllBare G) : Inv X pins σ H (Fk.gw s G) := ⟨I.ok, I.os, h, I.base, I.loc, I.cell, I.free, I.freeC, I.pin, I.hok, I.len⟩
/-- where the generator at a stands, i slots out, asleep -/
structure Asleep (X : Cx) (B : Around) (env : Env) (a : Addr) (g : Nat) (N : Nat) (size code : Int) (low : Nat) (i : Nat) (it : Addr) (H : Hp) (s : Shared) : Prop where
  lowIt : low ≤ it
  gen : s.heap.IsGen a g
  st : LSy env it N size code (i - 1) s.heap
  nT : ∀ b ∈ [a, env.locals, it], H b = none
  at_ : ∃ k l c p fs cl, s.gens[g]? = some (.suspended k l c p fs cl) ∧ cl = false ∧ ∀ s'', Slp env it s s'' → Seg (model X.prog X.w) B (RP (fun _ _ => True) env.locals it N) (YP (fun _ _ => True) env it N size code) (N - i) s'' c (k (.send .none)) fs s''
/-- at the loop's head, i slots out -/
inductive Head (X : Cx) (B : Around) (s0 : Shared) (σ0 : L2.St) (H0 : Hp) (env : Env) (a : Addr) (g : Nat) (N : Nat) (size code : Int) (low : Nat) : Nat → L2.St → Hp → Shared → Prop
  | begin : Head X B s0 σ0 H0 env a g N size code low 0 σ0 H0 s0
  | amid {i : Nat} {it : Addr} {σ : L2.St} {H : Hp} {s : Shared} : 0 < i → Asleep X B env a g N size code low i it H s → Head X B s0 σ0 H0 env a g N size code low i σ H s
/-- the slots, as they come: Pv i holds ahead of the turn i -/
def tForP (i : Nat) (ta : TA) (tb : TS) : TS := fun D σ H => ta σ H fun vs H1 => ∃ code size many : Int, vs = [.int code, .int size, .int many] ∧ POk code size many ∧ ∃ Pv : Nat → L2.St → Hp → Prop, Pv 0 σ H1 ∧
  (∀ n σ' H', n < many.toNat → Pv n σ' H' → tb { D with nx := Pv (n + 1), ct := Pv (n + 1), bk := D.nx } (σ'.set i (some (.int (sl size code n)))) H') ∧ ∀ σ' H', Pv many.toNat σ' H' → D.nx σ' H'

/-- the generator's own things have turned -/
theorem inv_mv {L it : Addr} {s' : Shared} (I : Inv X pins σ H s) (m : Mv L it s s') (f1 : FpOk X pins H L) (f2 : FpOk X pins H it) : Inv X pins σ H s' := by
  obtain ⟨h', tk, rfl, k⟩ := m
  obtain ⟨a0, a1, a2, a3, a4, a5⟩ := f1
  obtain ⟨b0, b1, b2, b3, b4, b5⟩ := f2
  have ne : ∀ b, b ∉ [L, it] → b ≠ L ∧ b ≠ it := fun b hb => ⟨fun z => hb (by rw [z]; simp), fun z => hb (by rw [z]; simp)⟩
  have nt : ∀ b u, H b = some u → b ≠ L ∧ b ≠ it := fun b u e => ⟨ne_of_none e a0, ne_of_none e b0⟩
  refine I.step (g' := s.gens) (d' := s.drawn) (ch := [L, it]) (fun b hb => ?_) (fun b o _ _ hc e _ => k b o (ne b hc).1 (ne b hc).2 e) (fun b o _ _ hc e _ => ⟨o.slots, k b o (ne b hc).1 (ne b hc).2 e⟩) (fun _ _ _ _ n => n)
    (fun b o hc e => ⟨o, k b o (ne b hc).1 (ne b hc).2 e⟩) (fun _ _ e => e) (fun _ _ _ e => e) (fun b ps e => ⟨#[], by rw [e]; simp⟩) (fun m hm => ?_) (fun b u e => ?_) I.bare
  · rcases List.mem_cons.mp hb with e | hb
    · rw [e]; exact ⟨a3, a1, a4, a5⟩
    · rw [List.mem_singleton.mp hb]; exact ⟨b3, b1, b4, b5⟩
  · obtain ⟨o, es, ep, ho, r⟩ := hm
    exact ⟨o, es, ep, k _ o (Ne.symm a1) (Ne.symm b1) ho, r⟩
  · refine (I.hok b u e).stay (fun c v hc q => ?_) (fun _ q => q) fun _ _ q => q
    rcases hc with z | z
    · rw [z] at q ⊢
      exact k b v (nt b u e).1 (nt b u e).2 q
    · exact k c v (nt c _ z).1 (nt c _ z).2 q
theorem turn_body {B : Around} {env : Env} {a g : Nat} {N : Nat} {size code : Int} {low : Nat} {i ix : Nat} {it : Addr} {x : Str} {px : Pos} {body : List Stmt} {tb : TS} {D : Ends} {N' : L2.St → Hp → Prop} {v : V} {u : Value} {E : Value → Shared → Prop}
    (I : Inv X pins σ H s) (hA : Asleep X B env a g N size code low i it H s) (yg : ∀ b ∈ [a, env.locals, it], ∀ H' : Hp, H' b = none → FpOk X pins H' b) (hN : X.N.Nodup) (hi : X.N[ix]? = some x) (hx : Loc X.env.scope x) (hf : X.fn x = true ∨ X.env.scope.names.lookup x = some .local)
    (hbd : PSs X.nox body tb) (rv : RelV v u) (ht : tb { D with nx := N', ct := N', bk := D.nx } (σ.set ix (some v)) H) :
    wpAny (model X.prog X.w) X.A (assign (.Name x px) X.env u) (fun _ s6 => wpAny (model X.prog X.w) X.A (execs body X.env) (fun f s7 => match f with
      | .next | .cont => ∃ σ7 H7, Inv X pins σ7 H7 s7 ∧ N' σ7 H7 ∧ Asleep X B env a g N size code low i it H7 s7
      | .brk => ∃ σ7 H7, Inv X pins σ7 H7 s7 ∧ D.nx σ7 H7
      | .ret u => ∃ v σ7 H7, Inv X pins σ7 H7 s7 ∧ RelV v u ∧ D.rt v H7) E s6) E s := by
  obtain ⟨hlow, hgen, hst, hnT, ⟨k, l, c, p, fs, cl, hgs, hcl, hsl⟩⟩ := hA
  have R := Fk.rel_faked s.gens
  have bF : AllBare (Fk.faked s.gens) := Fk.bare_faked I.bare
  have I5 : Inv X pins σ H (Fk.gw s (Fk.faked s.gens)) := Inv.withG I bF
  obtain ⟨mm, hmm, _⟩ := hst.fm.ns
  have hob : ∀ b ∈ [a, env.locals, it], ∃ o, s.heap.get? b = some o ∧ ∀ v, o.data ≠ .cell v := fun b hb => by
    rcases List.mem_cons.mp hb with e | hb
    · rw [e]
      obtain ⟨o, n1, n2, ho, _, hd, _⟩ := hgen
      exact ⟨o, ho, fun v z => by rw [hd] at z; cases z⟩
    · rcases List.mem_cons.mp hb with e | hb
      · rw [e]
        obtain ⟨o, es, ep, ho, hd, _⟩ := hmm
        exact ⟨o, ho, fun v z => by rw [hd] at z; cases z⟩
      · rw [List.mem_singleton.mp hb]
        exact ⟨_, hst.rg, fun v z => by
          have z' : Data.fields _ = Data.cell v := z
          cases z'⟩
  have Ip : Inv X (pins ++ pinsAt [a, env.locals, it] s.heap) σ H (Fk.gw s (Fk.faked s.gens)) := I5.pinned (fun b hb => yg b hb H (hnT b hb)) hob
  have hbare : ∀ i x, Fk.sleepers s.gens i = some x → x.bare = true := Fk.sleepers_bare I.bare
  -- over the replaced ones
  have h1 : wpAny (model X.prog X.w) X.A (assign (.Name x px) X.env u) (fun _ s6 => wpAny (model X.prog X.w) X.A (execs body X.env) (SP X.nox (pins ++ pinsAt [a, env.locals, it] s.heap) { D with nx := N', ct := N', bk := D.nx }) (fun _ _ => False) s6) (fun _ _ => False) (Fk.gw s (Fk.faked s.gens)) := by
    refine wpAny_assign_Name (store_ok Ip hN hi hx rv (fun s6 I6 => ?_) hf)
    exact hbd.run _ s6 _ H _ (I6.wish _) ht
  have h2 := Fk.wpAny_fk (G := s.gens) R h1
  refine wpAny_mono h2 (fun _ s6 h6 => ?_) fun _ _ ⟨_, _, z⟩ => z.elim
  obtain ⟨G0, R0, h6⟩ := h6
  have h7 := Fk.wpAny_fk (s := Fk.gw s6 G0) (G := s6.gens) R0 h6
  refine wpAny_mono h7 (fun f s7 q7 => ?_) fun _ _ ⟨_, _, z⟩ => z.elim
  obtain ⟨G1, R1, q7⟩ := q7
  have real : ∀ {σ7 : L2.St} {H7 : Hp}, Inv X.nox (pins ++ pinsAt [a, env.locals, it] s.heap) σ7 H7 (Fk.gw s7 G1) → Inv X (pins ++ pinsAt [a, env.locals, it] s.heap) σ7 H7 s7 := fun {σ7 H7} J => by
    have b7 : AllBare s7.gens := Fk.bare_real R1 hbare J.bare
    exact Inv.withG (s := Fk.gw s7 G1) J.unwish b7
  have asl : ∀ {σ7 : L2.St} {H7 : Hp}, Inv X (pins ++ pinsAt [a, env.locals, it] s.heap) σ7 H7 s7 → Asleep X B env a g N size code low i it H7 s7 := fun {σ7 H7} J => by
    have kept : ∀ b ∈ [a, env.locals, it], ∀ o, s.heap.get? b = some o → s7.heap.get? b = some o ∧ H7 b = none := fun b hb o e => by
      have := J.pin (b, o) (List.mem_append_right _ (List.mem_append_right _ (mem_pinsAt hb e)))
      exact ⟨this.1, this.2.1⟩
    have slp : Slp env it s s7 := fun b o hb e => by
      rcases hb with e1 | e1 | e1
      · exact (kept b (by rw [e1]; simp) o e).1
      · exact (kept b (by rw [e1]; simp) o e).1
      · obtain ⟨og, es, ep, ho, _⟩ := I.mod.glob
        have z1 := I.bk _ _ ho
        have z2 := J.bk _ _ ho
        rw [e1] at e ⊢
        rw [z1] at e
        cases e
        exact z2
    refine ⟨hlow, ?_, hst.keeps slp, fun b hb => ?_, k, l, c, p, fs, cl, ?_, hcl, fun s'' z => hsl s'' fun b o hb e => z b o hb (slp b o hb e)⟩
    · obtain ⟨o, n1, n2, ho, z⟩ := hgen
      exact ⟨o, n1, n2, (kept a (by simp) o ho).1, z⟩
    · obtain ⟨o, ho, _⟩ := hob b hb
      exact (kept b hb o ho).2
    · exact (R1.fake g _ (Fk.sleepers_at hgs rfl)).2.2
  cases f with
  | next => obtain ⟨σ7, H7, J, n7⟩ := q7; exact ⟨σ7, H7, (real J).unpinned, n7, asl (real J)⟩
  | cont => obtain ⟨σ7, H7, J, n7⟩ := q7; exact ⟨σ7, H7, (real J).unpinned, n7, asl (real J)⟩
  | brk => obtain ⟨σ7, H7, J, n7⟩ := q7; exact ⟨σ7, H7, (real J).unpinned, n7⟩
  | ret u => obtain ⟨v7, σ7, H7, J, r7, n7⟩ := q7; exact ⟨v7, σ7, H7, (real J).unpinned, r7, n7⟩

/-- what a turn of the loop comes to -/
def TurnP (X : Cx) (pins : List (Addr × Obj)) (env : Env) (a g N : Nat) (size code : Int) (low : Nat) (it : Addr) (i : Nat) (D : Ends) (N' : L2.St → Hp → Prop) (f : Flow) (s7 : Shared) : Prop := match f with
  | .next | .cont => ∃ σ7 H7, Inv X pins σ7 H7 s7 ∧ N' σ7 H7 ∧ Asleep X X.A.in1 env a g N size code low i it H7 s7
  | .brk => ∃ σ7 H7, Inv X pins σ7 H7 s7 ∧ D.nx σ7 H7
  | .ret u => ∃ v σ7 H7, Inv X pins σ7 H7 s7 ∧ RelV v u ∧ D.rt v H7
theorem ps_forP {f : Addr} {fd : FuncData} {k ix : Nat} {nmp x : Str} {px p pos' pos : Pos} {e : Expr} {es : List Expr} {ta : TA} {body : List Stmt} {tb : TS}
    (F : PathDef X.prog X.w X.K X.mg X.base k f fd) (hr : Room (k + 1) X.A) (hg : Gl X nmp) (hm : X.mg nmp = some (.ref f)) (hk : PySem.W.keepIn X.K (.ref f) = true) (hb : Binds X.K fd pP []) (ha : PA X (e :: es) ta) (hp : PassesOwn (model X.prog X.w) X.A X.env X.xe) (hc : X.calm = true)
    (hN : X.N.Nodup) (hi : X.N[ix]? = some x) (hx : Loc X.env.scope x) (hbd : PSs X.nox body tb) (hf : X.fn x = true ∨ X.env.scope.names.lookup x = some .local := by first | exact .inl rfl | exact .inr rfl | assumption)
    (hdb : (nmp == ("__debug__" : Str)) = false := by decide) (he : starEach (e :: es) X.env = (false, eval e X.env) :: starEach es X.env := by rfl) (hpl : (backTo pos' (starEach es X.env)).any (·.1) = false := by rfl)
    (hs : ∀ v, foldedSetIterable (.Call (.Name nmp p) (e :: es) [] pos') X.env v = pure v := by intro _; rfl) :
    PS X (.For (.Name x px) (.Call (.Name nmp p) (e :: es) [] pos') body [] pos) (tForP ix ta tb) := by
  refine ⟨fun pins s σ H D I h => ?_⟩
  refine wpAny_For ?_ hs
  refine wpAny_Call_Name_kw (ld_glob I hg hm ?_ hdb)
  refine PySem.W.callWith_K (h₀ := X.base) I.ok.mod.kin hk (thn (ha.run pos' pins s σ H _ I h) fun us s1 ⟨vs, H1, I1, r1, q1⟩ => ⟨I1.kIn, ?_⟩) he hpl
  obtain ⟨code, size, many, rfl, ok, Pv, h0, hturn, hdone⟩ := q1
  have hl2 : us.length = 3 := r1.length.symm
  have hbt : BindsTo s1 fd ⟨us, []⟩ (pP.zip us) := by
    have := hb s1 us I1.kIn (by rw [List.append_nil]; exact hl2)
    rw [List.append_nil] at this
    exact this
  refine wpAny_call (codeAny_mono (F ok (hr.mono (Nat.le_succ _)) I1.env0 hbt r1) fun r s2 hq => ?_)
  cases r with
  | error e => exact False.elim hq
  | ok fl =>
  cases fl with
  | next => exact False.elim hq
  | brk => exact False.elim hq
  | cont => exact False.elim hq
  | ret u =>
  obtain ⟨a, g, c, env, rfl, m⟩ := hq
  refine wpAny_pyIter_gen m.gen ?_
  have hh : X.A.handled = none := I.ok.hd hc
  have hsz : s1.heap.objs.size ≤ s2.heap.objs.size := by
    have h1 : @LE.le Nat _ s1.heap.objs.size env.locals := m.young
    have h2 : @LT.lt Nat _ env.locals a := m.La
    have h3 : @Eq Nat (a + 1) s2.heap.objs.size := m.aE
    omega
  have I2 : Inv X pins σ H1 s2 := I1.call' (ch := []) m.os (Un.kept m.keep) (I1.hok.kept m.keep) m.bare fun b z => by simp at z
  have hgl : g < s2.gens.size := (Array.getElem?_eq_some_iff.mp m.fresh).1
  have yg : ∀ it : Addr, a + 1 ≤ it → ∀ b ∈ [a, env.locals, it], ∀ H' : Hp, H' b = none → FpOk X pins H' b := fun it hit b hb' H' hn => by
    have h1 : @LE.le Nat _ s1.heap.objs.size env.locals := m.young
    have h2 : @LT.lt Nat _ env.locals a := m.La
    have h3 : @LE.le Nat _ (a + 1) it := hit
    refine I1.fpOk ?_ hn
    show @LE.le Nat _ s1.heap.objs.size b
    rcases List.mem_cons.mp hb' with z | z
    · have z : @Eq Nat b a := z
      omega
    · rcases List.mem_cons.mp z with z | z
      · have z : @Eq Nat b env.locals := z
        omega
      · have z : @Eq Nat b it := List.mem_singleton.mp z
        omega
  -- a slot is out: the turn
  have go : ∀ (i : Nat) (it : Addr) (σ5 : L2.St) (H5 : Hp) (s5 : Shared) (t : Tok), i < many.toNat → a + 1 ≤ it → Inv X pins σ5 H5 s5 → Pv i σ5 H5 → Asleep X X.A.in1 env a g many.toNat size code (a + 1) (i + 1) it H5 s5 →
      wpAny (model X.prog X.w) X.A (assign (.Name x px) X.env (.int (sl size code i) t)) (fun _ s6 => wpAny (model X.prog X.w) X.A (execs body X.env) (TurnP X pins env a g many.toNat size code (a + 1) it (i + 1) D (Pv (i + 1))) (fun _ _ => False) s6) (fun _ _ => False) s5 := fun i it σ5 H5 s5 t hlt hit I5 hP hA => by
    refine wpAny_mono (turn_body I5 hA (yg it hit) hN hi hx hf hbd (v := .int (sl size code i)) ⟨t, rfl⟩ (hturn i σ5 H5 hlt hP)) (fun _ s6 h6 => wpAny_mono h6 (fun f s7 h7 => ?_) fun _ _ z => z) fun _ _ z => z
    cases f <;> exact h7
  refine codeAny_forLoop_any (fun n s' => ∃ i σ' H', i ≤ many.toNat ∧ n = many.toNat - i ∧ Inv X pins σ' H' s' ∧ Pv i σ' H' ∧ Head X X.A.in1 s2 σ H1 env a g many.toNat size code (a + 1) i σ' H' s') ?_ many.toNat ⟨0, σ, H1, Nat.zero_le _, by omega, I2, h0, .begin⟩
  rintro n s3 ⟨i, σ3, H3, hle, rfl, I3, hP, hd⟩
  -- behind the turn's body
  have fin : ∀ {it : Addr} {f : Flow} {s7 : Shared}, i < many.toNat → TurnP X pins env a g many.toNat size code (a + 1) it (i + 1) D (Pv (i + 1)) f s7 →
      (match f with
        | .next | .cont => ∃ m, m < many.toNat - i ∧ ∃ i σ' H', i ≤ many.toNat ∧ m = many.toNat - i ∧ Inv X pins σ' H' s7 ∧ Pv i σ' H' ∧ Head X X.A.in1 s2 σ H1 env a g many.toNat size code (a + 1) i σ' H' s7
        | .brk => SP X pins D .next s7
        | .ret v => SP X pins D (.ret v) s7) := fun {it f s7} hlt q => by
    cases f with
    | next => obtain ⟨σ7, H7, J, n7, z⟩ := q; exact ⟨many.toNat - (i + 1), by omega, i + 1, σ7, H7, by omega, rfl, J, n7, .amid (Nat.succ_pos _) z⟩
    | cont => obtain ⟨σ7, H7, J, n7, z⟩ := q; exact ⟨many.toNat - (i + 1), by omega, i + 1, σ7, H7, by omega, rfl, J, n7, .amid (Nat.succ_pos _) z⟩
    | brk => obtain ⟨σ7, H7, J, n7⟩ := q; exact ⟨σ7, H7, J, n7⟩
    | ret u => obtain ⟨v7, σ7, H7, J, r7, n7⟩ := q; exact ⟨v7, σ7, H7, J, r7, n7⟩
  -- the turn, from where the slot is out
  have turn : ∀ {it : Addr} {s5 : Shared} {t : Tok} {σ5 : L2.St} {H5 : Hp} {Z : Flow → Shared → Prop} {E : Value → Shared → Prop}, i < many.toNat → a + 1 ≤ it → Inv X pins σ5 H5 s5 → Pv i σ5 H5 → Asleep X X.A.in1 env a g many.toNat size code (a + 1) (i + 1) it H5 s5 →
      (∀ f s7, TurnP X pins env a g many.toNat size code (a + 1) it (i + 1) D (Pv (i + 1)) f s7 → Z f s7) →
      wpAny (model X.prog X.w) X.A (letOwnedTupleGo (.Name x px) (.ref a) (.int (sl size code i) t)) (fun _ s₁' => wpAny (model X.prog X.w) X.A (assign (.Name x px) X.env (.int (sl size code i) t)) (fun _ s₂ => wpAny (model X.prog X.w) X.A (execs body X.env) Z E s₂) E s₁') E s5 := fun {it s5 t σ5 H5 Z E} hlt hit I5 hP5 hA hZ => by
    refine wpAny_pure ?_
    exact wpAny_mono (go i it σ5 H5 s5 t hlt hit I5 hP5 hA) (fun _ s6 h6 => wpAny_mono h6 (fun f s7 h7 => hZ f s7 h7) fun _ _ z => z.elim) fun _ _ z => z.elim
  cases hd with
  | begin =>
    refine wpAny_gsz (n := g + 1) hgl (next_first hh I2.nolimit hr.depth m.gen m.fresh (m.wake X.A.in1 (s2.setGen g .running) [] hr.in1 I2.ok.frames (fun _ _ e => e) m.os (allBare_setGen m.bare rfl) (fun p hp => by simp at hp)) fun e s₁ he => ?_)
    cases e with
    | ret r =>
      obtain ⟨rfl, hN0, ⟨j1, j2, j3, j4, j5, j6, _⟩⟩ := he
      refine .inl ⟨rfl, fun h' hk' _ => ?_⟩
      have I4 : Inv X pins σ H1 s₁ := I1.call' (ch := []) j1 j3 j4 j2 fun b z => by simp at z
      have I5 : Inv X pins σ H1 { s₁.setGen g .finished with heap := h' } := Inv.withG (I4.kept (t' := s₁.toks) hk') (allBare_setGen j2 rfl)
      refine wpAny_execs_nil ?_
      rw [hN0] at hdone
      exact ⟨σ, H1, I5, hdone σ H1 hP⟩
    | susp v gd l k₁ c₁ p₁ fs₁ =>
      obtain ⟨hq, hN0, ⟨t, rfl⟩, ⟨j1, j2, j3, j4, j5, j6, _⟩, it, hit', hst, hsl⟩ := he
      have hit : a + 1 ≤ it := Nat.succ_le_of_lt (hit' a List.mem_cons_self)
      refine .inr ⟨_, gd, l, k₁, c₁, p₁, fs₁, rfl, hq, fun hsz' => ?_⟩
      have I4 : Inv X pins σ H1 s₁ := I1.call' (ch := []) j1 j3 j4 j2 fun b z => by simp at z
      have hcl : (gd || fs₁.any Frame.guarded) = false := by
        have : (!(gd || fs₁.any Frame.guarded)) = true := hq
        simpa using this
      have hb' : (End.susp (Value.int (sl size code 0) t) gd l k₁ c₁ p₁ fs₁).genState.bare = true := End.bare_of_quiet hq
      have I5 : Inv X pins σ H1 (s₁.setGen g (End.susp (Value.int (sl size code 0) t) gd l k₁ c₁ p₁ fs₁).genState) := Inv.withG I4 (allBare_setGen j2 hb')
      have hgs1 : g < s₁.gens.size := by
        have q : (s₁.setGen g (End.susp (Value.int (sl size code 0) t) gd l k₁ c₁ p₁ fs₁).genState).gens.size = s₁.gens.size := setGen_size _ _ _
        have hsz'' : g + 1 ≤ (s₁.setGen g (End.susp (Value.int (sl size code 0) t) gd l k₁ c₁ p₁ fs₁).genState).gens.size := hsz'
        omega
      refine turn hN0 hit I5 hP ⟨hit, j5, hst, fun b hb' => ?_, k₁, l, c₁, p₁, fs₁, _, setGen_at hgs1, hcl, hsl⟩ fun f s7 q => ?_
      · have yy : @LE.le Nat _ s1.heap.objs.size b := by
          have h1 : @LE.le Nat _ s1.heap.objs.size env.locals := m.young
          have h2 : @LT.lt Nat _ env.locals a := m.La
          have h3 : @LE.le Nat _ (a + 1) it := hit
          rcases List.mem_cons.mp hb' with z | z
          · have z : @Eq Nat b a := z
            omega
          · rcases List.mem_cons.mp z with z | z
            · have z : @Eq Nat b env.locals := z
              omega
            · have z : @Eq Nat b it := List.mem_singleton.mp z
              omega
        exact I1.hok.fresh yy
      · have := fin hN0 q
        cases f <;> exact this
  | @amid _ it _ _ _ hpos hA =>
    obtain ⟨hlow, hgen, hst, hnT, ⟨k₁, l₁, c₁, p₁, fs₁, cl₁, hgs, hcl, hsl⟩⟩ := hA
    have hgl3 : g < s3.gens.size := (Array.getElem?_eq_some_iff.mp hgs).1
    have fL : FpOk X pins H3 env.locals := yg it hlow _ (by simp) H3 (hnT _ (by simp))
    have fI : FpOk X pins H3 it := yg it hlow _ (by simp) H3 (hnT _ (by simp))
    have haL : a ≠ env.locals := Nat.ne_of_gt m.La
    have haI : a ≠ it := Nat.ne_of_lt (Nat.lt_of_lt_of_le (Nat.lt_succ_self a) hlow)
    have I3' : Inv X pins σ3 H3 (s3.setGen g .running) := Inv.withG I3 (allBare_setGen I3.bare rfl)
    refine wpAny_gsz (n := g + 1) hgl3 (next_later (n := many.toNat - i) hh I3.nolimit hr.depth hgen hgs (hsl (s3.setGen g .running) fun _ _ _ e => e) (fun r s₁ hR => ?_) fun v gd l k₂ c₂ p₂ fs₂ s₁ hq hY => ?_)
    · obtain ⟨rfl, hn0, hj⟩ := hR
      unfold Jr at hj
      rw [if_neg (by omega)] at hj
      refine ⟨rfl, fun h' hk' _ => ?_⟩
      have I4 : Inv X pins σ3 H3 s₁ := inv_mv I3' hj fL fI
      have I5 : Inv X pins σ3 H3 { s₁.setGen g .finished with heap := h' } := Inv.withG (I4.kept (t' := s₁.toks) hk') (allBare_setGen I4.bare rfl)
      refine wpAny_execs_nil ?_
      have e : i = many.toNat := by omega
      rw [← e] at hdone
      exact ⟨σ3, H3, I5, hdone σ3 H3 hP⟩
    · obtain ⟨i', t, hi', rfl, hj, hy, hkap⟩ := hY
      intro hsz'
      obtain ⟨m', hm'⟩ : ∃ m', many.toNat - i = m' + 1 := by
        cases hz : many.toNat - i with
        | succ m' => exact ⟨m', rfl⟩
        | zero =>
          have := hkap s₁ fun _ _ _ e => e
          rw [hz] at this
          exact False.elim this
      have ei : i' = i := by omega
      subst ei
      have hlt : i' < many.toNat := by omega
      unfold Jr at hj
      rw [if_neg (by omega)] at hj
      have I4 : Inv X pins σ3 H3 s₁ := inv_mv I3' hj fL fI
      have hcl2 : (gd || fs₂.any Frame.guarded) = false := by
        have : (!(gd || fs₂.any Frame.guarded)) = true := hq
        simpa using this
      have hb' : (End.susp (Value.int (sl size code i') t) gd l k₂ c₂ p₂ fs₂).genState.bare = true := End.bare_of_quiet hq
      have I5 : Inv X pins σ3 H3 (s₁.setGen g (End.susp (Value.int (sl size code i') t) gd l k₂ c₂ p₂ fs₂).genState) := Inv.withG I4 (allBare_setGen I4.bare hb')
      have hgs1 : g < s₁.gens.size := by
        have q : (s₁.setGen g (End.susp (Value.int (sl size code i') t) gd l k₂ c₂ p₂ fs₂).genState).gens.size = s₁.gens.size := setGen_size _ _ _
        have hsz'' : g + 1 ≤ (s₁.setGen g (End.susp (Value.int (sl size code i') t) gd l k₂ c₂ p₂ fs₂).genState).gens.size := hsz'
        omega
      have hgen1 : s₁.heap.IsGen a g := by
        obtain ⟨h', tk, rfl, k'⟩ := hj
        obtain ⟨o, n1, n2, ho, z⟩ := hgen
        exact ⟨o, n1, n2, k' _ o haL haI ho, z⟩
      refine turn hlt hlow I5 hP ⟨hlow, hgen1, hy, hnT, k₂, l, c₂, p₂, fs₂, _, setGen_at hgs1, hcl2, fun s'' z => ?_⟩ fun f s7 q => ?_
      · have := hkap s'' z
        rw [hm'] at this
        rw [show many.toNat - (i' + 1) = m' by omega]
        exact this
      · have := fin hlt q
        cases f <;> exact this
end
end Pth
set_option Elab.async false
set_option linter.all false
set_option maxRecDepth 100000
set_option maxHeartbeats 1000000
/-! Pl: list(path(..)) -/
namespace Pth
open PySem PySem.Spec PyProof.Rows L2 GenW
section
variable {X : Cx} {pins : List (Addr × Obj)} {σ : L2.St} {H : Hp} {s : Shared}
/-- an object of ours is tracked from now on -/
theorem inv_track {S : Addr} {o : HO} (I : Inv X pins σ H s) (f : FpOk X pins H S) (hs : ∃ u, s.heap.get? S = some u) (new : ObjOk X.prog X.w (upd H S o) s.heap S o) : Inv X pins σ (upd H S o) s := by
  obtain ⟨a0, a1, a2, a3, a4, a5⟩ := f
  have ne : ∀ b, b ∉ [S] → b ≠ S := fun b hb z => hb (by rw [z]; simp)
  have nt : ∀ b u, H b = some u → b ≠ S := fun b u e => ne_of_none e a0
  obtain ⟨hp, g, d, t, os⟩ := s
  refine I.step (g' := g) (d' := d) (t' := t) (h' := hp) (ch := [S]) (fun b hb => ?_) (fun b o _ _ _ e _ => e) (fun b o _ _ _ e _ => ⟨o.slots, e⟩) (fun b _ hc _ n => by rw [upd_ne (ne b hc)]; exact n)
    (fun b o _ e => ⟨o, e⟩) (fun b _ e => by rw [upd_ne (nt b _ e)]; exact e) (fun b _ _ e => by rw [upd_ne (nt b _ e)]; exact e) (fun b ps e => ⟨#[], by rw [upd_ne (nt b _ e), e]; simp⟩) (fun m hm => hm) (fun b u e => ?_) I.bare
  · rw [List.mem_singleton.mp hb]; exact ⟨a3, a1, a4, a5⟩
  · by_cases hb : b = S
    · rw [hb, upd_same] at e
      cases e
      rw [hb]
      exact new
    · rw [upd_ne hb] at e
      exact (I.hok b u e).stay (fun _ _ _ q => q) (fun c q => by rw [upd_ne (nt c _ q)]; exact q) fun c xs q => by rw [upd_ne (nt c _ q)]; exact q
/-- the slots, a list -/
def slots (size code many : Int) : List V := (List.range many.toNat).map fun i => V.int (sl size code i)
def tListP (ta : TA) : TE := fun σ H Q => ta σ H fun vs H1 => ∃ code size many : Int, vs = [.int code, .int size, .int many] ∧ POk code size many ∧ many.toNat ≤ sizeLine ∧ ∀ p, H1 p = none → Q (.ref p) (upd H1 p (.lst (slots size code many)))
/-- the list stands at S: i slots are in it -/
def InList (S : Addr) (size code : Int) (i : Nat) (s : Shared) : Prop := ∃ (acc : Array Value) (c : Nat), Vals ((List.range i).map fun i => V.int (sl size code i)) acc.toList ∧ s.heap.get? S = some (lstObj acc c)
theorem vals_snoc {size code : Int} {i : Nat} {acc : Array Value} {t : Tok} (h : Vals ((List.range i).map fun i => V.int (sl size code i)) acc.toList) : Vals ((List.range (i + 1)).map fun i => V.int (sl size code i)) (acc.push (.int (sl size code i) t)).toList := by
  rw [List.range_succ, List.map_append, Array.toList_push]
  exact h.append (.cons ⟨t, rfl⟩ .nil)
/-- the loop that fills the list, i slots being in it -/
theorem drainP {A : Around} {env : Env} {a g : Nat} {size code many : Int} {S it : Addr} {R : Result → Shared → Prop} {res : Value} (hh : A.handled = none) (hd : A.depth < recursionLimit) (hle : many.toNat ≤ sizeLine) (hL : env.locals ≠ S) (hI : it ≠ S) (haS : a ≠ S) (haL : a ≠ env.locals) (haI : a ≠ it) (hGS : mainGlobals ≠ S)
    (fS : FpOk X pins H S) (fL : FpOk X pins H env.locals) (fI : FpOk X pins H it)
    (hend : ∀ s', Inv X pins σ H s' → InList S size code many.toNat s' → R (.ok (.ret res)) s') :
    ∀ (r i : Nat) (s : Shared), 0 < i → i + r = many.toNat → Inv X pins σ H s → InList S size code i s → Asleep X A.in1.in1 env a g many.toNat size code 0 i it H s →
      codeAny (model X.prog X.w) A (.builtin "list.extend.loop" ⟨[.ref S, .ref a, res], []⟩) R s := by
  intro r
  induction r with
  | zero =>
    intro i s hpos hir I hin hA
    obtain ⟨hlow, hgen, hst, hnT, ⟨k₁, l₁, c₁, p₁, fs₁, cl₁, hgs, hcl, hsl⟩⟩ := hA
    have I' : Inv X pins σ H (s.setGen g .running) := Inv.withG I (allBare_setGen I.bare rfl)
    refine codeAny_builtin F.entry_extend_loop ?_
    rw [Around.under_plainId F.plain_extend_loop _]
    show wpAny _ A.in1 (pyNext (.ref a) >>= _) _ _ s
    refine wpAny_bind (next_later (A := A.in1) (n := many.toNat - i) hh I.nolimit hd hgen hgs (hsl (s.setGen g .running) fun _ _ _ e => e) (fun r s₁ hR => ?_) fun v gd l k₂ c₂ p₂ fs₂ s₁ hq hY => ?_)
    · obtain ⟨rfl, hn0, hj⟩ := hR
      unfold Jr at hj
      rw [if_neg (by omega)] at hj
      refine ⟨rfl, fun h' hk' => ?_⟩
      have I4 : Inv X pins σ H s₁ := inv_mv I' hj fL fI
      have I5 : Inv X pins σ H { s₁.setGen g .finished with heap := h' } := Inv.withG (I4.kept (t' := s₁.toks) hk') (allBare_setGen I4.bare rfl)
      refine wpAny_pure (hend _ I5 ?_)
      obtain ⟨acc, c, hv, hS⟩ := hin
      obtain ⟨h2, tk, rfl, k2⟩ := hj
      refine ⟨acc, c, ?_, hk' _ _ (k2 _ _ (Ne.symm hL) (Ne.symm hI) hS)⟩
      have e : many.toNat = i := by omega
      rw [e]; exact hv
    · obtain ⟨i', t, hi', rfl, hj, hy, hkap⟩ := hY
      have := hkap s₁ fun _ _ _ e => e
      rw [show many.toNat - i = 0 by omega] at this
      exact False.elim this
  | succ r ih =>
    intro i s hpos hir I hin hA
    obtain ⟨hlow, hgen, hst, hnT, ⟨k₁, l₁, c₁, p₁, fs₁, cl₁, hgs, hcl, hsl⟩⟩ := hA
    have hgl : g < s.gens.size := (Array.getElem?_eq_some_iff.mp hgs).1
    have I' : Inv X pins σ H (s.setGen g .running) := Inv.withG I (allBare_setGen I.bare rfl)
    refine codeAny_builtin F.entry_extend_loop ?_
    rw [Around.under_plainId F.plain_extend_loop _]
    show wpAny _ A.in1 (pyNext (.ref a) >>= _) _ _ s
    refine wpAny_bind (wpAny_gsz (n := g + 1) hgl (next_later (A := A.in1) (n := many.toNat - i) hh I.nolimit hd hgen hgs (hsl (s.setGen g .running) fun _ _ _ e => e) (fun r s₁ hR => ?_) fun v gd l k₂ c₂ p₂ fs₂ s₁ hq hY => ?_))
    · obtain ⟨rfl, hn0, hj⟩ := hR
      omega
    · obtain ⟨i', t, hi', rfl, hj, hy, hkap⟩ := hY
      intro hsz'
      have ei : i' = i := by omega
      subst ei
      unfold Jr at hj
      rw [if_neg (by omega)] at hj
      have I4 : Inv X pins σ H s₁ := inv_mv I' hj fL fI
      have hcl2 : (gd || fs₂.any Frame.guarded) = false := by
        have : (!(gd || fs₂.any Frame.guarded)) = true := hq
        simpa using this
      have hb' : (End.susp (Value.int (sl size code i') t) gd l k₂ c₂ p₂ fs₂).genState.bare = true := End.bare_of_quiet hq
      have I5 : Inv X pins σ H (s₁.setGen g (End.susp (Value.int (sl size code i') t) gd l k₂ c₂ p₂ fs₂).genState) := Inv.withG I4 (allBare_setGen I4.bare hb')
      have hgs1 : g < s₁.gens.size := by
        have q : (s₁.setGen g (End.susp (Value.int (sl size code i') t) gd l k₂ c₂ p₂ fs₂).genState).gens.size = s₁.gens.size := setGen_size _ _ _
        have hsz'' : g + 1 ≤ (s₁.setGen g (End.susp (Value.int (sl size code i') t) gd l k₂ c₂ p₂ fs₂).genState).gens.size := hsz'
        omega
      obtain ⟨h2, tk, rfl, k2⟩ := hj
      obtain ⟨acc, c, hv, hS⟩ := hin
      have hS1 : h2.get? S = some (lstObj acc c) := k2 _ _ (Ne.symm hL) (Ne.symm hI) hS
      have hal : acc.size = i' := by
        have := hv.length
        simpa using this.symm
      show wpAny _ A.in1 (updateSeq S (·.push (.int (sl size code i') t)) >>= _) _ _ _
      refine wpAny_bind ?_
      refine wpAny_updateSeq hS1 rfl (wpAny_pure ⟨plainId_quiet F.plain_extend_loop _, ?_⟩) (by omega) (by show (acc.push _).size ≤ sizeLine + 1; rw [Array.size_push]; omega)
      have keep3 : ∀ b o, b ≠ S → h2.get? b = some o → (h2.update S (Obj.mapSeq (·.push (.int (sl size code i') t)))).get? b = some o := fun b o hbS e => (Heap.get?_update_other _ _ (Ne.symm hbS)).trans e
      obtain ⟨s0, s1', s2, s3, s4, s5⟩ := fS
      refine ih (i' + 1) _ (by omega) (by omega) (I5.turned (it := S) (t' := tk) keep3 s0 s1' s3 s4 s5) ⟨_, _, vals_snoc hv, Heap.get?_update_self _ hS1 rfl⟩ ⟨Nat.zero_le _, ?_, ?_, hnT, k₂, l, c₂, p₂, fs₂, _, setGen_at hgs1, hcl2, fun s'' z => ?_⟩
      · obtain ⟨o, n1, n2, ho, z⟩ := hgen
        exact ⟨o, n1, n2, keep3 _ o haS (k2 _ o haL haI ho), z⟩
      · refine hy.keeps (s' := { heap := h2.update S (Obj.mapSeq (·.push (.int (sl size code i') t))), gens := s.gens, drawn := s.drawn, toks := tk, os := s.os }) fun b o hb e => ?_
        refine keep3 b o ?_ e
        rcases hb with e | e | e <;> rw [e] <;> first | exact hL | exact hI | exact hGS
      · have := hkap s'' fun b o hb e => z b o hb ?_
        · rw [show many.toNat - i' = r + 1 by omega] at this
          rw [show many.toNat - (i' + 1) = r by omega]
          exact this
        · refine keep3 b o ?_ e
          rcases hb with e | e | e <;> rw [e] <;> first | exact hL | exact hI | exact hGS

theorem drain0 {A : Around} {env : Env} {k a g : Nat} {c : Code} {size code many : Int} {S : Addr} {R : Result → Shared → Prop} {res : Value} {H1 : Hp} {s1 s2 : Shared} {cc : Nat} (hh : A.handled = none) (hd : A.depth < recursionLimit) (hle : many.toNat ≤ sizeLine)
    (I1 : Inv X pins σ H1 s1) (m : PMade X.prog X.w k X.stack H1 s1 many.toNat size code a g c env s2) (hr : Room k A.in1.in1) (hfr : A.in1.in1.frames = some X.stack) (hk : ∀ b o, s2.heap.get? b = some o → s.heap.get? b = some o) (hg : s.gens = s2.gens) (ho : s.os = s2.os)
    (hS : s.heap.get? S = some (lstObj #[] cc)) (haS : a < S)
    (hend : ∀ s', Inv X pins σ H1 s' → InList S size code many.toNat s' → R (.ok (.ret res)) s') :
    codeAny (model X.prog X.w) A (.builtin "list.extend.loop" ⟨[.ref S, .ref a, res], []⟩) R s := by
  have y1 : @LE.le Nat _ s1.heap.objs.size env.locals := m.young
  have y2 : @LT.lt Nat _ env.locals a := m.La
  have y3 : @LT.lt Nat _ a S := haS
  have yng : ∀ b : Addr, @LE.le Nat _ env.locals b → ∀ {H' : Hp}, H' b = none → FpOk X pins H' b := fun b hb H' hn => I1.fpOk (show @LE.le Nat _ s1.heap.objs.size b by omega) hn
  have ynn : ∀ b : Addr, @LE.le Nat _ env.locals b → H1 b = none := fun b hb => I1.hok.fresh (show @LE.le Nat _ s1.heap.objs.size b by omega)
  have hmG : @LT.lt Nat _ mainGlobals S := by
    obtain ⟨o, es, ep, ho, _⟩ := I1.mod.glob
    have := Heap.lt_size (I1.bk _ _ ho)
    have : @LT.lt Nat _ mainGlobals s1.heap.objs.size := this
    omega
  have hL : env.locals ≠ S := Nat.ne_of_lt (show @LT.lt Nat _ env.locals S by omega)
  have hgen : s.heap.IsGen a g := m.gen.keeps hk
  have hlim : s.heap.NoLimit := m.lim.keeps hk
  have hgs : s.gens[g]? = some (.fresh c) := by rw [hg]; exact m.fresh
  have hgl : g < s.gens.size := (Array.getElem?_eq_some_iff.mp hgs).1
  have hbare : AllBare s.gens := by rw [hg]; exact m.bare
  have fS : FpOk X pins H1 S := yng S (by omega) (ynn S (by omega))
  have fL : FpOk X pins H1 env.locals := yng _ (Nat.le_refl _) (ynn _ (Nat.le_refl _))
  refine codeAny_builtin F.entry_extend_loop ?_
  rw [Around.under_plainId F.plain_extend_loop _]
  show wpAny _ A.in1 (pyNext (.ref a) >>= _) _ _ s
  refine wpAny_bind (wpAny_gsz (n := g + 1) hgl (next_first (A := A.in1) hh hlim hd hgen hgs (m.wake A.in1.in1 (s.setGen g .running) [(S, lstObj #[] cc)] hr hfr (fun b o e => hk b o e) (ho.trans m.os) (allBare_setGen hbare rfl) (fun p hp => by
    rw [List.mem_singleton.mp hp]
    exact ⟨hS, haS, fun v z => by cases z⟩)) fun e s₁ he => ?_))
  cases e with
  | ret r =>
    obtain ⟨rfl, hN0, ⟨j1, j2, j3, j4, j5, j6, j7⟩⟩ := he
    refine .inl ⟨rfl, fun h' hk' _ => ?_⟩
    have I4 : Inv X pins σ H1 s₁ := I1.call' (ch := []) j1 j3 j4 j2 fun b z => by simp at z
    have I5 : Inv X pins σ H1 { s₁.setGen g .finished with heap := h' } := Inv.withG (I4.kept (t' := s₁.toks) hk') (allBare_setGen j2 rfl)
    refine wpAny_pure (hend _ I5 ⟨#[], cc, ?_, hk' _ _ (j7 (S, lstObj #[] cc) (List.mem_singleton.mpr rfl))⟩)
    rw [hN0]
    exact .nil
  | susp v gd l k₁ c₁ p₁ fs₁ =>
    obtain ⟨hq, hN0, ⟨t, rfl⟩, ⟨j1, j2, j3, j4, j5, j6, j7⟩, it, hit', hst, hsl⟩ := he
    refine .inr ⟨_, gd, l, k₁, c₁, p₁, fs₁, rfl, hq, fun hsz' => ?_⟩
    have hai : @LT.lt Nat _ a it := hit' a List.mem_cons_self
    have hSi : @LT.lt Nat _ S it := hit' S (by simp)
    have I4 : Inv X pins σ H1 s₁ := I1.call' (ch := []) j1 j3 j4 j2 fun b z => by simp at z
    have hcl2 : (gd || fs₁.any Frame.guarded) = false := by
      have : (!(gd || fs₁.any Frame.guarded)) = true := hq
      simpa using this
    have hb' : (End.susp (Value.int (sl size code 0) t) gd l k₁ c₁ p₁ fs₁).genState.bare = true := End.bare_of_quiet hq
    have I5 : Inv X pins σ H1 (s₁.setGen g (End.susp (Value.int (sl size code 0) t) gd l k₁ c₁ p₁ fs₁).genState) := Inv.withG I4 (allBare_setGen j2 hb')
    have hgs1 : g < s₁.gens.size := by
      have q : (s₁.setGen g (End.susp (Value.int (sl size code 0) t) gd l k₁ c₁ p₁ fs₁).genState).gens.size = s₁.gens.size := setGen_size _ _ _
      have hsz'' : g + 1 ≤ (s₁.setGen g (End.susp (Value.int (sl size code 0) t) gd l k₁ c₁ p₁ fs₁).genState).gens.size := hsz'
      omega
    have fI : FpOk X pins H1 it := yng it (by omega) (ynn it (by omega))
    have hS1 : s₁.heap.get? S = some (lstObj #[] cc) := j7 (S, lstObj #[] cc) (List.mem_singleton.mpr rfl)
    have haS' : a ≠ S := Nat.ne_of_lt y3
    have haL : a ≠ env.locals := Nat.ne_of_gt y2
    have haI : a ≠ it := Nat.ne_of_lt hai
    have hI : it ≠ S := Nat.ne_of_gt hSi
    have hGS : mainGlobals ≠ S := Nat.ne_of_lt hmG
    obtain ⟨hp1, g1, d1, t1, o1⟩ := s₁
    have hS1 : hp1.get? S = some (lstObj #[] cc) := hS1
    show wpAny _ A.in1 (updateSeq S (·.push (.int (sl size code 0) t)) >>= _) _ _ _
    refine wpAny_bind ?_
    refine wpAny_updateSeq hS1 rfl (wpAny_pure ⟨plainId_quiet F.plain_extend_loop _, ?_⟩) (by show (0 : Nat) ≤ sizeLine; exact Nat.zero_le _) (by show (1 : Nat) ≤ sizeLine + 1; omega)
    have keep3 : ∀ b o, b ≠ S → hp1.get? b = some o → (hp1.update S (Obj.mapSeq (·.push (.int (sl size code 0) t)))).get? b = some o := fun b o hbS e => (Heap.get?_update_other _ _ (Ne.symm hbS)).trans e
    obtain ⟨s0', s1', s2', s3', s4', s5'⟩ := id fS
    refine drainP (A := A) hh hd hle hL hI haS' haL haI hGS fS fL fI hend (many.toNat - 1) 1 _ (by omega) (by omega) (I5.turned (it := S) (t' := t1) keep3 s0' s1' s3' s4' s5') ⟨_, _, vals_snoc (i := 0) (acc := #[]) .nil, Heap.get?_update_self _ hS1 rfl⟩ ⟨Nat.zero_le _, ?_, ?_, fun b hb => ?_, k₁, l, c₁, p₁, fs₁, _, setGen_at hgs1, hcl2, fun s'' z => ?_⟩
    · obtain ⟨o, n1, n2, ho, z⟩ := j5
      exact ⟨o, n1, n2, keep3 _ o haS' ho, z⟩
    · refine hst.keeps (s' := { heap := hp1.update S (Obj.mapSeq (·.push (.int (sl size code 0) t))), gens := g1, drawn := d1, toks := t1, os := o1 }) fun b o hb e => ?_
      refine keep3 b o ?_ e
      rcases hb with e | e | e <;> rw [e] <;> first | exact hL | exact hI | exact hGS
    · refine ynn b ?_
      rcases List.mem_cons.mp hb with z | z
      · have z : @Eq Nat b a := z
        omega
      · rcases List.mem_cons.mp z with z | z
        · have z : @Eq Nat b env.locals := z
          omega
        · have z : @Eq Nat b it := List.mem_singleton.mp z
          omega
    · refine hsl s'' fun b o hb e => z b o hb (keep3 b o ?_ e)
      rcases hb with e | e | e <;> rw [e] <;> first | exact hL | exact hI | exact hGS

theorem inList_lst {P : Program} {w : World} {H' : Hp} {S : Addr} {size code many : Int} {s : Shared} (h : InList S size code many.toNat s) (hle : many.toNat ≤ sizeLine) : ObjOk P w H' s.heap S (.lst (slots size code many)) := by
  obtain ⟨acc, c, hv, hS⟩ := h
  refine ⟨?_, acc.toList, c, hv, hS⟩
  unfold slots
  rw [List.length_map, List.length_range]
  exact hle
theorem call_listP {A : Around} {env : Env} {k a g : Nat} {c : Code} {size code many : Int} {H1 : Hp} {s1 s2 : Shared} {Q : VK} {E : Value → Shared → Prop} (hA : A = X.A) (hle : many.toNat ≤ sizeLine) (hr : Room (k + 3) A) (I1 : Inv X pins σ H1 s1) (m : PMade X.prog X.w k X.stack H1 s1 many.toNat size code a g c env s2)
    (hQ : ∀ p, H1 p = none → Q (.ref p) (upd H1 p (.lst (slots size code many)))) :
    wpAny (model X.prog X.w) A (call (.type "list") [.ref a]) (EP X pins σ Q) E s2 := by
  have y1 : @LE.le Nat _ s1.heap.objs.size env.locals := m.young
  have y2 : @LT.lt Nat _ env.locals a := m.La
  have y3 : @Eq Nat (a + 1) s2.heap.objs.size := m.aE
  have hSa : s2.heap.objs.size ≠ a := Nat.ne_of_gt (show @LT.lt Nat _ a s2.heap.objs.size by omega)
  refine callType_codes (Q₁ := fun obj s₁ => obj = .ref s2.heap.objs.size ∧ s₁ = { s2 with heap := s2.heap.push { cls := .type "list", data := .seq #[] } }) F.called_list (F.typeCall_list_1 _) F.entry_list_init
    (code_list_new _ ⟨rfl, rfl⟩) fun obj s₁ h₁ => ?_
  obtain ⟨rfl, rfl⟩ := h₁
  have hS : (s2.heap.push { cls := .type "list", data := .seq #[] }).get? s2.heap.objs.size = some { cls := .type "list", data := .seq #[] } := Heap.get?_push_size _ rfl
  refine ⟨⟨_, hS, rfl⟩, F.args_list_init_2 _ _, ?_⟩
  show wpAny _ A.in1.in1 (do let old ← Builtin.List.listItems (.ref s2.heap.objs.size); Builtin.List.listUpdate (.ref s2.heap.objs.size) (fun _ => #[]); letGo old.toList.reverse; Builtin.List.listExtendWith (.ref s2.heap.objs.size) (.ref a) .none) _ _ _
  refine wpAny_bind ?_
  unfold Builtin.List.listItems
  refine wpAny_bind (wpAny_seqItems hS rfl (wpAny_pure ?_))
  show wpAny _ A.in1.in1 (updateSeq s2.heap.objs.size (fun _ => #[]) >>= fun _ => letGo (#[] : Array Value).toList.reverse >>= fun _ => Builtin.List.listExtendWith (.ref s2.heap.objs.size) (.ref a) .none) _ _ _
  refine wpAny_bind (wpAny_updateSeq hS rfl ?_)
  have hS2 := Heap.get?_update_self (Obj.mapSeq (fun _ => (#[] : Array Value))) hS rfl
  refine wpAny_bind (wpAny_letGo ?_)
  unfold Builtin.List.listExtendWith
  have up : ∀ (h : Heap) (f : Obj → Obj), (∀ b o, s2.heap.get? b = some o → h.get? b = some o) → ∀ b o, s2.heap.get? b = some o → (h.update s2.heap.objs.size f).get? b = some o := fun h f q b o e =>
    (Heap.get?_update_other _ _ (Ne.symm (Nat.ne_of_lt (Heap.lt_size e)))).trans (q b o e)
  have k1 : ∀ b o, s2.heap.get? b = some o → (s2.heap.push { cls := .type "list", data := .seq #[] }).get? b = some o := fun b o e => Heap.get?_push_of_some _ e
  have k2 := up _ (Obj.mapSeq (fun _ => (#[] : Array Value))) k1
  have gty : ∀ {h : Heap}, (∀ b o, s2.heap.get? b = some o → h.get? b = some o) → h.IsGen a g := fun {h} q => m.gen.keeps q
  refine wpAny_bind (wpAny_typeOf (Heap.IsGen.typeIs (s := { s2 with heap := _ }) (gty k2)) ?_)
  have h1 : Builtin.List.listSameRef (.ref s2.heap.objs.size) (.ref a) = false := by simp [Builtin.List.listSameRef, hSa]
  have h2 : (Value.type "generator" == Value.type "list") = false := by decide
  have h3 : (Value.type "generator" == Value.type "tuple") = false := by decide
  simp only [h1, h2, h3, Bool.or_false, Bool.false_eq_true, if_false]
  refine wpAny_bind (wpAny_pyIter_gen (s := { s2 with heap := _ }) (gty k2) ?_)
  refine wpAny_bind (wpAny_holding ?_)
  unfold Builtin.List.listLengthHint
  refine wpAny_bind (wpAny_specialOf (Heap.IsGen.typeIs (s := { s2 with heap := _ }) (gty k2)) F.gen_no_len ?_)
  show wpAny _ A.in1.in1 (specialOf (Value.ref a) (Str.ofString "__length_hint__") >>= _) _ _ _
  refine wpAny_bind (wpAny_specialOf (Heap.IsGen.typeIs (s := { s2 with heap := _ }) (gty k2)) F.gen_no_hint ?_)
  refine wpAny_pure ?_
  show wpAny _ A.in1.in1 (rule "list.extend.makes-room" >>= fun _ => Builtin.List.listTouch (.ref s2.heap.objs.size) >>= fun _ =>
    again (.builtin "list.extend.loop" ⟨[.ref s2.heap.objs.size, .ref a, .none], []⟩)) _ _ _
  refine wpAny_bind (wpAny_rule ?_)
  refine wpAny_bind ?_
  show wpAny _ A.in1.in1 (updateSeq s2.heap.objs.size (·.push .none) >>= fun _ => updateSeq s2.heap.objs.size (·.pop)) _ _ _
  refine wpAny_bind (wpAny_updateSeq hS2 rfl ?_)
  have hS3 := Heap.get?_update_self (Obj.mapSeq (·.push Value.none)) hS2 rfl
  refine wpAny_updateSeq (hz := by seq_fits) hS3 rfl ?_
  have hS4 := Heap.get?_update_self (Obj.mapSeq (·.pop)) hS3 rfl
  have k4 := up _ (Obj.mapSeq (·.pop)) (up _ (Obj.mapSeq (·.push Value.none)) k2)
  refine wpAny_pure ⟨plainId_quiet F.plain_extend_loop _, ?_⟩
  refine drain0 (A := A.in1) hr.hd (by have := hr.dp; show A.depth < _; omega) hle I1 m ⟨hr.hd, ?_, ?_⟩ (by rw [hA]; exact I1.ok.frames) k4 rfl rfl hS4 (show @LT.lt Nat _ a s2.heap.objs.size by omega) fun s' I' hin => ⟨rfl, ?_⟩
  · have := hr.dp
    show A.depth + 3 * k + 5 < _
    omega
  · have := hr.un
    show A.units + 1 + 1 + 1 + 16 * k + 200 < _
    omega
  · have hn : H1 s2.heap.objs.size = none := I1.hok.fresh (show @LE.le Nat _ s1.heap.objs.size s2.heap.objs.size by omega)
    have fS : FpOk X pins H1 s2.heap.objs.size := I1.fpOk (show @LE.le Nat _ s1.heap.objs.size s2.heap.objs.size by omega) hn
    have hob : ∃ u, s'.heap.get? s2.heap.objs.size = some u := by
      obtain ⟨acc, c, _, h⟩ := hin
      exact ⟨_, h⟩
    exact ⟨.ref s2.heap.objs.size, _, inv_track I' fS hob (inList_lst hin hle), rfl, hQ _ hn⟩
/-- list(path(..)) -/
theorem pe_listP {f : Addr} {fd : FuncData} {k : Nat} {nmp nml : Str} {p p1 pos' pos : Pos} {e : Expr} {es : List Expr} {ta : TA}
    (F : PathDef X.prog X.w X.K X.mg X.base k f fd) (hr : Room (k + 3) X.A) (hg : Gl X nmp) (hm : X.mg nmp = some (.ref f)) (hk : PySem.W.keepIn X.K (.ref f) = true) (hb : Binds X.K fd pP []) (ha : PA X (e :: es) ta)
    (hgl : Gl X nml) (hmg : X.mg nml = none) (hv : bootBuiltins nml = some (.type "list")) (hnm : nml ≠ "__name__" := by decide) (hdl : (nml == ("__debug__" : Str)) = false := by decide)
    (hdb : (nmp == ("__debug__" : Str)) = false := by decide) (he : starEach (e :: es) X.env = (false, eval e X.env) :: starEach es X.env := by rfl) (hpl : (backTo pos' (starEach es X.env)).any (·.1) = false := by rfl)
    (he1 : starEach [.Call (.Name nmp p1) (e :: es) [] pos'] X.env = (false, eval (.Call (.Name nmp p1) (e :: es) [] pos') X.env) :: starEach [] X.env := by rfl) :
    PE X (.Call (.Name nml p) [.Call (.Name nmp p1) (e :: es) [] pos'] [] pos) (tListP ta) := by
  refine ⟨fun pins s σ H Q I h => ?_⟩
  refine wpAny_Call_Name_kw (ld_blt I hgl hmg hv ?_ hnm hdl)
  refine PyProof.Rows.callWith_type1 ?_ he1 rfl
  rw [he1]
  show wpAny _ _ (spliced ((false, eval (.Call (.Name nmp p1) (e :: es) [] pos') X.env) :: backTo pos (starEach [] X.env))) _ _ s
  refine Calls.spliced_cons ?_
  refine wpAny_Call_Name_kw (ld_glob I hg hm ?_ hdb)
  refine PySem.W.callWith_K (h₀ := X.base) I.ok.mod.kin hk (thn (ha.run pos' pins s σ H _ I h) fun us s1 ⟨vs, H1, I1, r1, q1⟩ => ⟨I1.kIn, ?_⟩) he hpl
  obtain ⟨code, size, many, rfl, ok, hle, hq⟩ := q1
  have hl2 : us.length = 3 := r1.length.symm
  have hbt : BindsTo s1 fd ⟨us, []⟩ (pP.zip us) := by
    have := hb s1 us I1.kIn (by rw [List.append_nil]; exact hl2)
    rw [List.append_nil] at this
    exact this
  refine wpAny_call (codeAny_mono (F ok (hr.mono (by omega)) I1.env0 hbt r1) fun r s2 hq' => ?_)
  cases r with
  | error e => exact False.elim hq'
  | ok fl =>
  cases fl with
  | next => exact False.elim hq'
  | brk => exact False.elim hq'
  | cont => exact False.elim hq'
  | ret u =>
  obtain ⟨a, g, c, env, rfl, m⟩ := hq'
  refine Calls.spliced_nil ?_
  exact call_listP rfl hle hr I1 m hq
end
end Pth
/-! mathematics of the paths -/
namespace K12
/-- the first slots of a path: slot, push, how many -/
def pathN (size : Nat) : Nat → Nat → Nat → List Nat
  | _, _, 0 => []
  | slot, push, n + 1 => slot :: pathN size ((5 * slot + push / 32 + 1) % size) (push / 32) n
def first (code size many : Nat) : List Nat := pathN size (code % size) code many

theorem pathN_len (size : Nat) : ∀ (n slot push : Nat), (pathN size slot push n).length = n
  | 0, _, _ => rfl
  | n + 1, _, _ => by simp [pathN, pathN_len size n]
theorem pathN_lt {size : Nat} (h : 0 < size) : ∀ (n slot push : Nat), slot < size → ∀ x ∈ pathN size slot push n, x < size
  | 0, _, _, _, x, hx => by simp [pathN] at hx
  | n + 1, slot, push, hs, x, hx => by
    simp only [pathN, List.mem_cons] at hx
    rcases hx with rfl | hx
    · exact hs
    · exact pathN_lt h n _ _ (Nat.mod_lt _ h) x hx

/-- half the size -/
theorem pathN_half {half : Nat} (_h : 0 < half) : ∀ (n slot push s2 : Nat), s2 = slot % half → pathN half s2 push n = (pathN (2 * half) slot push n).map (· % half)
  | 0, _, _, _, _ => rfl
  | n + 1, slot, push, s2, e => by
    simp only [pathN, List.map_cons]
    rw [e]
    congr 1
    refine pathN_half _h n _ _ _ ?_
    rw [Nat.mod_mul_left_mod]
    simp [Nat.add_mod, Nat.mul_mod]
theorem first_half {half code n : Nat} (h : 0 < half) : first code half n = (first code (2 * half) n).map (· % half) := by
  refine pathN_half h n _ _ _ ?_
  rw [Nat.mod_mul_left_mod]

/-- the slots as a function -/
def slotAt (size code : Nat) : Nat → Nat
  | 0 => code % size
  | i + 1 => (5 * slotAt size code i + code / 32 ^ (i + 1) + 1) % size
theorem pathN_get (size code : Nat) : ∀ (n i : Nat), pathN size (slotAt size code i) (code / 32 ^ i) n = (List.range' i n).map (slotAt size code)
  | 0, i => rfl
  | n + 1, i => by
    simp only [pathN, List.range'_succ, List.map_cons]
    congr 1
    rw [← pathN_get size code n (i + 1)]
    rw [Nat.div_div_eq_div_mul, ← Nat.pow_succ]
    rfl
theorem first_eq (code size n : Nat) : first code size n = (List.range n).map (slotAt size code) := by
  have h := pathN_get size code n 0
  simp only [Nat.pow_zero, Nat.div_one] at h
  rw [List.range_eq_range']
  exact h

/-- behind the sixth step the pushes are 0 -/
theorem push_zero {code i : Nat} (h : code < 4294967296) (hi : 7 ≤ i) : code / 32 ^ i = 0 := by
  apply Nat.div_eq_of_lt
  refine Nat.lt_of_lt_of_le h ?_
  refine Nat.le_trans (show 4294967296 ≤ 32 ^ 7 by decide) ?_
  exact Nat.pow_le_pow_right (by decide) hi

/-! the cycle x -> 5 x + 1 modulo a power of two -/
theorem five_odd_pow (e : Nat) : 5 ^ e % 4 = 1 := by
  induction e with
  | zero => rfl
  | succ e ih => rw [Nat.pow_succ]; omega
/-- the order of 5 modulo 2 ^ (m + 2) is 2 ^ m -/
theorem order5 : ∀ (m d : Nat), 2 ^ (m + 2) ∣ 5 ^ d - 1 → 2 ^ m ∣ d
  | 0, d, _ => by simp
  | m + 1, d, h => by
    have h8 : 8 ∣ 5 ^ d - 1 := by
      refine Nat.dvd_trans ?_ h
      rw [show (8 : Nat) = 2 ^ 3 by rfl]
      exact Nat.pow_dvd_pow 2 (by omega)
    have hd : d % 2 = 0 := by
      rcases Nat.mod_two_eq_zero_or_one d with e | e
      · exact e
      · exfalso
        obtain ⟨k, rfl⟩ : ∃ k, d = 2 * k + 1 := ⟨d / 2, by omega⟩
        have h25 : 5 ^ (2 * k + 1) % 8 = 5 := by
          clear h h8 e
          induction k with
          | zero => rfl
          | succ k ih =>
            rw [show 2 * (k + 1) + 1 = (2 * k + 1) + 2 by omega, Nat.pow_add]
            rw [Nat.mul_mod, ih]
        obtain ⟨q, hq⟩ := h8
        have : 0 < 5 ^ (2 * k + 1) := Nat.pow_pos (by decide)
        omega
    obtain ⟨e, rfl⟩ : ∃ e, d = 2 * e := ⟨d / 2, by omega⟩
    have h5 := five_odd_pow e
    have hp : 0 < 5 ^ e := Nat.pow_pos (by decide)
    obtain ⟨t, ht⟩ : ∃ t, 5 ^ e = 4 * t + 1 := ⟨5 ^ e / 4, by omega⟩
    have hsq : 5 ^ (2 * e) - 1 = (5 ^ e - 1) * (2 * (2 * t + 1)) := by
      rw [Nat.two_mul, Nat.pow_add, ht]
      simp only [Nat.add_sub_cancel]
      have : (4 * t + 1) * (4 * t + 1) = 4 * t * (2 * (2 * t + 1)) + 1 := by
        simp only [Nat.mul_add, Nat.add_mul, Nat.mul_one, Nat.one_mul]
        have e1 : 4 * t * (2 * (2 * t)) = 16 * (t * t) := by
          rw [show 2 * (2 * t) = 4 * t by omega]
          rw [Nat.mul_mul_mul_comm]
        have e2 : 4 * t * (4 * t) = 16 * (t * t) := by rw [Nat.mul_mul_mul_comm]
        omega
      omega
    rw [hsq, Nat.pow_succ, Nat.mul_comm (2 ^ (m + 2)) 2] at h
    have h2 : 2 * 2 ^ (m + 2) ∣ 2 * ((5 ^ e - 1) * (2 * t + 1)) := by
      have e3 : (5 ^ e - 1) * (2 * (2 * t + 1)) = 2 * ((5 ^ e - 1) * (2 * t + 1)) := by
        rw [← Nat.mul_assoc, Nat.mul_comm (5 ^ e - 1) 2, Nat.mul_assoc]
      rw [← e3]; rw [show m + 2 = m + 1 + 1 by rfl]; exact h
    have h3 : 2 ^ (m + 2) ∣ (5 ^ e - 1) * (2 * t + 1) := Nat.dvd_of_mul_dvd_mul_left (by decide) h2
    have hco : Nat.Coprime (2 ^ (m + 2)) (2 * t + 1) := by
      apply Nat.Coprime.pow_left
      show Nat.gcd 2 (2 * t + 1) = 1
      rw [Nat.gcd_rec]
      rw [show (2 * t + 1) % 2 = 1 by omega]
      rfl
    have h4 : 2 ^ (m + 2) ∣ 5 ^ e - 1 := Nat.Coprime.dvd_of_dvd_mul_right hco h3
    have h5' := order5 m e h4
    rw [Nat.pow_succ, Nat.mul_comm]
    exact Nat.mul_dvd_mul_left 2 h5'

/-- the walk x -> 5 x + 1 modulo N from x -/
def orb (N : Nat) (x : Nat) : Nat → Nat
  | 0 => x
  | n + 1 => (5 * orb N x n + 1) % N
theorem orb_lt {N x : Nat} (h : x < N) : ∀ n, orb N x n < N
  | 0 => h
  | n + 1 => Nat.mod_lt _ (by omega)
/-- four times the place and one is a power of five times what it was -/
theorem orb_pow {N x : Nat} (h : x < N) (n : Nat) : (4 * orb N x n + 1) % (4 * N) = (5 ^ n * (4 * x + 1)) % (4 * N) := by
  induction n with
  | zero => simp [orb]
  | succ n ih =>
    have e : (4 * orb N x (n + 1) + 1) % (4 * N) = (5 * (4 * orb N x n + 1)) % (4 * N) := by
      show (4 * ((5 * orb N x n + 1) % N) + 1) % (4 * N) = _
      have h1 : 4 * ((5 * orb N x n + 1) % N) = (4 * (5 * orb N x n + 1)) % (4 * N) := (Nat.mul_mod_mul_left 4 _ N).symm
      rw [h1, Nat.mod_add_mod]
      congr 1
      omega
    rw [e, Nat.mul_mod, ih, ← Nat.mul_mod, Nat.pow_succ, ← Nat.mul_assoc, Nat.mul_comm (5 ^ n) 5]
theorem odd_dvd {m y z : Nat} (hy : y % 2 = 1) (h : 2 ^ m ∣ z * y) : 2 ^ m ∣ z := by
  refine Nat.Coprime.dvd_of_dvd_mul_right ?_ h
  apply Nat.Coprime.pow_left
  show Nat.gcd 2 y = 1
  rw [Nat.gcd_rec, hy]
  rfl
theorem orb_ne {m x i j : Nat} (hx : x < 2 ^ m) (hij : i < j) (hj : j < i + 2 ^ m) : orb (2 ^ m) x i ≠ orb (2 ^ m) x j := by
  intro e
  have hi := orb_pow hx i
  have hj' := orb_pow hx j
  rw [← e] at hj'
  rw [hi] at hj'
  obtain ⟨d, rfl⟩ : ∃ d, j = i + d := ⟨j - i, by omega⟩
  have hd0 : 0 < d := by omega
  have hle : 5 ^ i * (4 * x + 1) ≤ 5 ^ (i + d) * (4 * x + 1) := Nat.mul_le_mul_right _ (Nat.pow_le_pow_right (by decide) (by omega))
  have hdv : 4 * 2 ^ m ∣ 5 ^ (i + d) * (4 * x + 1) - 5 ^ i * (4 * x + 1) := Nat.dvd_of_mod_eq_zero (Nat.sub_mod_eq_zero_of_mod_eq hj'.symm)
  have e4 : 4 * 2 ^ m = 2 ^ (m + 2) := by rw [Nat.pow_add]; omega
  rw [e4] at hdv
  have e5 : 5 ^ (i + d) * (4 * x + 1) - 5 ^ i * (4 * x + 1) = (5 ^ d - 1) * (5 ^ i * (4 * x + 1)) := by
    rw [Nat.pow_add, Nat.sub_mul, Nat.one_mul]
    congr 1
    rw [Nat.mul_comm (5 ^ i) (5 ^ d), Nat.mul_assoc]
  rw [e5] at hdv
  have hodd : (5 ^ i * (4 * x + 1)) % 2 = 1 := by
    have h5 := five_odd_pow i
    rw [Nat.mul_mod]
    rw [show 5 ^ i % 2 = 1 by omega, show (4 * x + 1) % 2 = 1 by omega]
  have h1 := order5 m d (odd_dvd hodd hdv)
  have := Nat.le_of_dvd hd0 h1
  omega

theorem len_le : ∀ (N : Nat) (l : List Nat), l.Nodup → (∀ x ∈ l, x < N) → l.length ≤ N
  | 0, l, _, h => by
    cases l with
    | nil => exact Nat.le_refl _
    | cons a t => exact absurd (h a List.mem_cons_self) (Nat.not_lt_zero _)
  | N + 1, l, nd, h => by
    by_cases hm : N ∈ l
    · have h1 := len_le N (l.erase N) (nd.erase _) (fun x hx => by
        have hx' := (nd.mem_erase_iff).mp hx
        have := h x hx'.2
        have := hx'.1
        omega)
      rw [List.length_erase_of_mem hm] at h1
      omega
    · have h1 := len_le N l nd (fun x hx => by
        have h2 := h x hx
        have h3 : x ≠ N := fun e => hm (e ▸ hx)
        omega)
      omega
theorem all_mem : ∀ (N : Nat) (l : List Nat), l.Nodup → (∀ x ∈ l, x < N) → l.length = N → ∀ x, x < N → x ∈ l := by
  intro N l nd h hl x hx
  refine Classical.byContradiction fun hm => ?_
  have h1 := len_le N (x :: l) (List.nodup_cons.mpr ⟨hm, nd⟩) (fun y hy => by
    rcases List.mem_cons.mp hy with rfl | hy
    · exact hx
    · exact h y hy)
  rw [List.length_cons] at h1
  omega
/-- from the sixth step on a path goes round the whole cycle -/
theorem slotAt_lt {size : Nat} (h : 0 < size) (code i : Nat) : slotAt size code i < size := by
  cases i <;> exact Nat.mod_lt _ h
theorem slotAt_orb {size code : Nat} (hc : code < 4294967296) (i : Nat) : slotAt size code (6 + i) = orb size (slotAt size code 6) i := by
  induction i with
  | zero => rfl
  | succ i ih =>
    show (5 * slotAt size code (6 + i) + code / 32 ^ (6 + i + 1) + 1) % size = (5 * orb size (slotAt size code 6) i + 1) % size
    rw [ih, push_zero hc (by omega), Nat.add_zero]
def tailOf (code size : Nat) : List Nat := (first code size (size + 6)).drop 6
theorem tailOf_eq (code size : Nat) : tailOf code size = (List.range size).map fun i => slotAt size code (6 + i) := by
  unfold tailOf
  rw [first_eq, ← List.map_drop, List.range_eq_range', List.drop_range', List.range_eq_range', List.range'_eq_map_range]
  rw [List.map_map]
  rw [show size + 6 - 6 = size by omega, List.range_eq_range']
  apply List.map_congr_left
  intro a _
  simp
theorem tail_nodup {m code : Nat} (hc : code < 4294967296) : (tailOf code (2 ^ m)).Nodup := by
  rw [tailOf_eq]
  have hp : 0 < 2 ^ m := Nat.pow_pos (by decide)
  rw [List.Nodup, List.pairwise_map]
  refine List.Pairwise.imp_of_mem ?_ (List.pairwise_lt_range (n := 2 ^ m))
  intro i j hi hj hij
  rw [List.mem_range] at hi hj
  rw [slotAt_orb hc, slotAt_orb hc]
  exact orb_ne (slotAt_lt hp _ _) hij (by omega)
theorem tail_lt {size : Nat} (h : 0 < size) (code : Nat) : ∀ x ∈ tailOf code size, x < size := by
  intro x hx
  rw [tailOf_eq] at hx
  obtain ⟨i, _, rfl⟩ := List.mem_map.mp hx
  exact slotAt_lt h _ _
theorem tail_len (code size : Nat) : (tailOf code size).length = size := by rw [tailOf_eq, List.length_map, List.length_range]
theorem tail_perm {m code : Nat} (hc : code < 4294967296) : (tailOf code (2 ^ m)).Perm (List.range (2 ^ m)) := by
  have hp : 0 < 2 ^ m := Nat.pow_pos (by decide)
  refine (List.perm_ext_iff_of_nodup (tail_nodup hc) List.nodup_range).mpr fun x => ⟨fun hx => ?_, fun hx => ?_⟩
  · exact List.mem_range.mpr (tail_lt hp code x hx)
  · exact all_mem _ _ (tail_nodup hc) (tail_lt hp code) (tail_len _ _) x (List.mem_range.mp hx)
theorem first_mem {m code : Nat} (hc : code < 4294967296) (x : Nat) : x ∈ first code (2 ^ m) (2 ^ m + 6) ↔ x < 2 ^ m := by
  have hp : 0 < 2 ^ m := Nat.pow_pos (by decide)
  constructor
  · intro hx
    exact pathN_lt hp _ _ _ (Nat.mod_lt _ hp) x hx
  · intro hx
    have : x ∈ tailOf code (2 ^ m) := (tail_perm hc).symm.subset (List.mem_range.mpr hx)
    exact List.mem_of_mem_drop this

/-! what two codes share -/
theorem slots_same {size a b : Nat} : ∀ (i : Nat), (∀ j, j ≤ i → a / 32 ^ j % size = b / 32 ^ j % size) → slotAt size a i = slotAt size b i
  | 0, h => by
    have := h 0 (Nat.le_refl _)
    simpa [slotAt] using this
  | i + 1, h => by
    have ih := slots_same i (fun j hj => h j (by omega))
    have h1 := h (i + 1) (Nat.le_refl _)
    show (5 * slotAt size a i + a / 32 ^ (i + 1) + 1) % size = (5 * slotAt size b i + b / 32 ^ (i + 1) + 1) % size
    rw [ih, Nat.add_assoc, Nat.add_assoc, Nat.add_mod, Nat.add_mod _ (b / 32 ^ (i + 1) + 1), Nat.add_mod (a / 32 ^ (i + 1)), Nat.add_mod (b / 32 ^ (i + 1)), h1]
theorem step_same {size a b i : Nat} (hs : 0 < size) (h : slotAt size a i = slotAt size b i) : slotAt size a (i + 1) = slotAt size b (i + 1) ↔ a / 32 ^ (i + 1) % size = b / 32 ^ (i + 1) % size := by
  show (5 * slotAt size a i + a / 32 ^ (i + 1) + 1) % size = (5 * slotAt size b i + b / 32 ^ (i + 1) + 1) % size ↔ _
  rw [h]
  have e : ∀ c : Nat, 5 * slotAt size b i + c + 1 = (5 * slotAt size b i + 1) + c := fun c => by omega
  rw [e, e]
  constructor
  · intro q
    have : ∀ x y d : Nat, (d + x) % size = (d + y) % size → x % size = y % size := by
      intro x y d q
      have h1 : ((d + x : Nat) : Int) % size = ((d + y : Nat) : Int) % size := by exact_mod_cast q
      have h2 : ((x : Nat) : Int) % size = ((y : Nat) : Int) % size := by
        have h3 : (size : Int) ∣ ((d + x : Nat) : Int) - ((d + y : Nat) : Int) := Int.dvd_of_emod_eq_zero (Int.emod_eq_emod_iff_emod_sub_eq_zero.mp h1)
        apply Int.emod_eq_emod_iff_emod_sub_eq_zero.mpr
        apply Int.emod_eq_zero_of_dvd
        have e3 : ((d + x : Nat) : Int) - ((d + y : Nat) : Int) = (x : Int) - y := by omega
        rw [← e3]; exact h3
      exact_mod_cast h2
    exact this _ _ _ q
  · intro q
    rw [Nat.add_mod, q, ← Nat.add_mod]
/-- codes that are equal modulo size * 32 ^ k share k + 1 slots -/
theorem share {size a b k : Nat} (h : a % (size * 32 ^ k) = b % (size * 32 ^ k)) : ∀ i, i ≤ k → slotAt size a i = slotAt size b i := by
  intro i hi
  refine slots_same i fun j hj => ?_
  have e : size * 32 ^ k = 32 ^ j * (size * 32 ^ (k - j)) := by
    have : 32 ^ k = 32 ^ j * 32 ^ (k - j) := by rw [← Nat.pow_add]; congr 1; omega
    rw [this, ← Nat.mul_assoc, Nat.mul_comm size, Nat.mul_assoc]
  have h1 : a % (32 ^ j * (size * 32 ^ (k - j))) / 32 ^ j = b % (32 ^ j * (size * 32 ^ (k - j))) / 32 ^ j := by rw [← e, h]
  rw [Nat.mod_mul_right_div_self, Nat.mod_mul_right_div_self] at h1
  have h2 : a / 32 ^ j % (size * 32 ^ (k - j)) % size = b / 32 ^ j % (size * 32 ^ (k - j)) % size := by rw [h1]
  rw [Nat.mod_mul_right_mod, Nat.mod_mul_right_mod] at h2
  exact h2
theorem first_take {a size n k : Nat} (h : k ≤ n) : (first a size n).take k = (List.range k).map (slotAt size a) := by
  rw [first_eq, ← List.map_take, List.take_range]
  rw [Nat.min_eq_left h]
/-- two starts of paths are equal: slot by slot -/
theorem take_same {a b size n k : Nat} (h : k ≤ n) : (first a size n).take k = (first b size n).take k ↔ ∀ i, i < k → slotAt size a i = slotAt size b i := by
  rw [first_take h, first_take h]
  constructor
  · intro q i hi
    have := List.map_inj_left.mp q i (List.mem_range.mpr hi)
    exact this
  · intro q
    exact List.map_congr_left fun i hi => q i (List.mem_range.mp hi)
/-- the law's question at a turn -/
theorem turn_same {a b size n k : Nat} (hs : 0 < size) (h : k + 1 ≤ n) (q : (first a size n).take k = (first b size n).take k) :
    ((first a size n).take (k + 1) = (first b size n).take (k + 1)) ↔ a / 32 ^ k % size = b / 32 ^ k % size := by
  rw [take_same (by omega)] at q ⊢
  cases k with
  | zero =>
    constructor
    · intro z
      have := z 0 (by omega)
      simpa [slotAt] using this
    · intro z i hi
      obtain rfl : i = 0 := by omega
      simpa [slotAt] using z
  | succ k =>
    have hk := q k (by omega)
    constructor
    · intro z
      exact (step_same hs hk).mp (z (k + 1) (by omega))
    · intro z i hi
      by_cases e : i < k + 1
      · exact q i e
      · obtain rfl : i = k + 1 := by omega
        exact (step_same hs hk).mpr z
end K12
set_option Elab.async false
set_option linter.all false
set_option maxRecDepth 100000
set_option maxHeartbeats 1000000
/-! Xo: own exception classes whose __init__ stores one field, over any built-in base: made as a value, raised, kept, asked for their class, their field read -/
namespace Xo
open PySem PySem.Spec PyProof.Rows L2 Builtin Builtin.ObjectAttr
/-- what the written part says of the class at C -/
structure XC (K : PySem.W.Frag) (C : Addr) : Prop where
  base : ∃ (B newId initId : String) (bmB : List Value), ExcBaseFacts B newId initId bmB ∧ StoreFacts B bmB "object.__setattr__" "object" ∧ PySem.W.excInitIn K C bmB newId = true ∧ PySem.W.excOver K C bmB = true
  hd : PySem.W.hasDictIn K C = true
  sa : PySem.W.findIn K (.ref C) "__setattr__" = some (some (.builtin "object.__setattr__"))
  ga : PySem.W.findIn K (.ref C) "__getattribute__" = some (some (.builtin "BaseException.__getattribute__"))
  gg : PySem.W.findIn K (.ref C) "__getattr__" = some none
  exC : PySem.W.subIn K (.ref C) (.type "BaseException") = some true
  tyC : PySem.W.typeIn K (.ref C) = some (.type "type")
  kC : PySem.W.keepIn K (.ref C) = true
section
variable {X : Cx} {pins : List (Addr × Obj)} {σ : L2.St} {H : Hp} {s : Shared} {a C : Addr} {f : Str} {y : V} {u : Value} {E : Value → Shared → Prop} {A : Around}
/-- the first store into a fresh exception -/
theorem store1 {K : PySem.W.Frag} {prog : Program} {w : World} {name : Str} {tk : Tok} {v : Value} {x : Addr} {fv : Array Value} {R : Result → Shared → Prop} (T : XC K C) (X : K.In s.heap)
    (hx : s.heap.get? x = some { cls := .ref C, data := .fields fv }) (hno : PySem.W.findIn K (.ref C) name = some none)
    (hq : ∀ h' tk' dx, (∀ b o, b ≠ x → s.heap.get? b = some o → h'.get? b = some o) → s.heap.objs.size ≤ dx → dx ≠ x → h'.get? x = some { cls := .ref C, dict := some dx, data := .fields fv } →
      h'.Ns1 dx (fun y => if y = name then some v else none) → R (.ok (.ret .none)) { s with heap := h', toks := tk' }) :
    codeAny (model prog w) A (.call (.builtin "object.__setattr__") ⟨[.ref x, .str name tk, v], []⟩) R s := by
  obtain ⟨B, newId, initId, bmB, fb, sf, ii, ov⟩ := T.base
  obtain ⟨cd, hc, hdd⟩ := PySem.W.any_some T.hd
  have I : PySem.W.InstAt s.heap x { cls := .ref C, data := .fields fv } C none := ⟨hx, rfl, rfl, trivial⟩
  refine PySem.W.osa_openX (r := none) sf X I ov (show PySem.W.takerIn K C name = some none from NoAttr.taker hno) fun b => ?_
  have hcls : PySem.W.Looks (model prog w) s.heap (classData C) cd := PySem.W.looks_clsIn X hc
  have hxs : x ≠ s.heap.objs.size := Nat.ne_of_lt (Heap.lt_size hx)
  have hdd' : cd.hasDict = true := hdd
  obtain ⟨nm, bs, mro, ns, qn, hd, sn, sb, ab, col, del⟩ := cd
  dsimp only at hdd'
  subst hdd'
  obtain ⟨hp, g, d, t, os⟩ := s
  dsimp only
  unfold storeInOwnDict ownDictForStores
  repeat (first | with_reducible refine HandSPX.store_in_new ?_ ?_ | with_reducible refine wpAny_loadPart_at hx ?_ | with_reducible refine hcls.at ?_ | wp_step)
  · exact ⟨_, #[], _, (Heap.get?_update_ne _ _ _ _ (Ne.symm hxs)).trans (Heap.get?_push_at rfl rfl), rfl, fun e z => absurd z (by simp), fun _ => rfl⟩
  · intro h1 tk1 n1 sb1
    have hx1 : (hp.push { cls := .type "dict", data := .dict #[] }).get? x = some { cls := .ref C, data := .fields fv } := Heap.get?_push_of_some _ hx
    exact hq h1 tk1 hp.objs.size (fun b o hb z => (sb1.2 b (Nat.ne_of_lt (Heap.lt_size z))).trans ((Heap.get?_update_ne _ _ _ _ hb).trans (Heap.get?_push_of_some _ z))) (Nat.le_refl _) (Ne.symm hxs) ((sb1.2 x hxs).trans (Heap.get?_update_self _ hx1 rfl)) n1
theorem ost1 {Q : Unit → Shared → Prop} (T : XC X.K C) (I : Inv X pins σ H s) (e : H a = some (exo a C none)) (hno : PySem.W.findIn X.K (.ref C) f = some none) (ry : RelV y u)
    (h : ∀ dx s', H dx = none → dx ≠ a → Inv X pins σ (upd (upd H a (exo a C (some dx))) dx (exd dx [(f, y)])) s' → Q () s') : wpAny (model X.prog X.w) A (setAttr (.ref a) f u) Q E s := by
  obtain ⟨t1, ho⟩ := exo_at I.hok e
  obtain ⟨h0, g, d, t, os⟩ := s
  refine PySem.W.set_plain I.kIn (od := none) ⟨ho, rfl, rfl, trivial⟩ T.sa ?_
  refine store1 T I.kIn ho hno fun h1 tk1 dx k dn dne hx hn => ?_
  have hnd : H dx = none := I.hok.fresh dn
  have J := I.write (t' := tk1) (x := a) (e := a) (o := exo a C (some dx)) (by rw [e]; exact True.intro) (.inl rfl) k ⟨_, hx⟩ (exo_ok hx)
  have fp : FpOk X pins (upd H a (exo a C (some dx))) dx := I.fpOk dn (by rw [upd_ne dne]; exact hnd)
  obtain ⟨o, es, ep, hob, hr⟩ := id hn
  exact h dx _ hnd dne (Pth.inv_track J fp ⟨o, hob⟩ (exd_ok hn (relO_put (fs := []) ry fun _ => True.intro)))
end
/-- self.f = v in such an __init__ -/
def tOst1 (f : Str) (to te : TE) (K : PySem.W.Frag) : TS := fun D σ H => te σ H fun y H1 => to σ H1 fun x H2 => ∃ a C : Addr, x = .ref a ∧ XC K C ∧ PySem.W.findIn K (.ref C) f = some none ∧ H2 a = some (exo a C none) ∧
  ∀ dx, H2 dx = none → dx ≠ a → D.nx σ (upd (upd H2 a (exo a C (some dx))) dx (exd dx [(f, y)]))
theorem ps_ost1 {X : Cx} {o e : Expr} {to te : TE} {f : Str} {p' pos : Pos} (ho : PE X o to) (he : PE X e te) (hs : swapsWith e (some (.Attribute o f p')) pos.line X.env = pure false := by rfl) : PS X (.Assign [.Attribute o f p'] e pos) (tOst1 f to te X.K) := by
  refine ⟨fun pins s σ H D I h => ?_⟩
  refine plainObj_wpAny_Assign_Attribute (thn (he.run pins s σ H _ I h) fun v s1 ⟨y, H1, I1, r1, q1⟩ => thn (ho.run pins s1 σ H1 _ I1 q1) fun u s2 ⟨x, H2, I2, r2, a, C, ex, T, hno, ea, q⟩ => ?_) hs
  subst ex
  cases (show u = Value.ref a from r2)
  exact ost1 T I2 ea hno r1 fun dx s3 n ne J => ⟨σ, _, J, q dx n ne⟩
/-- the promise of such an __init__ -/
def spXI (K : PySem.W.Frag) (f : Str) : Sp := fun vs H Q _ => ∃ (a C : Addr) (v : V), vs = [.ref a, v] ∧ XC K C ∧ PySem.W.findIn K (.ref C) f = some none ∧ H a = some (exo a C none) ∧
  ∀ d, H d = none → d ≠ a → Q .non (upd (upd H a (exo a C (some d))) d (exd d [(f, v)]))
theorem ok_xinit {P : Program} {w : World} {K : PySem.W.Frag} {mg : Str → Option Value} {base : Heap} {qual fld : Str} {st : Stmt} {fa : Addr} {fd : FuncData} {p1 p2 p3 p4 : Pos} (F : Fun K "__init__" qual st fa fd) (S : FnScope ["self", fld] ["self", fld] (defScope st))
    (hb : defBody st = [.Assign [.Attribute (.Name "self" p1) fld p2] (.Name fld p3) p4]) (hd1 : (fld == ("__debug__" : Str)) = false) (hd2 : (fld == ("__classdict__" : Str)) = false) : FnOk P w K mg base CX0 1 fa fd ["self", fld] (spXI K fld) := by
  refine F.ok S (fun vs H Q E h => ?_) (fun cdv A outer s H vs Q E hr h => ?_)
  · obtain ⟨a, C, v, rfl, _⟩ := h
    rfl
  · obtain ⟨a, C, v, rfl, T, hno, ea, k⟩ := h
    rw [hb]
    refine ⟨_, pss_one (ps_ost1 (pe_var (i := 0) rfl ((S.par "self" (by simp)).elim (fun z => .inl z) (fun z => .inr (.inl z)))) (pe_var (i := 1) rfl ((S.par fld (by simp)).elim (fun z => .inl z) (fun z => .inr (.inl z))) hd1 hd2)), ?_⟩
    exact ⟨v, rfl, .ref a, rfl, a, C, rfl, T, hno, ea, fun d hd hne => k d hd hne⟩
/-- the class's own def __init__, promised -/
structure XI (X : Cx) (C : Addr) (fld : Str) : Prop where
  T : XC X.K C
  no : PySem.W.findIn X.K (.ref C) fld = some none
  ini : ∃ (fI : Addr) (fd : FuncData), PySem.W.findIn X.K (.ref C) "__init__" = some (some (.ref fI)) ∧ PySem.W.typeIn X.K (.ref fI) = some (.type "function") ∧ Binds X.K fd ["self", fld] [] ∧ FnOk X.prog X.w X.K X.mg X.base CX0 1 fI fd ["self", fld] (spXI X.K fld)
section
variable {X : Cx} {pins : List (Addr × Obj)} {σ : L2.St} {H : Hp} {s : Shared} {C : Addr} {fld x : Str} {v : V} {u : Value} {e : Expr} {te : TE} {p pos : Pos}
theorem upd2 {H : Hp} {a : Addr} {o o' : HO} : upd (upd H a o) a o' = upd H a o' := by
  funext b
  unfold upd
  split <;> rfl
/-- the two objects behind the call's start -/
abbrev xHeap (h : Heap) (us : List Value) (C : Addr) : Heap := (h.push (PySem.W.kdv_tup us)).push (HandSPX.excO C h.objs.size)
theorem inv_start_x (I : Inv X pins σ H s) (us : List Value) : H (s.heap.objs.size + 1) = none ∧ (∀ b o, s.heap.get? b = some o → (xHeap s.heap us C).get? b = some o) ∧
    Inv X pins σ (upd H (s.heap.objs.size + 1) (exo (s.heap.objs.size + 1) C none)) { s with heap := xHeap s.heap us C } := by
  have hsz : s.heap.objs.size ≤ s.heap.objs.size + 1 := Nat.le_succ _
  have kk : ∀ b o, s.heap.get? b = some o → (xHeap s.heap us C).get? b = some o := fun b o q => Heap.get?_push_of_some _ (Heap.get?_push_of_some _ q)
  have hg : (xHeap s.heap us C).get? (s.heap.objs.size + 1) = some (HandSPX.excO C s.heap.objs.size) := by heap_get
  exact ⟨I.hok.fresh hsz, kk, I.laid (t' := s.toks) (o := exo (s.heap.objs.size + 1) C none) kk hsz (exo_ok hg)⟩
/-- C(v), the call -/
theorem run_x {R : Result → Shared → Prop} (T : XI X C fld) (hr : Room 2 X.A) (I : Inv X pins σ H s) (rv : RelV v u) {Q1 : VK}
    (hq1 : ∀ d, H d = none → d ≠ s.heap.objs.size + 1 → Q1 .non (upd (upd H (s.heap.objs.size + 1) (exo (s.heap.objs.size + 1) C (some d))) d (exd d [(fld, v)])))
    (hR : ∀ s', CE X.stack X.prog X.w (upd H (s.heap.objs.size + 1) (exo (s.heap.objs.size + 1) C none)) { s with heap := xHeap s.heap [u] C } Q1 .none s' → R (.ok (.ret (.ref (s.heap.objs.size + 1)))) s')
    (hQn : ∀ v' H', Q1 v' H' → v' = .non) : codeAny (model X.prog X.w) X.A (.call (.ref C) ⟨[u], []⟩) R s := by
  obtain ⟨hn, kk, I2⟩ := inv_start_x (C := C) I [u]
  obtain ⟨fI, fd, iC, tI, hb, F1⟩ := T.ini
  obtain ⟨B, newId, initId, bmB, fb, sf, ii, ov⟩ := T.T.base
  obtain ⟨nm, N, qn, bs, bm, hdct, sn, sub, ab, col, dd, k0, k1, k2, k3, k5, hC, hT⟩ := PySem.W.excInit_of I.kIn ii
  have hsp : spXI X.K fld [V.ref (s.heap.objs.size + 1), v] (upd H (s.heap.objs.size + 1) (exo (s.heap.objs.size + 1) C none)) Q1 E0 := by
    refine ⟨_, C, v, rfl, T.T, T.no, upd_same, fun d hd hne => ?_⟩
    rw [upd2]
    exact hq1 d (by rwa [upd_ne hne] at hd) hne
  obtain ⟨h0, g, dr, tk, os⟩ := s
  refine HandSPX.call_own fb hT hC (PySem.W.looks_findIn I.kIn iC) (fun self => PySem.W.bind_fn I.kIn self tI) (show 1 ≤ sizeLine by decide)
    (codeAny_mono (F1.run _ X.stack _ _ ⟨[Value.ref (h0.objs.size + 1), u], []⟩ [Value.ref (h0.objs.size + 1), u] [V.ref (h0.objs.size + 1), v] Q1 E0 (hr.make C [u] []) (I2.env0.make C [u] []) (hb _ [Value.ref (h0.objs.size + 1), u] I2.kIn rfl) (.cons (show L2.RelV (V.ref (h0.objs.size + 1)) (Value.ref (h0.objs.size + 1)) from rfl) (.cons rv .nil)) hsp) fun r s' hq' => ?_)
  cases r with
  | error er => exact (show False from hq').elim
  | ok fl =>
    cases fl with
    | ret u' =>
      have hq2 := hq'
      obtain ⟨v', H', os', bare', un', hok', rv', q'⟩ := hq'
      have ev := hQn _ _ q'
      subst ev
      cases rv'
      exact ⟨rfl, hR s' hq2⟩
    | next => exact False.elim hq'
    | brk => exact False.elim hq'
    | cont => exact False.elim hq'
/-- C(e), as a value: a new exception at a, its dict at d -/
def tXmk (C : Addr) (fld : Str) (ta : TA) : TE := fun σ H Q => ta σ H fun vs H1 => ∃ v, vs = [v] ∧ ∀ a d, H1 a = none → H1 d = none → d ≠ a → Q (.ref a) (upd (upd H1 a (exo a C (some d))) d (exd d [(fld, v)]))
theorem pe_xmk {es : List Expr} {ta : TA} (T : XI X C fld) (hr : Room 2 X.A) (hg : Gl X x) (hm : X.mg x = some (.ref C)) (ha : PA X (e :: es) ta) (hdb : (x == ("__debug__" : Str)) = false := by decide)
    (hst : starEach (e :: es) X.env = (false, eval e X.env) :: starEach es X.env := by rfl) (hpl : (backTo pos (starEach es X.env)).any (·.1) = false := by rfl) : PE X (.Call (.Name x p) (e :: es) [] pos) (tXmk C fld ta) := by
  refine ⟨fun pins s σ H Q I h => ?_⟩
  refine wpAny_Call_Name_kw (ld_glob I hg hm ?_ hdb)
  refine PySem.W.callWith_K (h₀ := X.base) I.ok.mod.kin T.T.kC (thn (ha.run pos pins s σ H _ I h) fun us s1 ⟨vs, H1, I1, r1, v, ev, q1⟩ => ⟨I1.kIn, ?_⟩) hst hpl
  subst ev
  obtain ⟨u, rfl, ru⟩ := r1.one
  obtain ⟨hn, kk, I2⟩ := inv_start_x (C := C) I1 [u]
  refine wpAny_call (run_x (Q1 := fun v' H' => v' = .non ∧ Q (.ref (s1.heap.objs.size + 1)) H') T hr I1 ru (fun d hd hne => ⟨rfl, q1 _ d hn hd hne⟩) (fun s' c => ?_) fun v' H' q => q.1)
  obtain ⟨v', H', I3, _, _, q⟩ := I2.after c
  exact ⟨.ref (s1.heap.objs.size + 1), H', I3, rfl, q⟩
/-- C(e), to be raised -/
def tXraise (C : Addr) (fld : Str) (ta : TA) : L2.St → Hp → XK → Prop := fun σ H Q => ta σ H fun vs H1 => ∃ v, vs = [v] ∧ ∀ d, H1 d = none → Q (.ref C) (some d) (upd H1 d (.xd [(fld, v)]))
theorem pmk_x {es : List Expr} {ta : TA} (T : XI X C fld) (hr : Room 2 X.A) (hg : Gl X x) (hm : X.mg x = some (.ref C)) (ha : PA X (e :: es) ta) (hdb : (x == ("__debug__" : Str)) = false := by decide)
    (hst : starEach (e :: es) X.env = (false, eval e X.env) :: starEach es X.env := by rfl) (hpl : (backTo pos (starEach es X.env)).any (·.1) = false := by rfl) : PMk X (.Call (.Name x p) (e :: es) [] pos) (tXraise C fld ta) := by
  intro pins s σ H Q I h
  refine wpAny_Call_Name_kw (ld_glob I hg hm ?_ hdb)
  refine PySem.W.callWith_K (h₀ := X.base) I.ok.mod.kin T.T.kC (thn (ha.run pos pins s σ H _ I h) fun us s1 ⟨vs, H1, I1, r1, v, ev, q1⟩ => ⟨I1.kIn, ?_⟩) hst hpl
  subst ev
  obtain ⟨u, rfl, ru⟩ := r1.one
  obtain ⟨hn, kk, I2⟩ := inv_start_x (C := C) I1 [u]
  refine wpAny_call (run_x (Q1 := fun v' H' => v' = .non ∧ ∃ d, H1 d = none ∧ d ≠ s1.heap.objs.size + 1 ∧ H' = upd (upd H1 (s1.heap.objs.size + 1) (exo (s1.heap.objs.size + 1) C (some d))) d (exd d [(fld, v)])) T hr I1 ru
    (fun d hd hne => ⟨rfl, d, hd, hne, rfl⟩) (fun s' c => ?_) fun v' H' q => q.1)
  obtain ⟨v', H', os', bare', un', hok', rv', ev, d, hd, hne, eH⟩ := c
  subst eH
  obtain ⟨h0, g, dr, tk, os⟩ := s1
  obtain ⟨h2, g2, d2, t2, os2⟩ := s'
  have eD : upd (del (upd (upd H1 (h0.objs.size + 1) (exo (h0.objs.size + 1) C (some d))) d (exd d [(fld, v)])) (h0.objs.size + 1)) d (.xd [(fld, v)]) = upd H1 d (.xd [(fld, v)]) := by
    funext b
    by_cases hb : b = d
    · rw [hb, upd_same, upd_same]
    · rw [upd_ne hb, upd_ne hb]
      by_cases hb2 : b = h0.objs.size + 1
      · rw [hb2, del_same]
        exact hn.symm
      · rw [del_ne hb2, upd_ne hb, upd_ne hb2]
  exact mk_end (raises_own T.T.exC T.T.tyC) I1 (Nat.le_succ _) kk un' hok' os' bare' (by rw [upd_ne (Ne.symm hne), upd_same]) upd_same hd (by rw [eD]; exact q1 d hd)
end
end Xo
set_option Elab.async false
set_option linter.all false
set_option maxRecDepth 100000
set_option maxHeartbeats 1000000
/-! Xt: try: .. except (A, B, C) as n: e = n, the exception kept -/
namespace Xo
open PySem PySem.Spec PyProof.Rows L2
/-- an exception that is kept: its class, its dict -/
def xob (a : Addr) (cls : Value) (d : Option Addr) : HO := .ext fun h => ∃ o vs, h.get? a = some o ∧ Zc cls d o ∧ o.data = .fields vs
theorem xob_ok {P : Program} {w : World} {H : Hp} {h : Heap} {a : Addr} {cls : Value} {d : Option Addr} {o : Obj} {vs : Array Value} (e : h.get? a = some o) (z : Zc cls d o) (f : o.data = .fields vs) : ObjOk P w H h a (xob a cls d) :=
  ⟨⟨o, vs, e, z, f⟩, ⟨o, e⟩, fun h1 h2 ⟨o', vs', e', z', f'⟩ k => ⟨o', vs', k _ e', z', f'⟩⟩
section
variable {X : Cx} {pins : List (Addr × Obj)} {σ : L2.St} {H : Hp} {s : Shared}
/-- tracked from now on, what the entry's heap had not -/
theorem inv_trackN {a : Addr} {o : HO} (I : Inv X pins σ H s) (h0 : X.s_0.heap.get? a = none) (hn : H a = none) (nL : a ≠ X.env.locals) (nC : ∀ y c, X.env.cells.lookup y = some c → c ≠ a) (nP : ∀ p ∈ X.pn ++ pins, p.1 ≠ a)
    (new : ObjOk X.prog X.w (upd H a o) s.heap a o) : Inv X pins σ (upd H a o) s := by
  have nt : ∀ {b u}, H b = some u → b ≠ a := fun {b u} e => ne_of_none e hn
  have n0 : ∀ {b u}, X.s_0.heap.get? b = some u → b ≠ a := fun {b u} e z => by
    rw [z, h0] at e
    cases e
  refine ⟨I.ok, I.os, I.bare, ⟨I.base.keep, I.base.slot, fun b u e n x => ?_, I.base.there, fun b xs e => ?_, fun b u v e => ?_, fun b ps e => ?_⟩, I.loc, I.cell, ?_, fun y c e => ?_, fun p hp => ?_, fun b u e => ?_, I.len⟩
  · rw [upd_ne (n0 e)]
    exact I.base.free b u e n x
  · have q := I.base.tups b xs e
    rw [upd_ne (nt q)]
    exact q
  · have q := I.base.frzs b u v e
    rw [upd_ne (nt q)]
    exact q
  · obtain ⟨more, q⟩ := I.base.tbls b ps e
    exact ⟨more, by rw [upd_ne (nt q)]; exact q⟩
  · rw [upd_ne (Ne.symm nL)]
    exact I.free
  · rw [upd_ne (nC y c e)]
    exact I.freeC y c e
  · obtain ⟨q1, q2, q3⟩ := I.pin p hp
    exact ⟨q1, by rw [upd_ne (nP p hp)]; exact q2, q3⟩
  · by_cases hb : b = a
    · rw [hb, upd_same] at e
      cases e
      rw [hb]
      exact new
    · rw [upd_ne hb] at e
      exact (I.hok b u e).stay (fun _ _ _ q => q) (fun c q => by rw [upd_ne (nt q)]; exact q) fun c xs q => by rw [upd_ne (nt q)]; exact q
theorem fl_keeps {B h h2 : Heap} {l : List Env} {a : Addr} {Z : Obj → Prop} (f : HandSPX.FlyingZ B l a Z h) (k : ∀ b o, h.get? b = some o → h2.get? b = some o) : HandSPX.FlyingZ B l a Z h2 := by
  obtain ⟨k1, k2, k3, oe, vs, T, oT, ts, e1, e2, e3, e4, e5, e6, e7, e8, e9⟩ := f
  exact ⟨fun b o q => k b o (k1 b o q), k2, Heap.FunFrames.of_keeps (fun b o e _ => ⟨o, k b o e, rfl⟩) k3, oe, vs, T, oT, ts, k _ _ e1, e2, e3, e4, e5, e6, k _ _ e7, e8, e9⟩
end
/-- what the clause wishes of an exception of the body -/
def wKeep (K : PySem.W.Frag) (cs : List Value) (i j : Nat) (D : Ends) : WX := fun cls d σ H => PySem.W.exmAny K cls cs = some true ∧ ∀ a, H a = none → D.nx (((σ.set i (some (.ref a))).set j (some (.ref a))).set i none) (upd H a (xob a cls d))
section
variable {X : Cx} {n y x1 x2 x3 : Str} {C1 C2 C3 : Addr} {i j k : Nat} {body : List Stmt} {q1 q2 q3 qt py pn pa pos pos' : Pos} {tb : WX → TS}
theorem ps_try_keep (hs : X.stack = X.env :: X.outer) (hf : X.env.frame = some X.env.locals) (hex : X.ex = []) (hN : X.N.Nodup) (hi : X.N[i]? = some n) (hln : X.env.kindOf n = some .local) (hj : X.N[j]? = some y) (hlj : X.env.kindOf y = some .local)
    (g1 : Gl X x1 ∧ X.mg x1 = some (.ref C1) ∧ (x1 == ("__debug__" : Str)) = false) (g2 : Gl X x2 ∧ X.mg x2 = some (.ref C2) ∧ (x2 == ("__debug__" : Str)) = false) (g3 : Gl X x3 ∧ X.mg x3 = some (.ref C3) ∧ (x3 == ("__debug__" : Str)) = false)
    (hdn : (n == ("__debug__" : Str)) = false) (hdc : (n == ("__classdict__" : Str)) = false)
    (hb : ∀ (W : WX) (pn : List (Addr × Obj)) (xe : Value → Shared → Prop), Takes (X.tr pn xe) W → PassesOwn (model X.prog X.w) X.A X.env xe → PSs (X.tr pn xe) body (tb W)) :
    PS X (.Try body [.ExceptHandler (some (.Tuple [.Name x1 q1, .Name x2 q2, .Name x3 q3] k qt)) (some n) [.Assign [.Name y py] (.Name n pn) pa] pos'] [] [] pos)
      (fun D σ H => tb (wKeep X.K [.ref C1, .ref C2, .ref C3] i j D) D σ H) := by
  refine ⟨fun pins s σ H D I h => ?_⟩
  have okX := I.ok
  have frX : X.A.frames = some (X.env :: X.outer) := by rw [okX.frames, hs]
  have locN : Loc X.env.scope n := .inl hln
  refine wpAny_Try_except ?_
  refine wpAny_mono ((hb (wKeep X.K [.ref C1, .ref C2, .ref C3] i j D) (X.pn ++ pins) (fun e t1 => wpAny (model X.prog X.w) X.A (noteFrame e X.env) (fun _ t2 => wpAny (model X.prog X.w) X.A (setFlight e none)
    (fun _ t3 => wpAny (model X.prog X.w) X.A (handleBy e X.env [.ExceptHandler (some (.Tuple [.Name x1 q1, .Name x2 q2, .Name x3 q3] k qt)) (some n) [.Assign [.Name y py] (.Name n pn) pa] pos']) (SP X pins D) X.xe t3) X.xe t2) X.xe t1)
    (fun u t xx => ?_) PassesOwn.looking).run [] s σ H D (I.toTry _) h) (fun fl t hsp => ?_) (fun e t he => he)
  · obtain ⟨a, B, t0, pins', σ', H', cls, d, rfl, J', nb, up, sky, na, hos, hag, hany, hnx⟩ := xx
    have J : Inv X pins σ' H' t0 := J'.ofTry okX
    have sky2 : Sky B (X.env :: X.outer) a (Zc cls d) X.env.locals t.heap := by rw [← hs]; exact sky
    show wpAny (model X.prog X.w) X.A (noteFrame (.ref a) X.env) _ _ _
    refine Sky.land Zc.steady frX hf sky2 fun h3 fl3 up3 => ?_
    have J3 : Inv X pins σ' H' { t with heap := h3 } := J.landed nb fl3.1 (up.trans up3) hos hag
    obtain ⟨o3, vs3, he3, hz3, hd3⟩ := fl3.there
    have nfr : a ∉ frs (X.env :: X.outer) := fun hm => by
      obtain ⟨_, o', e', hnf⟩ := fl3.2.2.1.mem hm
      rw [he3] at e'
      cases e'
      exact hnf _ hd3
    have nL : a ≠ X.env.locals := fun z => nfr (List.mem_filterMap.mpr ⟨X.env, List.mem_cons_self, by rw [hf, z]⟩)
    have nF : a ∉ X.fs := fun hm => by
      obtain ⟨e, he, q⟩ := List.mem_filterMap.mp hm
      exact nfr (List.mem_filterMap.mpr ⟨e, List.mem_cons_of_mem _ he, q⟩)
    have S3 := J3.suite he3 hd3 na nL nF
    -- the tuple of the classes
    refine wpAny_handleBy_cons (codeAny_handlers_test ?_) (by intro q; cases q)
    refine wpAny_Tuple (wpAny_items_cons (ld_glob (X := X.suite a ((a, o3) :: (X.pn ++ pins))) S3 g1.1 g1.2.1 (wpAny_items_cons (ld_glob (X := X.suite a ((a, o3) :: (X.pn ++ pins))) S3 g2.1 g2.2.1
      (wpAny_items_cons (ld_glob (X := X.suite a ((a, o3) :: (X.pn ++ pins))) S3 g3.1 g3.2.1 (wpAny_items_nil ⟨(show 3 ≤ sizeLine by decide), ?_⟩) g3.2.2)) g2.2.2)) g1.2.2))
    have kp : ∀ b o, h3.get? b = some o → (h3.push { cls := .type "tuple", data := .seq [Value.ref C1, .ref C2, .ref C3].toArray }).get? b = some o := fun _ _ z => Heap.get?_push_of_some _ z
    have htp : (h3.push { cls := .type "tuple", data := .seq [Value.ref C1, .ref C2, .ref C3].toArray }).get? h3.objs.size = some { cls := .type "tuple", data := .seq [Value.ref C1, .ref C2, .ref C3].toArray } := Heap.get?_push_size h3 rfl
    show wpAny _ _ (excMatches (.ref a) (.ref h3.objs.size)) _ _ { t with heap := h3.push { cls := .type "tuple", data := .seq [Value.ref C1, .ref C2, .ref C3].toArray } }
    generalize h3.push { cls := .type "tuple", data := .seq [Value.ref C1, .ref C2, .ref C3].toArray } = h4 at kp htp
    have fl4 := fl_keeps fl3 kp
    have he4 := kp _ _ he3
    have LT : PySem.W.Looks (model X.prog X.w) h4 (typeOf (.ref a)) cls := fun A Q E s k q => wpAny_typeOf_ref (k _ _ he4) (by rw [hz3.1]; exact q)
    refine (PySem.W.exm_tup3 (M := model X.prog X.w) (J3.kIn.keeps kp) LT htp hany).here ?_
    refine codeAny_handlers_suite_as ?_
    refine HandSPX.lands_againZ fl4 fun h5 fl5 up5 => ?_
    have J5 : Inv X pins σ' H' { t with heap := h5 } := J.landed nb fl5.1 (((up.trans up3).trans (Heap.UpToSlots.of_keeps kp)).trans up5) hos hag
    obtain ⟨o5, vs5, he5, hz5, hd5⟩ := fl5.there
    have S5 := J5.suite he5 hd5 na nL nF
    refine store_ok (X := X.suite a ((a, o5) :: (X.pn ++ pins))) (v := .ref a) S5 hN hi locN rfl (fun t6 S6 => ?_) (.inr hln)
    have suite : PSs (X.suite a ((a, o5) :: (X.pn ++ pins))) [.Assign [.Name y py] (.Name n pn) pa] (tAsg (tVar i) (gName j)) := pss_one (ps_set (i := j) hN hj (.inl hlj) (pe_var (i := i) hi (.inl hln) hdn hdc) (by rfl) (.inr hlj))
    have hil : i < σ'.length := by
      rw [J.len]
      exact (List.getElem?_eq_some_iff.mp hi).1
    refine wpAny_mono (suite.run [] t6 _ H' { nx := fun σ6 H6 => σ6 = (σ'.set i (some (.ref a))).set j (some (.ref a)) ∧ H6 = H', rt := fun _ _ => False } S6 ⟨.ref a, by rw [List.getElem?_set_self hil], rfl, rfl⟩) (fun fl t7 hsp => ?_) (fun _ _ z => False.elim z)
    cases fl with
    | next =>
      obtain ⟨σ7, H7, S7, rfl, rfl⟩ := hsp
      have J7 := S7.unsuite okX
      obtain ⟨he7, _⟩ := S7.pin (a, o5) (List.mem_append_left _ List.mem_cons_self)
      have n0 : ∀ b o, t0.heap.get? b = some o → b ≠ a := fun b o e z => by
        rw [z] at e
        have q := nb a o e (by rw [hs]; exact nfr)
        rw [fl3.2.1] at q
        cases q
      have hs0 : X.s_0.heap.get? a = none := by
        cases q : X.s_0.heap.get? a with
        | none => rfl
        | some o =>
          obtain ⟨o', q'⟩ := J.base.there a o q (by rw [hex]; simp)
          exact absurd rfl (n0 a o' q')
      have J8 := inv_trackN (o := xob a cls d) J7 hs0 na nL (fun y c e z => by
        obtain ⟨v, oc, q1, q2⟩ := J7.cell y c e
        rw [z, he7] at q1
        cases q1
        rw [hd5] at q2
        cases q2) (fun p hp => n0 _ _ (J.pin p hp).1) (xob_ok he7 hz5 hd5)
      exact gone_ok J8 hN hi hln fun t9 J9 => ⟨_, _, J9, hnx a na⟩
    | brk =>
      obtain ⟨_, _, _, q⟩ := hsp
      exact False.elim q
    | cont =>
      obtain ⟨_, _, _, q⟩ := hsp
      exact False.elim q
    | ret u =>
      obtain ⟨_, _, _, _, _, q⟩ := hsp
      exact False.elim q
  · cases fl with
    | next =>
      obtain ⟨σ', H', J', q⟩ := hsp
      exact wpAny_execs_nil ⟨σ', H', J'.ofTry okX, q⟩
    | brk =>
      obtain ⟨σ', H', J', q⟩ := hsp
      exact ⟨σ', H', J'.ofTry okX, q⟩
    | cont =>
      obtain ⟨σ', H', J', q⟩ := hsp
      exact ⟨σ', H', J'.ofTry okX, q⟩
    | ret u =>
      obtain ⟨v, σ', H', J', r, q⟩ := hsp
      exact ⟨v, σ', H', J'.ofTry okX, r, q⟩
end
end Xo
set_option Elab.async false
set_option linter.all false
set_option maxRecDepth 100000
set_option maxHeartbeats 1000000
/-! Xi: a kept exception asked for its class; its field read -/
namespace PySem.W
open PySem PySem.Spec PySem.Calls PyProof.Rows
section
variable {prog : Program} {w : World} {A : Around} {E : Value → Shared → Prop} {s : Shared} {K : Frag} {x D : Addr} {ox od : Obj}
/-- its __class__ -/
theorem xi_class {Q : Option Value → Shared → Prop} (T : L2.ExcC K D) (X : K.In s.heap) (I : InstAt s.heap x ox D (some od)) (h : Q (some (.ref D)) { s with toks := s.toks + 1 }) : wpAny (model prog w) A (getAttr? (.ref x) "__class__") Q E s := by
  have fo : findObj K D (some od) "__class__" = some (.bind (.builtin "getset_descriptor.__get__") (.builtin "object.__class__")) := findObj_data (by obtain ⟨cd, hc, _⟩ := any_some T.hd; rw [hc]; rfl) T.ha T.hn T.ht
  obtain ⟨h0, g, d, t, os⟩ := s
  have K0 := I.type (M := model prog w)
  have K1 := looks_findIn (M := model prog w) X T.hg
  have K2 := looks_findIn (M := model prog w) X T.hk
  have K3 := looks_find (M := model prog w) X I fo
  have isB : Looks (model prog w) h0 (isInstance (.ref x) (.type "BaseException")) true := K0.andThen (looks_subIn X T.hs)
  have c0 : (false && onTheHeap (Value.builtin "BaseException.__getattribute__")) = false := rfl
  have c1 : (onTheHeap (Value.ref D) && Value.builtin "BaseException.__getattribute__" == Value.builtin "object.__getattribute__") = false := by
    rw [show (Value.builtin "BaseException.__getattribute__" == Value.builtin "object.__getattribute__") = false by decide +kernel]
    rfl
  unfold getAttr? getAttrBy? getAttrBy
  refine wpAny_bind (wpAny_mkText (wpAny_bind (wpAny_attempt (wpAny_holding (wpAny_bind (K0.at (wpAny_bind (K1.at ?_))))))))
  show wpAny _ _ (if (onTheHeap (Value.ref D) && Value.builtin "BaseException.__getattribute__" == Value.builtin "object.__getattribute__") = true then _ else _) _ _ ⟨h0, g, d, t + 1, os⟩
  rw [c1, if_neg Bool.false_ne_true]
  unfold getAttrByItsOwn hookBefore
  refine wpAny_bind ?_
  rw [if_pos (show onTheHeap (Value.ref D) = true from rfl)]
  refine K2.at (wpAny_bind (wpAny_attempt (wpAny_holding ?_)))
  unfold callGetattribute
  rw [c0, if_neg Bool.false_ne_true]
  unfold boundAndCalled
  rw [F.excAttr_ValueError.ga.bind (.ref x)]
  refine wpAny_bind (wpAny_pure ?_)
  refine wpAny_call (codeAny_call_builtin F.excAttr_ValueError.ga.plain F.entry_bexc_ga ?_)
  refine @check_slot (model prog w) _ _ ⟨h0, g, d, t + 1, os⟩ "BaseException.__getattribute__" "BaseException" "__getattribute__" (.ref x) [.str "__class__" t] [] _ (by decide +kernel) (by decide +kernel) isB (F.args_bexc_ga (.ref x) (.str "__class__" t)) ?_
  unfold Builtin.«object.__getattribute__»
  refine wpAny_bind (wpAny_of_eq (a := ((Value.ref x : Value), [Value.str "__class__" t])) (by first | rfl | (simp only [slotArgs]; rfl)) ?_)
  refine wpAny_bind (wpAny_pure (wpAny_bind (K0.at (wpAny_bind (K3.at ?_)))))
  refine wpAny_bind (wpAny_holding (wpAny_call (class_get (s := ⟨h0, g, d, t + 1, os⟩) X I T.hm ?_)))
  refine wpAny_pure ?_
  show wpAny _ _ (handedOut (.ref D)) _ _ ⟨h0, g, d, t + 1, os⟩
  rw [handedOut_of (v := .ref D) rfl]
  first
    | exact wpAny_pure (wpAny_pure h)
    | exact wpAny_pure h
    | exact wpAny_pure (wpAny_bind (wpAny_pure (wpAny_pure h)))
theorem xi_kit (T : L2.ExcC K D) : KitX K (.ref x) (.ref D) (fun h => InstAt h x ox D (some od)) where
  ty := fun _ _ _ I => I.type
  it := fun _ _ X _ => by
    obtain ⟨cd, hc, _⟩ := any_some T.hd
    unfold clsIn at hc
    split at hc
    · rename_i ho
      intro A' Q' E' s' k q
      unfold isType loadHead
      exact wpAny_bind (wpAny_loadPart (k _ _ (X _ _ ho)) (wpAny_pure q))
    · cases hc
  ne := fun h tp dd its n sl X htp => Bool.eq_false_iff.mpr fun q => by
    obtain ⟨cd, hc, _⟩ := any_some T.hd
    have e : D = tp := Value.ref.inj (beq_iff_eq.mp q)
    subst e
    unfold clsIn at hc
    split at hc
    · rename_i ho
      cases (X _ _ ho).symm.trans htp
    · cases hc
  ca := fun X I k => xi_class T X I k
end
end PySem.W
namespace Xo
open PySem PySem.Spec PyProof.Rows L2
/-- an exception of the class at C stands at a, its fields fs at d -/
def XAt (H : Hp) (a C d : Addr) (fs : List (Str × V)) : Prop := (H a = some (exo a C (some d)) ∨ H a = some (xob a (.ref C) (some d))) ∧ (H d = some (exd d fs) ∨ H d = some (.xd fs))
section
variable {X : Cx} {pins : List (Addr × Obj)} {σ : L2.St} {H : Hp} {s : Shared} {a C d : Addr} {fs : List (Str × V)}
theorem xat (I : Inv X pins σ H s) (h : XAt H a C d fs) : ∃ o od mA, PySem.W.InstAt s.heap a o C (some od) ∧ s.heap.get? d = some od ∧ s.heap.Ns1 d mA ∧ ∀ f, RelO (fs.lookup f) (mA f) := by
  have e1 : ∃ o vs, s.heap.get? a = some o ∧ Zc (.ref C) (some d) o ∧ o.data = .fields vs := by
    rcases h.1 with e | e
    · obtain ⟨t1, q⟩ := exo_at I.hok e
      exact ⟨_, _, q, ⟨rfl, rfl⟩, rfl⟩
    · have x : ObjOk X.prog X.w H s.heap a (.ext fun h => ∃ o vs, h.get? a = some o ∧ Zc (.ref C) (some d) o ∧ o.data = .fields vs) := I.hok a _ e
      exact x.1
  have e2 : ∃ mA, s.heap.Ns1 d mA ∧ ∀ f, RelO (fs.lookup f) (mA f) := by
    rcases h.2 with e | e
    · exact exd_at I.hok e
    · exact (show ObjOk X.prog X.w H s.heap d (.xd fs) from I.hok d _ e)
  obtain ⟨o, vs, q1, q2, q3⟩ := e1
  obtain ⟨mA, n1, r⟩ := e2
  obtain ⟨od, ho, hl⟩ := lookIn_ns n1
  exact ⟨o, od, mA, ⟨q1, q2.1, by unfold PySem.W.notCls; rw [q3] <;> rfl, by rw [q2.2]; exact ho⟩, ho, n1, r⟩
/-- isinstance(e, c): one class -/
def rIsX (K : PySem.W.Frag) : List V → Hp → VK → Prop := fun xs H Q => ∃ (a C d : Addr) (fs : List (Str × V)) (c : V) (cv : Value) (b : Bool), xs = [.ref a, c] ∧ XAt H a C d fs ∧ ExcC K C ∧ ClsV c cv ∧ PySem.W.kitOne K (.ref C) cv = some b ∧ Q (.bl b) H
theorem call_isX : CallR X (.builtin "isinstance") (rIsX X.K) := by
  intro pins s σ H xs us Q I r h
  obtain ⟨a, C, d, fs, c, cv, b, rfl, xa, T, hc, e, q⟩ := h
  obtain ⟨u1, u2, rfl, r1, r2⟩ := vals2 r
  obtain rfl : u1 = Value.ref a := r1
  obtain ⟨o, od, mA, J, _⟩ := xat I xa
  cases hc.eq r2
  exact PySem.W.kia_one (PySem.W.xi_kit T) I.kIn J e (fun z => nomatch z) fun tk => ⟨.bl b, H, I.tok tk, rfl, q⟩
/-- isinstance(e, (c1, ..)) -/
def rIsXT (K : PySem.W.Frag) : List V → Hp → VK → Prop := fun xs H Q => ∃ (a C d : Addr) (fs : List (Str × V)) (tp : Addr) (cs : List V) (us : List Value) (b : Bool), xs = [.ref a, .ref tp] ∧ XAt H a C d fs ∧ ExcC K C ∧ H tp = some (.tup cs) ∧ Paired ClsV cs us ∧ PySem.W.kitAny K (.ref C) us = some b ∧ Q (.bl b) H
theorem call_isXT : CallR X (.builtin "isinstance") (rIsXT X.K) := by
  intro pins s σ H xs us Q I r h
  obtain ⟨a, C, d, fs, tp, cs, ws, b, rfl, xa, T, hT, k, e, q⟩ := h
  obtain ⟨u1, u2, rfl, r1, r2⟩ := vals2 r
  obtain rfl : u1 = Value.ref a := r1
  obtain rfl : u2 = Value.ref tp := r2
  obtain ⟨o, od, mA, J, _⟩ := xat I xa
  obtain ⟨_, its, rv, ob, h1, h2, n, h3⟩ := (show ObjOk X.prog X.w H s.heap tp (.tup cs) from I.hok tp _ hT)
  cases ClsV.all k rv
  obtain ⟨oc, dct, dt, sl⟩ := ob
  dsimp only at h2 h3
  subst h2 h3
  exact PySem.W.kia_tup (PySem.W.xi_kit T) I.kIn J h1 e (fun z => nomatch z) fun tk => ⟨.bl b, H, I.tok tk, rfl, q⟩
/-- e.f -/
def tXfld (K : PySem.W.Frag) (f : Str) (te : TE) : TE := fun σ H Q => te σ H fun x H1 => ∃ (a C d : Addr) (fs : List (Str × V)) (v : V), x = .ref a ∧ XAt H1 a C d fs ∧ XC K C ∧ PySem.W.findIn K (.ref C) f = some none ∧ fs.lookup f = some v ∧ Q v H1
theorem pe_xfld {e : Expr} {te : TE} {n : Str} {pos : Pos} (he : PE X e te) (hb : attributeBase e n X.env (eval e X.env) = eval e X.env := by rfl) : PE X (.Attribute e n pos) (tXfld X.K n te) := by
  refine ⟨fun pins s σ H Q I h => ?_⟩
  refine attr_of hb (thn (he.run pins s σ H _ I h) fun u s1 ⟨x, H1, I1, rx, a, C, d, fs, v, ex, xa, T, hno, hl, q⟩ => ?_)
  subst ex
  obtain rfl : u = Value.ref a := rx
  obtain ⟨o, od, mA, J, ho, n1, r⟩ := xat I1 xa
  obtain ⟨od', ho', hl'⟩ := lookIn_ns n1
  rw [ho] at ho'
  cases ho'
  obtain ⟨u, hu, ru⟩ := RelO.some_of (v := v) (o := mA n) (by rw [← hl]; exact r n)
  exact HandSPX.exc_get I1.kIn J T.ga T.gg T.exC (PySem.W.findObj_own T.hd hno rfl (by rw [hl', hu])) (handed_of ru) ⟨v, H1, I1.tok _, ru, q⟩
end
end Xo
set_option Elab.async false
set_option linter.all false
set_option maxRecDepth 100000
set_option maxHeartbeats 1000000
/-! Lm: x(lambda: e) and x(lambda n=0: e), the lambda called by x -/
namespace Lm
open PySem PySem.Spec PyProof.Rows L2 LamX
/-- the lambda's function -/
abbrev lmFn (q : Str) (params : Arguments) (body : Expr) (scope : Scope) (cl : List (Str × Addr)) (dV doc pm : Value) (c' : Addr) (ctv : Value) : FuncData := PySem.W.kdv_fn "<lambda>" q params (.expr body) scope cl dV doc pm (.ref c') ctv
/-- what is asked of its names: captured ones, globals, and parameters that the maker's text has no name like -/
structure LmS (N : List Str) (sc scope : Scope) (own : List Str) : Prop where
  kind : scope.kind = .function
  co : scope.isCoroutine = false
  gen : scope.isGenerator = false
  noc : ∀ y ∈ scope.names, y.2 ≠ .cell
  loc : ∀ y ∈ scope.names, y.2 = .local → y.1 ∉ N
  free : ∀ y ∈ scope.names, y.2 = .free → sc.names.lookup y.1 = some .cell ∨ sc.names.lookup y.1 = some .free
  par : ∀ n ∈ own, scope.names.lookup n = some .local
def lmB (N : List Str) (sc scope : Scope) (own : List Str) : Bool :=
  decide (scope.kind = .function) && (!scope.isCoroutine && (!scope.isGenerator && ((scope.names.all fun y => !decide (y.2 = .cell)) && ((scope.names.all fun y => !decide (y.2 = .local) || !decide (y.1 ∈ N)) &&
    ((scope.names.all fun y => !decide (y.2 = .free) || (decide (sc.names.lookup y.1 = some .cell) || decide (sc.names.lookup y.1 = some .free))) && (own.all fun n => decide (scope.names.lookup n = some .local)))))))
theorem lm_by {N : List Str} {sc scope : Scope} {own : List Str} (h : lmB N sc scope own = true) : LmS N sc scope own := by
  unfold lmB at h
  simp only [Bool.and_eq_true, Bool.or_eq_true, Bool.not_eq_true', decide_eq_true_eq, decide_eq_false_iff_not, List.all_eq_true] at h
  obtain ⟨h1, h2, h3, h4, h5, h6, h7⟩ := h
  exact ⟨h1, h2, h3, h4, fun y hy e => (h5 y hy).elim (fun z => absurd e z) id, fun y hy e => (h6 y hy).elim (fun z => absurd e z) id, h7⟩
section
variable {X : Cx} {pins : List (Addr × Obj)} {σ : L2.St} {H : Hp} {s : Shared}
theorem LmS.has {scope : Scope} {own : List Str} (L : LmS X.N X.env.scope scope own) (ok : X.Ok) : ∀ y ∈ scope.names, y.2 = .free → ∃ c, X.env.cells.lookup y.1 = some c := fun y hy e =>
  (L.free y hy e).elim (fun k => ok.has _ (.inl k)) fun k => ok.has _ (.inr k)
/-- behind the defaults -/
theorem lm_tail {T : List (Addr × Str)} {c P : Addr} {params : Arguments} {body : Expr} {scope : Scope} {dV : Value} {pos : Pos} {E : Value → Shared → Prop} {Q : Value → Shared → Prop} (I : Inv X pins σ H s) (TB : TabB X.base X.mg c P) (hcode : X.env.code = .ref c)
    (hm : (P, X.env.qual ++ "<lambda>") ∈ T) (hu : ∀ p ∈ T, p.1 = P → p.2 = X.env.qual ++ "<lambda>") (hT : Tabs T H) (hfree : ∀ y ∈ scope.names, y.2 = .free → ∃ c, X.env.cells.lookup y.1 = some c)
    (h : ∀ (f c' : Addr) (doc pm ctv : Value) (H1 : Hp) (s' : Shared), Inv X pins σ H1 s' → ExtN H H1 → Tabs T H1 → (∀ b o, s.heap.get? b = some o → H b = none → s'.heap.get? b = some o ∧ H1 b = none) →
      s'.heap.get? f = some { cls := .type "function", data := .func (lmFn (X.env.qual ++ "<lambda>") params body scope (cloFrom X.env.cells scope.names []) dV doc pm c' ctv) } → H1 f = none → f ∉ frs X.stack → H1 c' = some (CodeO c' (X.env.qual ++ "<lambda>")) → Q (.ref f) s') :
    wpAny (model X.prog X.w) X.A (makeTail "<lambda>" (X.env.qual ++ "<lambda>") params (.expr body) scope X.env dV .none none pos pos.line) Q E s := by
  obtain ⟨ps, hP, ht, ha⟩ := hT _ hm
  have bP : s.heap.BuiltinsAt X.mg P := TB.bm.keeps I.bk
  have oP : s.heap.get? P = some { cls := .none, data := .fields ps } := I.hok P _ hP
  have out : ∀ f, s.heap.objs.size ≤ f → f ∉ frs X.stack := fun f hf z => by
    rcases List.mem_cons.mp (I.stkSub _ z) with e | e
    · have := I.lt
      rw [← e] at this
      exact Nat.lt_irrefl _ (Nat.lt_of_lt_of_le this hf)
    · exact I.nofs hf e
  cases hc : codeAmong pos ps.toList with
  | none =>
    refine PySem.W.kdv_makeTail (mg := X.mg) (c := c) (P := P) (ps := ps) (closure_ok hfree) I.ok.glob (I.mod.glob.keeps I.bk) hcode (TB.code.keeps I.bk) oP ht hc TB.gP bP fun c' ctv doc h1 tk hx hge hlt hrec htb => ?_
    obtain ⟨c2, oc, vs, t, e2, hoc, hd, hv⟩ := hrec
    cases e2
    have hz : s.heap.objs.size ≤ h1.objs.size := Nat.le_trans hge (Nat.le_of_lt hlt)
    have nC : H c' = none := I.hok.fresh hge
    have I1 := inv_table (t' := tk) (more := #[rawInt pos.line, rawInt pos.col, .ref c'])
      (h' := h1.push { cls := .type "function", data := .func (lmFn (X.env.qual ++ "<lambda>") params body scope (cloFrom X.env.cells scope.names []) dV doc ((X.mg "__name__").getD .none) c' ctv) }) I hP
      (fun b o hb e => Heap.get?_push_of_some _ (hx b o hb e)) (Heap.get?_push_of_some _ htb) hge ⟨oc, vs, t, Heap.get?_push_of_some _ hoc, hd, hv⟩
    have nPb : ∀ b, H b = none → b ≠ P := fun b e z => by
      rw [z, hP] at e
      cases e
    have eN : ExtN H (upd (upd H P (.tbl (ps ++ #[rawInt pos.line, rawInt pos.col, .ref c']))) c' (CodeO c' (X.env.qual ++ "<lambda>"))) := fun b o e n => by
      rw [upd_ne (ne_of_none e nC), upd_ne (fun z => n ps (Option.some.inj (e.symm.trans (by rw [z]; exact hP))))]
      exact e
    have eL : (ps ++ #[rawInt pos.line, rawInt pos.col, .ref c']).toList = ps.toList ++ [rawInt pos.line, rawInt pos.col, .ref c'] := by simp
    refine h h1.objs.size c' doc ((X.mg "__name__").getD .none) ctv _ _ I1 eN (fun p hp => ?_) (fun b o e n => ⟨Heap.get?_push_of_some _ (hx b o (nPb b n) e), ?_⟩) (Heap.get?_push_size _ rfl) ?_ (out _ hz) upd_same
    · by_cases hb : p.1 = P
      · rw [hu p hp hb, hb]
        refine ⟨_, by rw [upd_ne (ne_of_none hP nC), upd_same], by rw [eL]; exact PySem.TriplesOk_snoc _ _ _ _ ht, fun p' cv hcv => ?_⟩
        rw [eL] at hcv
        rcases among_app _ ht hcv with z | z
        · obtain ⟨c0, e1, e2⟩ := ha p' cv z
          exact ⟨c0, e1, eN _ _ e2 codeO_ne⟩
        · exact ⟨c', z, upd_same⟩
      · obtain ⟨ps', a1, a2, a3⟩ := hT p hp
        refine ⟨ps', by rw [upd_ne (ne_of_none a1 nC), upd_ne hb]; exact a1, a2, fun p' cv hcv => ?_⟩
        obtain ⟨c0, e1, e2⟩ := a3 p' cv hcv
        exact ⟨c0, e1, eN _ _ e2 codeO_ne⟩
    · rw [upd_ne (fun z => Nat.lt_irrefl _ (Nat.lt_of_lt_of_le (Heap.lt_size e) (by rw [z]; exact hge))), upd_ne (nPb b n)]
      exact n
    · rw [upd_ne (Nat.ne_of_gt hlt), upd_ne (Nat.ne_of_gt (Nat.lt_of_lt_of_le (Heap.lt_size oP) hz))]
      exact I.hok.fresh hz
  | some cv =>
    obtain ⟨c', e, hco⟩ := ha pos cv hc
    subst e
    refine PySem.W.kdv_makeTailHit (mg := X.mg) (c := c) (P := P) (ps := ps) (closure_ok hfree) I.ok.glob (I.mod.glob.keeps I.bk) hcode (TB.code.keeps I.bk) oP ht hc bP fun ctv doc h1 tk hx hz => ?_
    have I1 : Inv X pins σ H { s with heap := h1.push { cls := .type "function", data := .func (lmFn (X.env.qual ++ "<lambda>") params body scope (cloFrom X.env.cells scope.names []) dV doc ((X.mg "__name__").getD .none) c' ctv) }, toks := tk } :=
      I.kept fun b o e => Heap.get?_push_of_some _ (hx b o e)
    exact h h1.objs.size c' doc ((X.mg "__name__").getD .none) ctv H _ I1 (ExtN.refl H) hT (fun b o e n => ⟨Heap.get?_push_of_some _ (hx b o e), n⟩) (Heap.get?_push_size _ rfl) (I.hok.fresh hz) (out _ hz) hco
/-- a lambda stands at f, called without arguments it binds bs -/
def LamAt (h : Heap) (H : Hp) (fr : List Addr) (f : Addr) (FD : FuncData) (bs : List (Str × Value)) : Prop :=
  h.get? f = some { cls := .type "function", data := .func FD } ∧ H f = none ∧ f ∉ fr ∧ ∀ s2 : Shared, (∀ b o, h.get? b = some o → H b = none → b ∉ fr → s2.heap.get? b = some o) → BindsTo s2 FD ⟨[], []⟩ bs
/-- what the making leaves -/
def Made (X : Cx) (pins : List (Addr × Obj)) (σ : L2.St) (H : Hp) (T : List (Addr × Str)) (params : Arguments) (body : Expr) (scope : Scope) (own : List Str) (Q : Value → Shared → Prop) : Prop :=
  ∀ (f c' : Addr) (dV doc pm ctv : Value) (bs : List (Str × Value)) (H1 : Hp) (s' : Shared), Inv X pins σ H1 s' → ExtN H H1 → Tabs T H1 → bs.map (·.1) = own →
    LamAt s'.heap H1 (frs X.stack) f (lmFn (X.env.qual ++ "<lambda>") params body scope (cloFrom X.env.cells scope.names []) dV doc pm c' ctv) bs → H1 c' = some (CodeO c' (X.env.qual ++ "<lambda>")) → Q (.ref f) s'
theorem lm_make0 {T : List (Addr × Str)} {c P : Addr} {params : Arguments} {body : Expr} {scope : Scope} {pos : Pos} {E : Value → Shared → Prop} {Q : Value → Shared → Prop} (I : Inv X pins σ H s) (TB : TabB X.base X.mg c P) (hcode : X.env.code = .ref c)
    (hm : (P, X.env.qual ++ "<lambda>") ∈ T) (hu : ∀ p ∈ T, p.1 = P → p.2 = X.env.qual ++ "<lambda>") (hT : Tabs T H) (L : LmS X.N X.env.scope scope []) (hdef : defaultsOf params X.env = ([], []))
    (hbind : ∀ (q : Str) (cl : List (Str × Addr)) (doc pm ctv : Value) (c' : Addr), bindArgs (lmFn q params body scope cl .none doc pm c' ctv) ⟨[], []⟩ = pure []) (h : Made X pins σ H T params body scope [] Q) :
    wpAny (model X.prog X.w) X.A (eval (.Lambda params body scope pos) X.env) Q E s := by
  refine PySem.W.kla_eval hdef ?_
  rw [makeFunction_eq]
  simp only [List.zip_nil_right, List.filterMap_nil, List.isEmpty_nil, if_true, pure_bind]
  exact lm_tail I TB hcode hm hu hT (L.has I.ok) fun f c' doc pm ctv H1 s' I1 eN T1 kp hf hfn hfr hco => h f c' .none doc pm ctv [] H1 s' I1 eN T1 rfl ⟨hf, hfn, hfr, fun s2 _ => .of_eq (hbind _ _ _ _ _ _)⟩ hco
theorem lm_make1 {T : List (Addr × Str)} {c P : Addr} {params : Arguments} {body : Expr} {scope : Scope} {pos pd : Pos} {E : Value → Shared → Prop} {Q : Value → Shared → Prop} {n : Str} {z : Int} {kd : Nat} (I : Inv X pins σ H s) (TB : TabB X.base X.mg c P) (hcode : X.env.code = .ref c)
    (hm : (P, X.env.qual ++ "<lambda>") ∈ T) (hu : ∀ p ∈ T, p.1 = P → p.2 = X.env.qual ++ "<lambda>") (hT : Tabs T H) (L : LmS X.N X.env.scope scope [n]) (hd : params.defaults = [.Constant (.int z) kd pd]) (hk0 : params.kw_defaults = [])
    (hbind : ∀ (q : Str) (cl : List (Str × Addr)) (dV doc pm ctv u : Value) (c' : Addr), ∃ k : Option (Array Value) → Sem (List (Str × Value)), bindArgs (lmFn q params body scope cl dV doc pm c' ctv) ⟨[], []⟩ = seqItems? dV >>= k ∧ k (some [u].toArray) = pure [(n, u)])
    (h : Made X pins σ H T params body scope [n] Q) : wpAny (model X.prog X.w) X.A (eval (.Lambda params body scope pos) X.env) Q E s := by
  refine PySem.W.kdv_lam (by rw [hd]; rfl) hk0 ?_
  rw [hd]
  refine PySem.W.kdv_all1 (thn ((show PE X (.Constant (.int z) kd pd) (tC (.int z)) from pe_int).run pins s σ H (fun v H1 => v = .int z ∧ H1 = H) I ⟨rfl, rfl⟩) fun u s1 ⟨v, H1, I1, r1, q1⟩ => PySem.W.kdv_all0 ?_)
  obtain ⟨ev, eH⟩ := q1
  subst ev eH
  rw [makeFunction_eq]
  simp only [List.zip_nil_right, List.filterMap_nil, List.isEmpty_nil, if_true, pure_bind, List.isEmpty_cons, Bool.false_eq_true, if_false]
  refine wpAny_bind (wpAny_newTextTuple ?_)
  have I2 : Inv X pins σ H1 { s1 with heap := s1.heap.push (PySem.W.kdv_tup [u]) } := I1.kept (t' := s1.toks) fun b o e => Heap.get?_push_of_some _ e
  have ot : (s1.heap.push (PySem.W.kdv_tup [u])).get? s1.heap.objs.size = some (PySem.W.kdv_tup [u]) := Heap.get?_push_size _ rfl
  have nt : H1 s1.heap.objs.size = none := I1.hok.fresh (Nat.le_refl _)
  have tf : s1.heap.objs.size ∉ frs X.stack := fun hz => by
    rcases List.mem_cons.mp (I1.stkSub _ hz) with e | e
    · exact absurd I1.lt (by rw [← e]; exact Nat.lt_irrefl _)
    · exact I1.nofs (Nat.le_refl _) e
  refine lm_tail I2 TB hcode hm hu hT (L.has I.ok) fun f c' doc pm ctv H2 s' I3 eN T1 kp hf hfn hfr hco => h f c' (.ref s1.heap.objs.size) doc pm ctv [(n, u)] H2 s' I3 eN T1 rfl ⟨hf, hfn, hfr, fun s2 k2 => ?_⟩ hco
  obtain ⟨q1, q2⟩ := kp _ _ ot nt
  obtain ⟨k, e1, e2⟩ := hbind (X.env.qual ++ "<lambda>") (cloFrom X.env.cells scope.names []) (.ref s1.heap.objs.size) doc pm ctv u c'
  exact BindsTo.of_defaults rfl (k2 _ _ q1 q2 tf) rfl e1 e2
end
section
variable {X : Cx} {pins : List (Addr × Obj)} {σ : L2.St} {H HZ : Hp} {s s1 : Shared}
/-- the lambda's body begins: the maker's names are seen through their cells -/
theorem lm_start {A : Around} {outer : List Env} {E : XK} {scope : Scope} {own : List Str} {f c' : Addr} {g1 : Heap} {tk : Nat} {bs : List (Str × Value)} (I : Inv X pins σ H s) (L : LmS X.N X.env.scope scope own) (e0 : Env0 X.prog X.w X.K X.mg X.base A outer s1 HZ) (hd : A.handled = none)
    (un : Un (frs X.stack) [] H HZ s.heap s1.heap) (hns : g1.Ns s1.heap.objs.size fun y => bs.reverse.lookup y) (kp : ∀ b o, s1.heap.get? b = some o → g1.get? b = some o) : Inv (lamCx X A outer s1 HZ E scope f c') [] σ HZ { s1 with heap := g1, toks := tk } := by
  have fr := L.has I.ok
  have back : ∀ {y c}, (cloFrom X.env.cells scope.names []).lookup y = some c → X.env.cells.lookup y = some c := fun {y c} e => by
    rcases cloFrom_mem (PySem.mem_of_lookup e) with z | ⟨z1, z2⟩
    · cases z
    · obtain ⟨c1, q⟩ := fr _ z1 rfl
      have q : X.env.cells.lookup y = some c1 := q
      rw [q] at z2
      have z2 : c = c1 := z2
      rw [z2]
      exact q
  have seen : ∀ {y}, scope.names.lookup y = some .free → ∃ c, (cloFrom X.env.cells scope.names []).lookup y = some c := fun {y} e => by
    have e : (y, NameKind.free) ∈ scope.names := PySem.mem_of_lookup e
    exact mem_lookup (cloFrom_has (cells := X.env.cells) (acc := []) e)
  have cells : ∀ {c : Addr} {v : Option Value}, H c = none → s.heap.IsCell c v → g1.IsCell c v := fun {c v} n ⟨o, e1, e2⟩ => by
    obtain ⟨sl, q⟩ := un.any e1 n (by simp)
    exact ⟨_, kp _ _ q, e2⟩
  have ex0 : ∀ b : Addr, b ∉ (lamCx X A outer s1 HZ E scope f c').ex := fun b z => nomatch (show b ∈ ([] : List Addr) from z)
  refine ⟨⟨e0.mod, L.kind, rfl, rfl, Nat.le_refl _, fun y z c e1 e2 => I.ok.inj y z c (back e1) (back e2), fun y hy => ?_, fun y c z _ => ?_, fun _ => hd, Around.frames_deeper e0.frames, .inr ⟨rfl, rfl⟩, fun b z => absurd z (ex0 b), e0.bs, e0.bsz,
      fun b _ _ => ex0 b, fun b z => absurd z (ex0 b), e0.funs, e0.frf⟩,
    rfl, e0.bare, Un.kept kp, ⟨_, hns, fun i y v e1 e2 e3 => ?_⟩, fun y c e => ?_, e0.hok.fresh (Nat.le_refl _), fun y c e => ?_, fun q hq => (nomatch (show q ∈ ([] : List (Addr × Obj)) ++ [] from hq)), e0.hok.kept kp, I.len⟩
  · have hy : scope.names.lookup y = some .cell ∨ scope.names.lookup y = some .free := hy
    rcases hy with hy | hy
    · exact absurd rfl (L.noc _ (PySem.mem_of_lookup hy))
    · exact seen hy
  · exact Bool.noConfusion (show false = true from z)
  · have e3 : Vis scope y := e3
    rcases e3 with k | k | k
    · exact absurd (List.mem_of_getElem? e1) (L.loc _ (PySem.mem_of_lookup k) rfl)
    · exact absurd rfl (L.noc _ (PySem.mem_of_lookup k))
    · obtain ⟨m, hn, hl⟩ := I.loc
      have vis : Vis X.env.scope y := (L.free _ (PySem.mem_of_lookup k) rfl).elim (fun k => .inr (.inl k)) fun k => .inr (.inr k)
      obtain ⟨u, r, q⟩ := hl i y v e1 e2 vis
      obtain ⟨c2, h2⟩ := seen k
      refine ⟨u, r, .inr ⟨.inr k, c2, h2, ?_⟩⟩
      rcases q with ⟨k1, _⟩ | ⟨_, c3, e4, z⟩
      · have k1 : X.env.scope.names.lookup y = some .local := k1
        rcases L.free _ (PySem.mem_of_lookup k) rfl with k2 | k2
        · have k2 : X.env.scope.names.lookup y = some .cell := k2
          rw [k2] at k1
          cases k1
        · have k2 : X.env.scope.names.lookup y = some .free := k2
          rw [k2] at k1
          cases k1
      · rw [back h2] at e4
        cases e4
        exact cells (I.freeC y _ (back h2)) z
  · obtain ⟨v, z⟩ := I.cell y c (back e)
    exact ⟨v, cells (I.freeC y c (back e)) z⟩
  · obtain ⟨v, o, e1, e2⟩ := I.cell y c (back e)
    exact un.free c o e1 (I.freeC y c (back e)) (by simp)
/-- the callee's context: entered at s from X -/
abbrev gCx (X : Cx) (Ng : List Str) (x : Str) (sg : Scope) (g : Addr) (cdg : Value) (s : Shared) (H : Hp) : Cx := cxOf C8.CX0 X.prog X.w X.K X.mg X.base Ng x sg g cdg X.A X.stack s H C8.E0
/-- a(), in the def that got the lambda -/
theorem pe_actD {Ng : List Str} {x a : Str} {sg : Scope} {g f c' : Addr} {cdg dV doc pm ctv : Value} {params : Arguments} {body : Expr} {scope : Scope} {own : List Str} {bs : List (Str × Value)} {k i : Nat} {pn : List (Addr × Obj)} {xe : Value → Shared → Prop} {W : WX} {E : XK} {tb : TE} {p1 p2 : Pos}
    (I : Inv X pins σ H s) (L : LmS X.N X.env.scope scope own) (ho : bs.map (·.1) = own) (la : LamAt s.heap H (frs X.stack) f (lmFn (X.env.qual ++ "<lambda>") params body scope (cloFrom X.env.cells scope.names []) dV doc pm c' ctv) bs)
    (tk : Takes ((gCx X Ng x sg g cdg s H).tr pn xe) W) (hr : Room (k + 1) (X.A.deeper (envOfC x sg s.heap.objs.size g cdg)))
    (hbody : ∀ (A : Around) (outer : List Env) (s : Shared) (H : Hp), Room k (A.deeper (lamEnv X scope s.heap.objs.size f c')) → PE (lamCx X A outer s H E scope f c') body tb)
    (hN : Ng[i]? = some a) (hv : Vis sg a) (hd : (a == ("__debug__" : Str)) = false := by decide) (hcd : (a == ("__classdict__" : Str)) = false := by decide) :
    PE ((gCx X Ng x sg g cdg s H).tr pn xe) (.Call (.Name a p1) [] [] p2) (fun σZ HZ Q => σZ[i]? = some (some (.ref f)) ∧ HZ c' = some (CodeO c' (X.env.qual ++ "<lambda>")) ∧ (∀ cls d H', E cls d H' → W cls d σZ H') ∧ tb σ HZ Q) := by
  refine ⟨fun pinsZ sZ σZ HZ Q IZ h => ?_⟩
  obtain ⟨hs, hc, hW, ht⟩ := h
  obtain ⟨hf, hfn, hfr, hbi⟩ := la
  refine wpAny_Call_Name_kw (thn ((pe_var (pos := p1) (i := i) hN hv hd hcd).run pinsZ sZ σZ HZ (fun v H1 => v = .ref f ∧ H1 = HZ) IZ ⟨.ref f, hs, rfl, rfl⟩) fun u s1 ⟨v, H1, I1, r1, q1⟩ => ?_)
  obtain ⟨ev, eH⟩ := q1
  subst ev eH
  obtain rfl : u = Value.ref f := r1
  have kept : ∀ b o, s.heap.get? b = some o → H b = none → b ∉ frs X.stack → s1.heap.get? b = some o := fun b o e n nf => I1.base.keep b o e n nf (fun z => nomatch (show b ∈ ([] : List Addr) from z))
  have of1 := kept f _ hf hfn hfr
  refine PySem.W.callWith_F0 ⟨_, _, _, _, of1⟩ ?_
  have un : Un (frs X.stack) [] H H1 s.heap s1.heap := I1.base
  obtain ⟨⟨oc, vs, t, hoc, hdc, hvc⟩, _, _⟩ := I1.hok c' _ hc
  have rc : codeAny (model X.prog X.w) (X.A.deeper (envOfC x sg s.heap.objs.size g cdg)) (.call (.ref f) ⟨[], []⟩) (CR (L2.CX X.prog X.w) (envOfC x sg s.heap.objs.size g cdg :: X.stack) X.prog X.w H1 s1 Q E) s1 := by
    refine PySem.W.kla_callFunE hr.depth of1 rfl L.co L.gen rfl ⟨c', oc, vs, t, rfl, hoc, hdc, hvc⟩ ?_
    refine hbi s1 kept _ _ _ _ (wpAny_newFunctionEnv L.noc (fun y hy => L.par _ (by rw [← ho]; exact List.mem_map_of_mem hy)) (fun g1 hns hsb => ⟨I1.nolimit.fresh _ hsb, ?_⟩) L.kind)
    show codeAny _ _ (.expr body (lamEnv X scope s1.heap.objs.size f c')) _ _
    have kp : ∀ b o, s1.heap.get? b = some o → g1.get? b = some o := fun b o e => hsb.extBut b o (Nat.ne_of_lt (Heap.lt_size e)) (Heap.get?_push_of_some _ e)
    have J := lm_start (A := X.A.deeper (envOfC x sg s.heap.objs.size g cdg)) (outer := envOfC x sg s.heap.objs.size g cdg :: X.stack) (E := E) (f := f) (c' := c') (tk := s1.toks + bs.length) I L I1.env0 hr.hd un hns kp
    refine PySem.W.kla_codeExpr (wpAny_mono ((hbody _ _ s1 H1 (hr.deeper _)).run [] _ _ H1 Q J ht) (fun v s' hq => ?_) fun e s' hq => hq)
    obtain ⟨w', H', J', rv, q⟩ := hq
    exact ⟨w', H', J'.os, J'.bare, J'.base, J'.hok, rv, q⟩
  refine wpAny_call (codeAny_mono rc fun r s' hq => ?_)
  cases r with
  | error e => exact tk e s' (XE.of_call I1 hW hq)
  | ok fl =>
    cases fl with
    | ret u => exact I1.after hq
    | next => exact False.elim hq
    | brk => exact False.elim hq
    | cont => exact False.elim hq
end
/-- the def that calls what it got: a calls it, W the wish of its place; TT: what it makes of the lambda's reading -/
def Gives (X : Cx) (Ng : List Str) (x : Str) (sg : Scope) (g : Addr) (cdg : Value) (bg : List Stmt) (a : Str) (q : Str) (TT : (XK → Hp → VK → Prop) → Hp → VK → Prop) : Prop :=
  ∀ (f c' : Addr) (s : Shared) (H : Hp) (Q : VK) (tl : XK → Hp → VK → Prop),
    (∀ (W : WX) (pn : List (Addr × Obj)) (xe : Value → Shared → Prop) (E : XK) (p1 p2 : Pos), Takes ((gCx X Ng x sg g cdg s H).tr pn xe) W →
      PE ((gCx X Ng x sg g cdg s H).tr pn xe) (.Call (.Name a p1) [] [] p2) (fun σZ HZ Q => σZ[0]? = some (some (.ref f)) ∧ HZ c' = some (CodeO c' q) ∧ (∀ cls d H', E cls d H' → W cls d σZ H') ∧ tl E HZ Q)) →
    H c' = some (CodeO c' q) → TT tl H Q → ∃ t, PSs (gCx X Ng x sg g cdg s H).nox bg t ∧ t { nx := fun _ H' => Q .non H', rt := Q } (L2.start Ng [.ref f]) H
/-- the lambda expression, made -/
def LamPE (X : Cx) (T : List (Addr × Str)) (params : Arguments) (body : Expr) (scope : Scope) (own : List Str) (lpos : Pos) : Prop :=
  ∀ (pins : List (Addr × Obj)) (σ : L2.St) (H : Hp) (s : Shared) (E Q : Value → Shared → Prop), Inv X pins σ H s → Tabs T H → Made X pins σ H T params body scope own (Q) → wpAny (model X.prog X.w) X.A (eval (.Lambda params body scope lpos) X.env) Q E s
section
variable {X : Cx}
/-- x(lambda ..: body) -/
theorem pe_lamD {T : List (Addr × Str)} {TT : (XK → Hp → VK → Prop) → Hp → VK → Prop} {x a : Str} {g : Addr} {k : Nat} {pg : Arguments} {bg : List Stmt} {sg : Scope} {dV kV doc pm cdv ct oc : Value} {an od : Option Addr} {osl : Array (Option Value)} {Ng : List Str}
    {params : Arguments} {body : Expr} {scope : Scope} {own : List Str} {t : XK → TE} {p lpos pos : Pos} (hg : Gl X x) (hm : X.mg x = some (.ref g)) (hk : PySem.W.keepIn X.K (.ref g) = true)
    (lk : X.K.lookup g = some ⟨oc, od, .func (PySem.W.fnOf x x pg bg sg dV kV doc pm an cdv ct), osl⟩) (hcg : PySem.W.codeIn X.K cdv x = true) (hb : L2.Binds X.K (PySem.W.fnOf x x pg bg sg dV kV doc pm an cdv ct) [a] []) (Sg : FnScope Ng [a] sg) (hNg : Ng[0]? = some a) (hva : Vis sg a)
    (hG : Gives X Ng x sg g cdv bg a (X.env.qual ++ "<lambda>") TT) (hr : Room (k + 2) X.A) (L : LmS X.N X.env.scope scope own) (hmk : LamPE X T params body scope own lpos)
    (hbody : ∀ (A : Around) (outer : List Env) (s : Shared) (H : Hp) (E : XK) (f c' : Addr), Room k (A.deeper (lamEnv X scope s.heap.objs.size f c')) → PE (lamCx X A outer s H E scope f c') body (t E))
    (hdb : (x == ("__debug__" : Str)) = false := by decide) (hd : (a == ("__debug__" : Str)) = false := by decide) (hcd : (a == ("__classdict__" : Str)) = false := by decide) :
    PE X (.Call (.Name x p) [.Lambda params body scope lpos] [] pos) (tLam T TT t) := by
  refine ⟨fun pins s σ H Q I h => ?_⟩
  obtain ⟨hT, h⟩ := h
  refine wpAny_Call_Name_kw (ld_glob I hg hm ?_ hdb)
  refine PySem.W.callWith_K (h₀ := X.base) I.ok.mod.kin hk ?_ (by rfl) (by rfl)
  show wpAny _ _ (spliced ((false, eval (.Lambda params body scope lpos) X.env) :: backTo pos (starEach [] X.env))) _ _ s
  refine Calls.spliced_cons (hmk pins σ H s _ _ I hT fun f c' dV' doc' pm' ctv bs H1 s' I1 eN T1 ho la hco => ?_)
  refine Calls.spliced_nil ⟨I1.kIn, ?_⟩
  have rc : codeAny (model X.prog X.w) X.A (.call (.ref g) ⟨[.ref f], []⟩) (CR C8.CX0 X.stack X.prog X.w H1 s' Q C8.E0) s' := by
    refine run_ofS (N := Ng) (ps := [a]) (us := [.ref f]) (vs := [.ref f]) lk hcg Sg hr I1.env0 (hb s' [.ref f] I1.kIn rfl) (.cons rfl .nil) rfl fun hr2 => ?_
    obtain ⟨t', ht', hq'⟩ := hG f c' s' H1 Q (fun E H' Q' => t E σ H' Q') (fun W pn xe E p1 p2 tk => pe_actD (i := 0) I1 L ho la tk hr2 (fun A outer s H hr3 => hbody A outer s H E f c' hr3) hNg hva hd hcd) hco (h H1 eN T1)
    exact ⟨t', ht'.nox, hq'⟩
  refine wpAny_call (codeAny_mono rc fun r s2 hq => ?_)
  cases r with
  | error e => exact (show False from hq).elim
  | ok fl =>
    cases fl with
    | ret u => exact I1.after hq
    | next => exact False.elim hq
    | brk => exact False.elim hq
    | cont => exact False.elim hq
end
end Lm
set_option Elab.async false
set_option linter.all false
set_option maxRecDepth 100000
set_option maxHeartbeats 1000000
/-! Sd: xs.count(y) of flat things; the def that asks a deed for its answer or its error -/
namespace Sd
open PySem PySem.Spec PyProof.Rows L2 LamX Xo
section
variable {X : Cx}
theorem count_eq {y : V} : ∀ {ys : List V} {its : List Value}, Vals ys its → ys.all flatV = true → its.countP (eqU y) = ys.countP fun z => eqV z y
  | [], _, .nil, _ => rfl
  | z :: ys, _ :: _, .cons r rr, f => by
    rw [List.all_cons, Bool.and_eq_true] at f
    rw [List.countP_cons, List.countP_cons, count_eq rr f.2, eqU_of r f.1]
def rCountF (K : PySem.W.Frag) : V → List V → Hp → VK → Prop := fun x xs H Q => ∃ (a : Addr) (ys : List V) (y : V), x = V.ref a ∧ xs = [y] ∧ SqL K H a ys ∧ flatV y = true ∧ ys.all flatV = true ∧ Q (.int ((ys.countP fun z => eqV z y) : Nat)) H
theorem mt_countF : MtR X "list.count" (rCountF X.K) := by
  intro pins s σ H x xs v us Q I rx rxs h
  obtain ⟨a, ys, y, rfl, rfl, hs, fy, fys, q⟩ := h
  cases rx
  obtain ⟨uy, rfl, ry⟩ := rxs.one
  obtain ⟨its, rv, ⟨⟨cls, dd, data, sl⟩, n, ho, hc, hdn, hd⟩, hlen⟩ := I.list hs
  dsimp only at hc hd
  subst hc hd
  refine call_meets F.slot_list_count ⟨_, ho, rfl⟩ F.entry_list_count (F.args_list_count_2 _ _) (SeqAt.list_countAt a its.toArray n dd sl uy (eqU y)) ⟨ho, fun u hu => mem_eqAt ry fy rv fys u (by simpa using hu), ?_⟩
  refine ⟨.int ((ys.countP fun z => eqV z y) : Nat), H, I.tok _, ⟨s.toks, ?_⟩, q⟩
  show Value.int ((its.toArray.toList.countP (eqU y) : Nat) : Int) s.toks = _
  rw [show its.toArray.toList.countP (eqU y) = ys.countP fun z => eqV z y from count_eq rv fys]
end
end Sd
set_option Elab.async false
set_option linter.all false
set_option maxRecDepth 100000
set_option maxHeartbeats 1000000
/-! Gd: defs that are run where no repr is under way; repr of data; the law's start told so -/
namespace Gd
open PySem PySem.Spec PyProof.Rows L2 LamX
/-! ### the start of a law -/
section
variable {P : Program} {w : World} {K : PySem.W.Frag} {mg mb : Str → Option Value} {CX : CXT} {fa a : Addr} {cs : List (Addr × Addr)} {s1 : Shared} {vs : List Value} {ns : List Int}
/-- the tracked addresses at the start, and what they hold -/
structure Begin (P : Program) (w : World) (K : PySem.W.Frag) (cs : List (Addr × Addr)) (a : Addr) (ns : List Int) (h : Heap) (tr : List Addr) (H : Hp) : Prop where
  out : ∀ b, b ∉ tr → H b = none
  inn : ∀ b, b ∈ tr → K.lookup b = none ∧ ∃ o, h.get? b = some o ∧ ((∃ vs n, o.data = .seq vs n) ∨ o.data = .fields #[])
  tab : ∀ p ∈ cs, p.2 ∈ tr ∧ H p.2 = some (.tbl #[])
  row : SqL K H a (ns.map V.int)
  two : ∀ b, b ∈ tr → (∃ p ∈ cs, p.2 = b) ∨ ((¬ ∃ p ∈ cs, p.2 = b) ∧ ∃ o u, H b = some (.frz o u))
  hok : HOk P w H h
theorem begins (ka : K.In s1.heap) (tabs : ∀ p ∈ cs, s1.heap.get? p.2 = some { cls := .none, data := .fields #[] }) (ntK : ∀ p ∈ cs, K.lookup p.2 = none) (ha : s1.heap.get? a = some { cls := .type "list", data := .seq vs.toArray }) (hi : IntsAre vs ns) (hl : ns.length ≤ sizeLine) :
    ∃ tr H, Begin P w K cs a ns s1.heap tr H := by
  have rv := vals_ints hi
  have aT : ¬ ∃ p ∈ cs, p.2 = a := fun ⟨p, hp, e⟩ => by
    have q := tabs p hp
    rw [e, ha] at q
    have z := congrArg Obj.data (Option.some.inj q)
    cases z
  have mT : ∀ {b}, b ∈ cs.map (·.2) → ∃ p ∈ cs, p.2 = b := fun {b} hb => List.mem_map.mp hb
  have tM : ∀ p ∈ cs, p.2 ∈ cs.map (·.2) := fun p hp => List.mem_map.mpr ⟨p, hp, rfl⟩
  have tO : ∀ b, b ∈ cs.map (·.2) → K.lookup b = none ∧ ∃ o, s1.heap.get? b = some o ∧ ((∃ vs n, o.data = .seq vs n) ∨ o.data = .fields #[]) := fun b hb => by
    obtain ⟨p, hp, rfl⟩ := mT hb
    exact ⟨ntK p hp, _, tabs p hp, .inr rfl⟩
  cases hk : K.lookup a with
  | some o =>
    have e := ka a o hk
    rw [ha] at e
    cases e
    refine ⟨cs.map (·.2), fun b => if b ∈ cs.map (·.2) then some (.tbl #[]) else none, fun b hb => if_neg hb, tO, fun p hp => ⟨tM p hp, if_pos (tM p hp)⟩,
      .inr ⟨_, vs.toArray, _, hk, rfl, rfl, rfl, by rw [List.size_toArray, hi.length]; exact hl, by simpa using rv⟩, fun b hb => .inl (mT hb), fun b u z => ?_⟩
    by_cases hb : b ∈ cs.map (·.2)
    · have z := (if_pos hb).symm.trans z
      cases z
      obtain ⟨p, hp, rfl⟩ := mT hb
      exact tabs p hp
    · have z := (if_neg hb).symm.trans z
      cases z
  | none =>
    have na : a ∉ cs.map (·.2) := fun z => aT (mT z)
    refine ⟨a :: cs.map (·.2), fun b => if b = a then some (.frz { cls := .type "list", data := .seq vs.toArray } (.lst (ns.map V.int))) else if b ∈ cs.map (·.2) then some (.tbl #[]) else none, fun b hb => ?_, fun b hb => ?_, fun p hp => ?_,
      .inl (.inr ⟨{ cls := .type "list", data := .seq vs.toArray }, if_pos rfl⟩), fun b hb => ?_, fun b u z => ?_⟩
    · rw [List.mem_cons] at hb
      exact (if_neg fun z => hb (.inl z)).trans (if_neg fun z => hb (.inr z))
    · rcases List.mem_cons.mp hb with rfl | hb
      · exact ⟨hk, _, ha, .inl ⟨_, _, rfl⟩⟩
      · exact tO b hb
    · have np : p.2 ≠ a := fun z => aT ⟨p, hp, z⟩
      exact ⟨List.mem_cons_of_mem _ (tM p hp), (if_neg np).trans (if_pos (tM p hp))⟩
    · rcases List.mem_cons.mp hb with rfl | hb
      · exact .inr ⟨aT, _, _, if_pos rfl⟩
      · exact .inl (mT hb)
    · by_cases hb : b = a
      · have z := (if_pos hb).symm.trans z
        cases z
        rw [hb]
        exact ⟨ha, by rw [List.length_map]; exact hl, vs, _, rv, ha⟩
      · have z := (if_neg hb).symm.trans z
        by_cases hb2 : b ∈ cs.map (·.2)
        · have z := (if_pos hb2).symm.trans z
          cases z
          obtain ⟨p, hp, rfl⟩ := mT hb2
          exact tabs p hp
        · have z := (if_neg hb2).symm.trans z
          cases z
/-- the law's call, from its run where no repr is under way -/
theorem start_run (ka : K.In s1.heap) (gl : s1.heap.Ns mainGlobals mg) (bt : s1.heap.Ns builtinsNs mb) (bb : ∀ x : Str, x ≠ "__name__" → mb x = bootBuiltins x) (lim : s1.heap.NoLimit) (ng : s1.gens = #[])
    (tabs : ∀ p ∈ cs, s1.heap.get? p.2 = some { cls := .none, data := .fields #[] }) (ntK : ∀ p ∈ cs, K.lookup p.2 = none) (cod : ∀ p ∈ cs, PySem.W.CodeHd s1.heap p.1 p.2)
    (bmain : ∃ (bm : Addr) (ob : Obj), mg "__builtins__" = some (.ref bm) ∧ bm ≠ builtinsNs ∧ s1.heap.get? bm = some ob ∧ ob.cls = .type "module" ∧ ob.dict = some builtinsNs ∧ ob.data = .plain)
    (ha : s1.heap.get? a = some { cls := .type "list", data := .seq vs.toArray }) (hi : IntsAre vs ns) (hl : ns.length ≤ sizeLine)
    (run : ∀ (base : Heap) (H : Hp), K.In base → base.Ns mainGlobals mg → (∀ p ∈ cs, TabB base mg p.1 p.2) → (∀ p ∈ cs, H p.2 = some (.tbl #[])) → SqL K H a (ns.map V.int) → Env0 P w K mg base callerA [] s1 H →
      codeAny (model P w) callerA (.call (.ref fa) ⟨[.ref a], []⟩) (CR CX [] P w H s1 (fun v _ => v = .bl true) fun _ _ _ => False) s1)
    (no : ∀ H e s', CX [] H s1 (fun _ _ _ => False) e s' → False) :
    codeAny (model P w) callerA (.call (.ref fa) ⟨[.ref a], []⟩) (fun r s' => r = .ok (.ret (.bool true)) ∧ OldK s1.heap s'.heap ∧ s'.os = s1.os ∧ AllBare s'.gens) s1 := by
  obtain ⟨tr, H, B⟩ := begins (P := P) (w := w) ka tabs ntK ha hi hl
  -- the ground: what is not tracked
  have kept : ∀ {b : Addr} {o : Obj}, s1.heap.get? b = some o → (∀ vs n, o.data ≠ .seq vs n) → o.data ≠ .fields #[] → (PySem.W.hideAll s1.heap tr).get? b = some o := fun {b o} e h1 h2 => PySem.W.hideAll_get tr e fun hb => by
    obtain ⟨_, o', e', q⟩ := B.inn b hb
    rw [e] at e'
    cases e'
    rcases q with ⟨vs, n, q⟩ | q
    · exact h1 _ _ q
    · exact h2 q
  have kdict : ∀ {b : Addr} {m : Str → Option Value}, s1.heap.Ns b m → (PySem.W.hideAll s1.heap tr).Ns b m := fun {b m} ⟨o, es, ep, e, d, r⟩ => ⟨o, es, ep, kept e (fun vs n z => by rw [d] at z; cases z) (fun z => by rw [d] at z; cases z), d, r⟩
  have kb : K.In (PySem.W.hideAll s1.heap tr) := fun b o e => PySem.W.hideAll_get tr (ka b o e) fun hb => by
    rw [(B.inn b hb).1] at e
    cases e
  have md : L2.Mod K mg (PySem.W.hideAll s1.heap tr) := ⟨kb, kdict gl, ⟨mb, kdict bt, bb⟩, let ⟨mc, h1, h2⟩ := lim; ⟨mc, kdict h1, h2⟩⟩
  have tb : ∀ p ∈ cs, TabB (PySem.W.hideAll s1.heap tr) mg p.1 p.2 := fun p hp => by
    refine ⟨?_, ?_, fun z => ?_⟩
    · obtain ⟨o, us, file, tf, flags, tg, inF, text, tt, e1, r1, r2, rest⟩ := cod p hp
      obtain ⟨r3, _⟩ := id rest
      exact ⟨o, us, file, tf, flags, tg, inF, text, tt, kept e1 (fun vs n z => by rw [r2] at z; cases z) (fun z => by rw [r2] at z; cases z; simp at r3), r1, r2, rest⟩
    · obtain ⟨bm, ob, b1, b2, b3, b4, b5, b6⟩ := bmain
      refine ⟨bm, ob, b1, b2, fun q => ?_, fun q => ?_, kept b3 (fun vs n z => by rw [b6] at z; cases z) (fun z => by rw [b6] at z; cases z), b4, b5, b6⟩
      · obtain ⟨o, es, ep, e, d, _⟩ := gl
        rw [q, e] at b3
        cases b3
        rw [d] at b6
        cases b6
      · rw [q, tabs p hp] at b3
        cases b3
        cases b6
    · obtain ⟨o, es, ep, e, d, _⟩ := gl
      rw [z, tabs p hp] at e
      cases e
      cases d
  have e0 : Env0 P w K mg (PySem.W.hideAll s1.heap tr) callerA [] s1 H := by
    refine ⟨rfl, md, fun b o e => ⟨PySem.W.of_hideAll tr e, B.out b fun hb => ?_⟩, Nat.le_of_eq (PySem.W.hideAll_size _ _), trivial, fun b hb => (nomatch (show b ∈ ([] : List Addr) from hb)), B.hok, .of_eq ng⟩
    rw [PySem.W.hideAll_none tr hb] at e
    cases e
  refine codeAny_mono (run _ H kb (kdict gl) tb (fun p hp => (B.tab p hp).2) B.row e0) fun r s' h => ?_
  cases r with
  | error e => exact (no H e s' h).elim
  | ok fl =>
    cases fl with
    | next => exact False.elim h
    | brk => exact False.elim h
    | cont => exact False.elim h
    | ret u =>
      obtain ⟨v, H', hos, bare, un, hok', rv, ev⟩ := h
      have ev : v = .bl true := ev
      subst ev
      obtain rfl : u = Value.bool true := rv
      have same : ∀ b o, (¬ ∃ p ∈ cs, p.2 = b) → s1.heap.get? b = some o → s'.heap.get? b = some o := fun b o nb e => by
        by_cases hb : b ∈ tr
        · rcases B.two b hb with z | ⟨_, o1, u1, z⟩
          · exact absurd z nb
          · have q1 := (B.hok b _ z).1
            have q2 := (hok' b _ (un.frzs b o1 u1 z)).1
            rw [e] at q1
            cases q1
            exact q2
        · exact un.keep b o e (B.out b hb) (fun z => nomatch (show b ∈ ([] : List Addr) from z)) (by simp)
      have grew : ∀ p ∈ cs, ∃ more : Array Value, s'.heap.get? p.2 = some { cls := .none, data := .fields more } := fun p hp => by
        obtain ⟨more, z⟩ := un.tbls p.2 #[] (B.tab p hp).2
        exact ⟨_, hok' p.2 _ z⟩
      refine ⟨rfl, ⟨fun b o e => ?_, fun b o e => ?_⟩, hos, bare⟩
      · by_cases hb : ∃ p ∈ cs, p.2 = b
        · obtain ⟨p, hp, rfl⟩ := hb
          obtain ⟨more, hm⟩ := grew p hp
          rw [tabs p hp] at e
          cases e
          exact .inr (.inl ⟨((cod p hp).tab (tabs p hp)).isCodeTable, rfl, #[], more, rfl, by rw [Array.empty_append]; exact hm⟩)
        · exact .inl (same b o hb e)
      · by_cases hb : ∃ p ∈ cs, p.2 = b
        · obtain ⟨p, hp, rfl⟩ := hb
          obtain ⟨more, hm⟩ := grew p hp
          exact ⟨_, hm⟩
        · exact ⟨o, same b o hb e⟩
end
/-! ### defs that are run where no repr is under way -/
theorem deeper_guards (A : Around) (env : Env) : (A.deeper env).guards = A.guards := rfl
structure FnG (P : Program) (w : World) (K : PySem.W.Frag) (mg : Str → Option Value) (base : Heap) (k : Nat) (f : Addr) (fd : FuncData) (ps : List Str) (sp : Sp) : Prop where
  len : ∀ vs H Q E, sp vs H Q E → vs.length = ps.length
  run : ∀ (A : Around) (outer : List Env) (s : Shared) (H : Hp) (args : Args) (us : List Value) (vs : List V) (Q : VK) (E : XK), Room k A → A.guards = some [] → Env0 P w K mg base A outer s H → BindsTo s fd args (ps.zip us) → Vals vs us → sp vs H Q E →
    codeAny (model P w) A (.call (.ref f) args) (CR C8.CX0 outer P w H s Q E) s
section
variable {P : Program} {w : World} {K : PySem.W.Frag} {mg : Str → Option Value} {base : Heap}
theorem okG {x qual : Str} {st : Stmt} {f : Addr} {fd : FuncData} {N ps : List Str} {k : Nat} {sp : Sp} (F : Fun K x qual st f fd) (S : FnScope N ps (defScope st)) (len : ∀ vs H Q E, sp vs H Q E → vs.length = ps.length)
    (hbody : ∀ (cdv : Value) (A : Around) (outer : List Env) (s : Shared) (H : Hp) (vs : List V) (Q : VK) (E : XK), Room k (A.deeper (envOfC qual (defScope st) s.heap.objs.size f cdv)) → (A.deeper (envOfC qual (defScope st) s.heap.objs.size f cdv)).guards = some [] → sp vs H Q E →
      ∃ t, PSs (cxOf C8.CX0 P w K mg base N qual (defScope st) f cdv A outer s H E).nox (defBody st) t ∧ t { nx := fun _ H' => Q .non H', rt := Q } (L2.start N vs) H) : FnG P w K mg base (k + 1) f fd ps sp := by
  obtain ⟨oc, od, kV, doc, pm, an, cdv, ct, osl, rfl, lk, hcd⟩ := F.ex
  refine ⟨len, fun A outer s H args us vs Q E hr hgd e0 hb r h => run_ofS lk hcd S hr e0 hb r (len _ _ _ _ h) fun hr2 => ?_⟩
  obtain ⟨t, ht, q⟩ := hbody cdv A outer s H vs Q E hr2 hgd h
  exact ⟨t, ht.nox, q⟩
end
section
variable {X : Cx}
theorem pe_callG {k : Nat} {f : Addr} {fd : FuncData} {ps : List Str} {sp : Sp} {x : Str} {p pos : Pos} {e : Expr} {es : List Expr} {t : TA} (F : FnG X.prog X.w X.K X.mg X.base k f fd ps sp) (hr : Room k X.A) (hgd : X.A.guards = some []) (hg : Gl X x) (hm : X.mg x = some (.ref f)) (hk : PySem.W.keepIn X.K (.ref f) = true)
    (hb : Binds X.K fd ps []) (ha : PA X (e :: es) t) (hdb : (x == ("__debug__" : Str)) = false := by decide) (he : starEach (e :: es) X.env = (false, eval e X.env) :: starEach es X.env := by rfl)
    (hpl : (backTo pos (starEach es X.env)).any (·.1) = false := by rfl) : PE X (.Call (.Name x p) (e :: es) [] pos) (tCall sp [] C8.E0 t) := by
  refine ⟨fun pins s σ H Q I h => ?_⟩
  refine wpAny_Call_Name_kw (ld_glob I hg hm ?_ hdb)
  refine PySem.W.callWith_K (h₀ := X.base) I.ok.mod.kin hk (thn (ha.run pos pins s σ H _ I h) fun us s1 ⟨vs, H1, I1, r, q⟩ => ⟨I1.kIn, ?_⟩) he hpl
  have q : sp (vs ++ []) H1 Q C8.E0 := q
  rw [List.append_nil] at q
  have hl : us.length = ps.length := by rw [← r.length, F.len _ _ _ _ q]
  have hbt : BindsTo s1 fd ⟨us, []⟩ (ps.zip us) := by
    have z := hb s1 us I1.kIn (by rw [List.append_nil]; exact hl)
    rwa [List.append_nil] at z
  refine wpAny_call (codeAny_mono (F.run X.A X.stack s1 H1 ⟨us, []⟩ us vs Q C8.E0 hr hgd I1.env0 hbt r q) fun r' s' hq => ?_)
  cases r' with
  | error e => exact (show False from hq).elim
  | ok fl =>
    cases fl with
    | ret u => exact I1.after hq
    | next => exact False.elim hq
    | brk => exact False.elim hq
    | cont => exact False.elim hq
/-- repr of a list or tuple of data -/
def rRepr (K : PySem.W.Frag) : List V → Hp → VK → Prop := fun xs H Q => ∃ (a : Addr) (d : PyData), xs = [.ref a] ∧ Dp K H (.ref a) d ∧ d.showable = true ∧ d.hasDict = false ∧ d.depth ≤ 60 ∧ d.shown.length ≤ sizeLine ∧ Q (.str d.shown) H
theorem call_repr (hgd : X.A.guards = some []) (hu : X.A.units + 64 < cLine) : CallR X (.builtin "repr") (rRepr X.K) := by
  intro pins s σ H xs us Q I r h
  obtain ⟨a, d, rfl, hd, hs, hk, hdp, hz, q⟩ := h
  obtain rfl := Vals.ref1 r
  obtain ⟨as, rd⟩ := Dp.reads I d _ _ hd (show L2.RelV (V.ref a) (Value.ref a) from rfl)
  exact repr_of_reads' rd hs (fun z => by rw [hk] at z; cases z) hgd (by omega) (fun b o e => e) (fun h' u tk k => ⟨.str d.shown, H, I.kept (t' := tk) k, ⟨u, rfl⟩, q⟩) hz
end
/-! ### the walk's end -/
/-- what is known of the law at the head's heap -/
def LawAtG (l : PySem.W.OpenLaw) (w : World) (K : PySem.W.Frag) (k n : Nat) (x : Str) (mg : Str → Option Value) (fa : Addr) (h : Heap) : Prop :=
  ∃ (fd : FuncData) (cs : List (Addr × Addr)) (sp : Sp), (∀ p ∈ cs, h.get? p.2 = some { cls := .none, data := .fields #[] }) ∧ (∀ p ∈ cs, K.lookup p.2 = none) ∧ (∀ p ∈ cs, PySem.W.CodeHd h p.1 p.2) ∧ (∀ (s : Shared) (u : Value), BindsTo s fd ⟨[u], []⟩ [(x, u)]) ∧
    (∀ (H : Hp) (a : Addr) (ns : List Int), ns.length ≤ n → (∀ p ∈ cs, H p.2 = some (.tbl #[])) → SqL K H a (ns.map V.int) → sp [.ref a] H (fun v _ => v = .bl true) fun _ _ _ => False) ∧
    ∀ base : Heap, K.In base → base.Ns mainGlobals mg → (∀ p ∈ cs, TabB base mg p.1 p.2) → FnG l.prog w K mg base k fa fd [x] sp
theorem walk_ofG {l : PySem.W.OpenLaw} {n k : Nat} {q : Program} {loose : List Str} {XP : (Str → Option Value) → Heap → Prop} {YP : World → Heap → Prop} {d : DefRec} {K : Params → PySem.W.Frag} {x : Str}
    (hn : l.most = some n) (hn2 : n ≤ sizeLine) (hdf : d.params.defaults = []) (hr : Room k callerA) (hY : ∀ (w : World) (h : Heap), YP w h → (K w.params).In h)
    (F : ∀ (w : World) (mg : Str → Option Value) (fa : Addr) (h : Heap), YP w h → (K w.params).In h → h.Ns mainGlobals mg → mg d.name = some (.ref fa) → LawAtG l w (K w.params) k n x mg fa h) :
    PySem.W.WalkO q loose XP YP l.row.toRowW d [] (fun f vs => PySem.call f vs) := by
  refine Att.attach_callB hn hdf fun w s0 s1 mg mb fa o pm cd doc a vs ns G Y ho hd hcd hmg hobj hints hlen hbits hg => ?_
  have kx := hY w _ Y
  obtain ⟨fd, cs, sp, hT, nT, C, hb, hsp, hF⟩ := F w mg fa _ Y kx G.T.g hmg
  exact start_run (CX := C8.CX0) kx G.T.g G.T.b G.T.builtins G.T.nolimit hg hT nT C G.T.bmain hobj hints (Nat.le_trans hlen hn2)
    (fun base H kb nb tb htb hS e0 => (hF base kb nb tb).run callerA [] s1 H ⟨[.ref a], []⟩ [.ref a] [.ref a] _ _ hr rfl e0 (hb s1 (.ref a)) (.cons rfl .nil) (hsp H a ns hlen htb hS)) fun H e s' z => z
end Gd
set_option Elab.async false
set_option linter.all false
set_option maxRecDepth 100000
/-! Kw: f(k = v, ..), keywords alone -/
namespace Kw
open PySem PySem.Spec PyProof.Rows L2
theorem pe_callK0 {X : Cx} {CX : CXT} {k : Nat} {f : Addr} {fd : FuncData} {ps ks : List Str} {sp : Sp} {E : XK} {x : Str} {p pos : Pos} {kws : List Keyword} {tk : TA} {g : List Value → List Value → List Value} {gV : List V → List V → List V}
    (F : FnOk X.prog X.w X.K X.mg X.base CX k f fd ps sp) (hr : Room k X.A) (hg : Gl X x) (hm : X.mg x = some (.ref f)) (hk : PySem.W.keepIn X.K (.ref f) = true) (hb : KBinds X.K fd ps ks g gV) (hx : Passes CX X E) (hkw : PK X kws tk)
    (hall : (backToKw pos (keywordEach kws X.env)).all (·.1.isSome) = true := by rfl) (hks : (backToKw pos (keywordEach kws X.env)).filterMap (·.1) = ks := by rfl) (hdb : (x == ("__debug__" : Str)) = false := by decide)
    (hpl : ((backTo pos (starEach [] X.env)).any (·.1) || (backToKw pos (keywordEach kws X.env)).any (·.1.isNone)) = false := by rfl) : PE X (.Call (.Name x p) [] kws pos) (fun σ H Q => tk σ H fun zs H1 => sp (gV [] zs) H1 Q E) := by
  refine ⟨fun pins s σ H Q I h => ?_⟩
  refine wpAny_Call_Name_kw (ld_glob I hg hm ?_ hdb)
  refine PySem.W.callWith_KW0 (h₀ := X.base) I.ok.mod.kin hk hall (thn (hkw.run pos pins s σ H _ I h) fun ws s1 ⟨zs, H1, I1, rz, q⟩ => ⟨I1.kIn, ?_⟩) hpl
  rw [hks]
  exact run_fnk (us := []) (vs := []) F hr hb hx I1 .nil rz q
/-- one parameter, by place or by name -/
theorem kb1 {K : PySem.W.Frag} {fd : FuncData} {p : Str} (h0 : ∀ u : Value, bindArgs fd ⟨[u], []⟩ = pure [(p, u)]) (h1 : ∀ u : Value, bindArgs fd ⟨[], [(p, u)]⟩ = pure [(p, u)]) : KBinds K fd [p] [p] (fun us ws => us ++ ws) (fun vs zs => vs ++ zs) where
  to := fun s us ws _ hl => by
    match us, ws, hl with
    | [u], [], _ => exact .of_eq (h0 u)
    | [], [u], _ => exact .of_eq (h1 u)
    | [], [], hl => cases hl
    | _ :: _ :: _, _, hl => simp at hl
    | [_], _ :: _, hl => simp at hl
    | [], _ :: _ :: _, hl => simp at hl
  rel := fun r r' => r.append r'
end Kw
set_option Elab.async false
set_option linter.all false
set_option maxRecDepth 100000
namespace K02
open PySem L2
def top (i : Nat) : Stmt := PySem.Challenge.pw_entryhall_k02_whole_key_objects_call_by.main.body.getD i (.Pass ⟨0, 0, 0, 0⟩)
/-- a def of the text -/
structure Df (K : PySem.W.Frag) (mg : Str → Option Value) (name qual : Str) (st : Stmt) (ps : List Str) (f : Addr) (fd : FuncData) : Prop where
  F : Fun K name qual st f fd
  b : Binds K fd ps []
  g : mg name = some (.ref f)
/-- the built-ins stand as they are -/
structure Bl (mg : Str → Option Value) : Prop where
  isinstance : mg "isinstance" = none
  int : mg "int" = none
  bool : mg "bool" = none
  list : mg "list" = none
  range : mg "range" = none
  len : mg "len" = none
  min : mg "min" = none
  max : mg "max" = none
  sorted : mg "sorted" = none
  enumerate : mg "enumerate" = none
  repr : mg "repr" = none
  tuple : mg "tuple" = none
  divmod : mg "divmod" = none
section
variable {P : Program} {w : World} {K : PySem.W.Frag} {mg : Str → Option Value} {base : Heap}
theorem pInt {X : Cx} {pos : Pos} (hg : Gl X "int") (hm : X.mg "int" = none) : PE X (.Name "int" pos) (tC (.ty "int")) := pe_bltn (v := .ty "int") (u := .type "int") hg hm (by decide +kernel) rfl
theorem pBool {X : Cx} {pos : Pos} (hg : Gl X "bool") (hm : X.mg "bool" = none) : PE X (.Name "bool" pos) (tC (.ty "bool")) := pe_bltn (v := .ty "bool") (u := .type "bool") hg hm (by decide +kernel) rfl
end
theorem ixN_n {n j : Nat} (hj : j < n) : ixN n (j : Int) = some j := by
  unfold ixN
  rw [if_pos (by omega), if_pos (by omega)]
  simp
theorem iteNo {b : Bool} {p q : Prop} (h : b = false) (k : q) : if b = true then p else q := by
  subst h
  exact k
theorem iteYes {b : Bool} {p q : Prop} (h : b = true) (k : p) : if b = true then p else q := by
  subst h
  exact k
theorem upd_upd {H : Hp} {a : Addr} {x y : HO} : upd (upd H a x) a y = upd H a y := by
  funext b
  unfold upd
  split <;> rfl
/-! ### lists of ints as data -/
theorem dp_ints {K : PySem.W.Frag} {H : Hp} : ∀ gs : List Int, DpAll K H (gs.map V.int) (gs.map PyData.int)
  | [] => .nil
  | g :: gs => .cons (.int g) (dp_ints gs)
theorem can_ints : ∀ gs : List Int, PyData.canLayAll0 (gs.map PyData.int) = true
  | [] => by simp [PyData.canLayAll0]
  | g :: gs => by
    rw [List.map_cons, PyData.canLayAll0, can_ints gs]
    simp [PyData.canLay0]
theorem depth_ints : ∀ gs : List Int, PyData.depthAll (gs.map PyData.int) = 0
  | [] => by simp [PyData.depthAll]
  | g :: gs => by
    rw [List.map_cons, PyData.depthAll, depth_ints gs]
    simp [PyData.depth]
theorem shaped_ints (gs : List Int) : SeqAt.shaped (.list (gs.map PyData.int)) = true := by
  unfold SeqAt.shaped
  rw [PyData.canLay0, can_ints, PyData.depth, depth_ints]
  rfl
theorem eqv_nil : ∀ gs : List Int, PyData.eqv (.list (gs.map PyData.int)) (.list []) = gs.isEmpty
  | [] => by simp [PyData.eqv, PyData.eqvAll]
  | g :: gs => by simp [PyData.eqv, PyData.eqvAll]
/-- a remainder as a natural number -/
theorem fmod_nat (i : Int) {m : Int} (h : 0 < m) : ∃ n : Nat, i.fmod m = (n : Int) ∧ (n : Int) < m := by
  rw [Int.fmod_eq_emod_of_nonneg _ (by omega)]
  have h1 := Int.emod_nonneg i (show m ≠ 0 by omega)
  have h2 := Int.emod_lt_of_pos i h
  exact ⟨(i % m).toNat, by omega, by omega⟩
theorem same_new {H : Hp} {a : Addr} {o : HO} (h : H a = none) : Same H (upd H a o) := fun b u e => by
  rw [upd_ne (ne_of_none e h)]
  exact e
theorem int_at {ns : List Int} {i : Nat} {x : V} (h : (ns.map V.int)[i]? = some x) : ∃ z, x = V.int z ∧ ns[i]? = some z := by
  rw [List.getElem?_map] at h
  obtain ⟨z, hz, rfl⟩ := Option.map_eq_some_iff.mp h
  exact ⟨z, rfl, hz⟩
/-- for i, x in enumerate(a list) -/
theorem for_enumL {K : PySem.W.Frag} {a : Addr} {xs : List V} {g : TG} {tb : TS} {D : Ends} {σ : L2.St} {H : Hp} (Pv : Nat → L2.St → Hp → Prop) (h0 : Pv 0 σ H) (hl : ∀ i σ H, i ≤ xs.length → Pv i σ H → SqL K H a xs)
    (hs : ∀ i x T σ H, xs[i]? = some x → Pv i σ H → H T = none → g (.ref T) σ (upd H T (.tup [.int (i : Nat), x])) fun σ2 H2 => tb { D with nx := Pv (i + 1), ct := Pv (i + 1), bk := D.nx } σ2 H2) (hd : ∀ σ H, Pv xs.length σ H → D.nx σ H) :
    ∃ W : Nat → Nat → L2.St → Hp → Prop, (∃ m, W 0 m σ H) ∧ ∀ i m σ H, W i m σ H →
      ((Ite K a).stop i H ∧ D.nx σ H) ∨ ((Ite K a).go i H ∧ ∃ N : L2.St → Hp → Prop, (∀ σ' H', N σ' H' → ∃ m', m' < m ∧ W (i + 1) m' σ' H') ∧ ∀ x H', (Ite K a).yld i H x H' → g x σ H' fun σ2 H2 => tb { D with nx := N, ct := N, bk := D.nx } σ2 H2) := by
  refine ⟨fun i m σ H => m = xs.length - i ∧ i ≤ xs.length ∧ Pv i σ H, ⟨xs.length, by simp, Nat.zero_le _, h0⟩, ?_⟩
  rintro i m σ H ⟨rfl, hi, p⟩
  have q := hl i σ H hi p
  by_cases hlt : i < xs.length
  · refine .inr ⟨⟨xs, xs[i], q, by simp [hlt]⟩, Pv (i + 1), fun σ' H' p' => ⟨xs.length - (i + 1), by omega, rfl, hlt, p'⟩, fun x H' y => ?_⟩
    obtain ⟨T, x, rfl, hT, rfl, hx⟩ := y
    exact hs i x T σ H (hx xs q) p hT
  · have e : i = xs.length := by omega
    subst e
    exact .inl ⟨⟨xs, q, Nat.le_refl _⟩, hd σ H p⟩
/-! ### the law's digits -/
abbrev sMixed : Stmt := top 31
abbrev sDraw : Stmt := top 32
abbrev sDigit : Stmt := top 33
abbrev kL : Key := .inr "left"
abbrev kC : Key := .inr "cell"
abbrev kT : Key := .inr "turns"
def sdK (l c t : Int) : List (Key × V) := [(kL, .int l), (kC, .int c), (kT, .int t)]
theorem nLC : ¬ (kL = kC) := by decide +kernel
theorem nLT : ¬ (kL = kT) := by decide +kernel
theorem nCT : ¬ (kC = kT) := by decide +kernel
theorem nCL : ¬ (kC = kL) := by decide +kernel
theorem nTL : ¬ (kT = kL) := by decide +kernel
theorem sd_left {l c t : Int} : valV (sdK l c t) kL = some (.int l) := by
  unfold sdK valV
  rw [List.find?_cons, decide_eq_true rfl]
  rfl
theorem sd_cell {l c t : Int} : valV (sdK l c t) kC = some (.int c) := by
  unfold sdK valV
  rw [List.find?_cons, decide_eq_false nLC, List.find?_cons, decide_eq_true rfl]
  rfl
theorem sd_turns {l c t : Int} : valV (sdK l c t) kT = some (.int t) := by
  unfold sdK valV
  rw [List.find?_cons, decide_eq_false nLT, List.find?_cons, decide_eq_false nCT, List.find?_cons, decide_eq_true rfl]
  rfl
theorem spl {l c t z : Int} : putK (sdK l c t) kL (.int z) = sdK z c t := by
  unfold sdK putK
  rw [if_pos (by simp)]
  simp only [List.map_cons, List.map_nil, if_true, if_neg nCL, if_neg nTL]
theorem spt {l c t z : Int} : putK (sdK l c t) kT (.int z) = sdK l c z := by
  unfold sdK putK
  rw [if_pos (by simp)]
  simp only [List.map_cons, List.map_nil, if_true, if_neg nLT, if_neg nCT]
theorem dget_left {H : Hp} {s : Addr} {l c t : Int} (h : H s = some (.dK (sdK l c t))) : DGet H s (.str "left") (some (.int l)) := by
  have := DGet.k (k := kL) h
  rw [sd_left] at this
  exact this
theorem dget_cell {H : Hp} {s : Addr} {l c t : Int} (h : H s = some (.dK (sdK l c t))) : DGet H s (.str "cell") (some (.int c)) := by
  have := DGet.k (k := kC) h
  rw [sd_cell] at this
  exact this
theorem dget_turns {H : Hp} {s : Addr} {l c t : Int} (h : H s = some (.dK (sdK l c t))) : DGet H s (.str "turns") (some (.int t)) := by
  have := DGet.k (k := kT) h
  rw [sd_turns] at this
  exact this
theorem dput_left {H : Hp} {s : Addr} {l c t z : Int} (h : H s = some (.dK (sdK l c t))) : DPut H s (.str "left") (.int z) (upd H s (.dK (sdK z c t))) := by
  have := DPut.k (k := kL) (v := .int z) h (by show 3 < sizeLine; decide)
  rw [spl] at this
  exact this
theorem dput_turns {H : Hp} {s : Addr} {l c t z : Int} (h : H s = some (.dK (sdK l c t))) : DPut H s (.str "turns") (.int z) (upd H s (.dK (sdK l c z))) := by
  have := DPut.k (k := kT) (v := .int z) h (by show 3 < sizeLine; decide)
  rw [spt] at this
  exact this
theorem merge_sd {l c t : Int} : mergeK [] (sdK l c t) = sdK l c t := by
  unfold mergeK sdK
  simp only [List.foldl_cons, List.foldl_nil]
  have e1 : putK ([] : List (Key × V)) kL (.int l) = [(kL, .int l)] := rfl
  have e2 : putK [(kL, V.int l)] kC (.int c) = [(kL, .int l), (kC, .int c)] := by
    unfold putK
    rw [if_neg (by simp; decide +kernel)]
    rfl
  have e3 : putK [(kL, V.int l), (kC, .int c)] kT (.int t) = [(kL, .int l), (kC, .int c), (kT, .int t)] := by
    unfold putK
    rw [if_neg (by simp; decide +kernel)]
    rfl
  rw [e1, e2, e3]
/-- a source of digits stands at s; its turns are at most n -/
def Src (H : Hp) (s : Addr) (n : Nat) : Prop := ∃ l c t : Int, H s = some (.dK (sdK l c t)) ∧ 0 ≤ l ∧ 0 ≤ t ∧ t ≤ (n : Int)
/-- all but the source stays -/
def KeptS (H H' : Hp) (s : Addr) : Prop := ∀ b o, H b = some o → b ≠ s → H' b = some o
theorem KeptS.trans {H H1 H2 : Hp} {s : Addr} (a : KeptS H H1 s) (b : KeptS H1 H2 s) : KeptS H H2 s := fun c o e h => b c o (a c o e h) h
theorem KeptS.of {H H1 : Hp} {s : Addr} (a : Same H H1) : KeptS H H1 s := fun c o e _ => a c o e
theorem KeptS.same {H H1 : Hp} {s : Addr} (a : KeptS H H1 s) {H0 : Hp} (sm : Same H0 H) (h : H0 s = none) : Same H0 H1 := fun b o e => a b o (sm b o e) (ne_of_none e h)
theorem Src.same {H H1 : Hp} {s : Addr} {n : Nat} (h : Src H s n) (a : Same H H1) : Src H1 s n := by
  obtain ⟨l, c, t, h1, h2⟩ := h
  exact ⟨l, c, t, a _ _ h1, h2⟩
section
variable {P : Program} {w : World} {K : PySem.W.Frag} {mg : Str → Option Value} {base : Heap}
def spMixed : Sp := fun vs H Q _ => ∃ (c k : Int), vs = [.int c, .int k] ∧ 0 ≤ k ∧ k < 2 ^ 40 ∧ ∀ (n : Nat) (H' : Hp), Same H H' → (n : Int) < 2147483647 → Q (.int (n : Int)) H'
theorem scMixed : FnScope ["cell", "k", "mixed"] ["cell", "k"] (defScope sMixed) := ⟨rfl, rfl, rfl, by decide +kernel, rfl, by decide +kernel, by decide +kernel⟩
theorem pick4 (n : Nat) (h : (n : Int) < 4) : ∃ m : Nat, 0 < m ∧ m < 2147483648 ∧ ([V.int 1000000007, .int 998244353, .int 2147483629, .int 1000000009] : List V)[n]? = some (V.int (m : Int)) := by
  have h : n < 4 := by omega
  match n, h with
  | 0, _ => exact ⟨1000000007, by decide, by decide, rfl⟩
  | 1, _ => exact ⟨998244353, by decide, by decide, rfl⟩
  | 2, _ => exact ⟨2147483629, by decide, by decide, rfl⟩
  | 3, _ => exact ⟨1000000009, by decide, by decide, rfl⟩
theorem ok_mixed {f : Addr} {fd : FuncData} (D : Df K mg "_law_mixed" "_law_mixed" sMixed ["cell", "k"] f fd) : FnOk P w K mg base CX0 1 f fd ["cell", "k"] spMixed := by
  refine D.F.ok scMixed (fun vs H Q E h => ?_) (fun cdv A outer s H vs Q E hr h => ?_)
  · obtain ⟨c, k, rfl, _⟩ := h
    rfl
  · obtain ⟨c, k, rfl, k0, k1, q⟩ := h
    refine ⟨_, pss_cons (ps_set (i := 2) scMixed.nd rfl (Or.inl rfl) (pe_op op_add (pe_op op_add (pe_op op_modN (pv 0) (pe_ix ix_list (pe_lst (pa_cons pe_int (pa_cons pe_int (pa_cons pe_int (pa_cons pe_int pa_nil))))) (pe_op op_modN (pv 1) pe_int) (fun _ _ => rfl))) (pe_op op_mul pe_int (pv 1))) pe_int))
      (pss_one (ps_ret (pe_op op_modN (pe_op op_mul (pe_op op_modN (pe_op op_mul (pv 2) (pv 2)) pe_int) pe_int) pe_int))), ?_⟩
    obtain ⟨j, ej, hj⟩ := fmod_nat k (m := 4) (by decide)
    obtain ⟨m, m0, m1, em⟩ := pick4 j hj
    refine ⟨_, rfl, by show 4 ≤ sizeLine; decide, fun L hL => ?_⟩
    refine ⟨_, rfl, _, _, rfl, rfl, (by show (4 : Int) ≠ 0; decide), ?_⟩
    dsimp only
    rw [ej]
    obtain ⟨x, ex, hx⟩ := fmod_nat c (m := (m : Int)) (by omega)
    refine ⟨L, _, (j : Int), _, rfl, rfl, SqL.of upd_same, atI_nat em, _, _, rfl, rfl, (by show (m : Int) ≠ 0; omega), ?_⟩
    dsimp only
    rw [ex]
    refine ⟨_, rfl, _, _, rfl, rfl, .inl ⟨by decide, by decide⟩, _, _, rfl, rfl, _, _, rfl, rfl, ?_⟩
    have b0 : 0 ≤ (x : Int) + 7919 * k + 13 := by omega
    have b1 : (x : Int) + 7919 * k + 13 < 2 ^ 64 := by
      have : (2 : Int) ^ 40 = 1099511627776 := by decide
      have : (2 : Int) ^ 64 = 18446744073709551616 := by decide
      omega
    refine ⟨_, rfl, _, rfl, _, _, rfl, rfl, .inl ⟨by show -(2 ^ 64) < (x : Int) + 7919 * k + 13; omega, b1⟩, _, _, rfl, rfl, (by show (2147483647 : Int) ≠ 0; decide), ?_⟩
    dsimp only
    obtain ⟨y, ey, hy⟩ := fmod_nat (((x : Int) + 7919 * k + 13) * ((x : Int) + 7919 * k + 13)) (m := 2147483647) (by decide)
    rw [ey]
    refine ⟨_, _, rfl, rfl, .inl ⟨by omega, by omega⟩, _, _, rfl, rfl, (by show (2147483647 : Int) ≠ 0; decide), ?_⟩
    dsimp only
    obtain ⟨z, ez, hz⟩ := fmod_nat ((y : Int) * 48271) (m := 2147483647) (by decide)
    rw [ez]
    exact q z _ (same_new hL) hz
def spDraw : Sp := fun vs H Q _ => ∃ (c k : Int), vs = [.int c, .int k] ∧ 0 ≤ k ∧ ∀ s H', Same H H' → H s = none → (∀ n : Nat, 1000 * k ≤ (n : Int) → Src H' s n) → Q (.ref s) H'
theorem scDraw : FnScope ["cell", "k"] ["cell", "k"] (defScope sDraw) := ⟨rfl, rfl, rfl, by decide +kernel, rfl, by decide +kernel, by decide +kernel⟩
theorem ok_draw {f : Addr} {fd : FuncData} (D : Df K mg "_law_draw" "_law_draw" sDraw ["cell", "k"] f fd) : FnOk P w K mg base CX0 1 f fd ["cell", "k"] spDraw := by
  refine D.F.ok scDraw (fun vs H Q E h => ?_) (fun cdv A outer s H vs Q E hr h => ?_)
  · obtain ⟨c, k, rfl, _⟩ := h
    rfl
  · obtain ⟨c, k, rfl, k0, q⟩ := h
    refine ⟨_, pss_one (ps_ret (pe_disp (pps_cons pe_str (pe_ifExp (pt_cmpR op_ge (pv 0) (pe_op op_pow pe_int pe_int) (nomark _)) (pv 0) pe_int) (pps_cons pe_str (pv 0) (pps_cons pe_str (pe_op op_mul pe_int (pv 1)) pps_nil))) (by rfl) (by rfl) (fun z => by cases z) (by decide))), ?_⟩
    intro d hd
    have fin : ∀ l : Int, 0 ≤ l → ∃ kvs, some (HO.dK []) = some (.dK []) ∧ kvs = sdK l c (1000 * k) := fun l _ => ⟨_, rfl, rfl⟩
    refine ⟨_, rfl, _, _, rfl, rfl, ⟨by decide, by decide, by decide⟩, _, _, rfl, rfl, _, rfl, ite2 (fun e => ?_) (fun e => ?_)⟩
    · have e : (10 : Int) ^ (18 : Int).toNat ≤ c := of_decide_eq_true e
      refine ⟨_, rfl, _, rfl, _, rfl, _, _, rfl, rfl, .inl ⟨by decide, by decide⟩, ?_⟩
      refine ⟨upd_same, sdK c c (1000 * k), rfl, (by show 3 ≤ 15; decide), ?_⟩
      rw [merge_sd]
      have hc : 0 ≤ c := Int.le_trans (by decide) e
      refine q d _ (fun b o e => by rw [upd_ne (ne_of_none e hd), upd_ne (ne_of_none e hd)]; exact e) hd fun n hn => ⟨c, c, 1000 * k, upd_same, hc, by omega, hn⟩
    · refine ⟨_, rfl, _, rfl, _, _, rfl, rfl, .inl ⟨by decide, by decide⟩, ?_⟩
      refine ⟨upd_same, sdK 0 c (1000 * k), rfl, (by show 3 ≤ 15; decide), ?_⟩
      rw [merge_sd]
      refine q d _ (fun b o e => by rw [upd_ne (ne_of_none e hd), upd_ne (ne_of_none e hd)]; exact e) hd fun n hn => ⟨0, c, 1000 * k, upd_same, by decide, by omega, hn⟩
def spDigit : Sp := fun vs H Q _ => ∃ (s : Addr) (b n : Nat), vs = [.ref s, .int (b : Int)] ∧ Src H s n ∧ n + 4 < 2 ^ 40 ∧ 0 < b ∧ b < 2 ^ 62 ∧ ∀ (m : Nat) (H' : Hp), m < b → Src H' s (n + 4) → KeptS H H' s → Q (.int (m : Int)) H'
theorem scDigit : FnScope ["state", "size", "j", "found"] ["state", "size"] (defScope sDigit) := ⟨rfl, rfl, rfl, by decide +kernel, rfl, by decide +kernel, by decide +kernel⟩
theorem ok_digit {f f1 : Addr} {fd fd1 : FuncData} (D : Df K mg "_law_digit" "_law_digit" sDigit ["state", "size"] f fd) (B : Bl mg) (D1 : Df K mg "_law_mixed" "_law_mixed" sMixed ["cell", "k"] f1 fd1) (G1 : FnOk P w K mg base CX0 1 f1 fd1 ["cell", "k"] spMixed) : FnOk P w K mg base CX0 2 f fd ["state", "size"] spDigit := by
  refine D.F.ok scDigit (fun vs H Q E h => ?_) (fun cdv A outer s H vs Q E hr h => ?_)
  · obtain ⟨d, b, n, rfl, _⟩ := h
    rfl
  · obtain ⟨d, b, n, rfl, ⟨l, c, t, hd, l0, t0, t1⟩, hn, b0, b1, q⟩ := h
    have hu := hu_of hr
    refine ⟨_, pss_cons (ps_if (pt_cmpR op_eq (pe_dget hu (pv 0) pe_str (fun _ _ => rfl)) pe_int (nomark _))
        (pss_one (ps_for PassesOwn.never rfl (pi_range1 rfl B.range (pa_cons pe_int pa_nil)) (pg_name (i := 2) scDigit.nd rfl (Or.inl rfl))
          (pss_cons (ps_dput hu (pv 0) pe_str (pe_op op_add (pe_dget hu (pv 0) pe_str (fun _ _ => rfl)) pe_int) rfl)
            (pss_one (ps_dput hu (pv 0) pe_str (pe_op op_add (pe_op op_mul (pe_dget hu (pv 0) pe_str (fun _ _ => rfl)) pe_int) (pe_call G1 hr rfl D1.g D1.F.kp D1.b .nil pass0 (pa_cons (pe_dget hu (pv 0) pe_str (fun _ _ => rfl)) (pa_cons (pe_dget hu (pv 0) pe_str (fun _ _ => rfl)) pa_nil)))) rfl))))) pss_nil)
      (pss_cons (ps_set (i := 3) scDigit.nd rfl (Or.inl rfl) (pe_op op_modN (pe_dget hu (pv 0) pe_str (fun _ _ => rfl)) (pv 1)))
      (pss_cons (ps_dput hu (pv 0) pe_str (pe_op op_fdivW (pe_dget hu (pv 0) pe_str (fun _ _ => rfl)) (pv 1)) rfl)
      (pss_one (ps_ret (pv 3))))), ?_⟩
    -- behind the test
    refine ⟨_, rfl, d, _, rfl, dget_left hd, rfl, _, rfl, ite2 (fun e => ?_) (fun e => ?_)⟩
    · have e : l = 0 := by simpa using of_decide_eq_true e
      subst e
      refine ⟨4, rfl, by decide, by decide, for_range (n := 4) (fun i σ H' => (∃ v2, σ = [some (.ref d), some (.int (b : Int)), v2, none]) ∧ (∃ l : Int, H' d = some (.dK (sdK l c (t + (i : Int)))) ∧ 0 ≤ l) ∧ KeptS H H' d) ⟨⟨_, rfl⟩, ⟨0, by rw [hd]; simp, by decide⟩, fun b o e _ => e⟩ ?_ ?_⟩
      · rintro i σ H' hi ⟨⟨v2, rfl⟩, ⟨l, hl, l0⟩, kp⟩
        refine ⟨_, rfl, d, _, rfl, dget_turns hl, _, _, rfl, rfl, _, rfl, d, _, rfl, dput_turns hl, ?_⟩
        refine ⟨_, rfl, d, _, rfl, dget_left upd_same, _, _, rfl, rfl, .inr ⟨by decide, by decide⟩, ?_⟩
        refine ⟨_, rfl, d, _, rfl, dget_cell upd_same, _, rfl, d, _, rfl, dget_turns upd_same, c, _, rfl, by omega, by omega, fun m H2 sm hm => ⟨_, _, rfl, rfl, _, rfl, d, _, rfl, dput_left (sm _ _ upd_same), ?_⟩⟩
        refine ⟨⟨_, rfl⟩, ⟨l * 2147483647 + (m : Int), ?_, by omega⟩, fun b o e hb => ?_⟩
        · rw [upd_same]
          have e : t + (i : Int) + 1 = t + ((i + 1 : Nat) : Int) := by omega
          rw [e]
        · rw [upd_ne hb]
          exact sm _ _ (by rw [upd_ne hb]; exact kp b o e hb)
      · rintro σ H' ⟨⟨v2, rfl⟩, ⟨l, hl, l0⟩, kp⟩
        have ht0 : 0 ≤ t + ((4 : Nat) : Int) := by omega
        have ht1 : t + ((4 : Nat) : Int) ≤ ((n + 4 : Nat) : Int) := by omega
        have hp : (0 : Int) < (b : Int) := by omega
        obtain ⟨m, em, hm⟩ := fmod_nat l (m := (b : Int)) hp
        refine ⟨_, rfl, d, _, rfl, dget_left hl, _, rfl, _, _, rfl, rfl, (by show (b : Int) ≠ 0; omega), ?_⟩
        dsimp only
        rw [em]
        refine ⟨_, rfl, d, _, rfl, dget_left hl, _, rfl, _, _, rfl, rfl, wide_div (b := 62) (by omega) (by omega) (by decide) (by decide), _, rfl, d, _, rfl, dput_left hl, ?_⟩
        refine ⟨_, rfl, q m _ (by omega) ⟨_, c, _, upd_same, ?_, ht0, ht1⟩ fun b o e hb => by rw [upd_ne hb]; exact kp b o e hb⟩
        exact Int.ediv_nonneg l0 (by omega)
    · have hl := hd
      have kp : KeptS H H d := fun b o e _ => e
      have ht0 : 0 ≤ t := t0
      have ht1 : t ≤ ((n + 4 : Nat) : Int) := by omega
      have hp : (0 : Int) < (b : Int) := by omega
      obtain ⟨m, em, hm⟩ := fmod_nat l (m := (b : Int)) hp
      refine ⟨_, rfl, d, _, rfl, dget_left hl, _, rfl, _, _, rfl, rfl, (by show (b : Int) ≠ 0; omega), ?_⟩
      dsimp only
      rw [em]
      refine ⟨_, rfl, d, _, rfl, dget_left hl, _, rfl, _, _, rfl, rfl, wide_div (b := 62) (by omega) (by omega) (by decide) (by decide), _, rfl, d, _, rfl, dput_left hl, ?_⟩
      refine ⟨_, rfl, q m _ (by omega) ⟨_, c, _, upd_same, ?_, ht0, ht1⟩ fun b o e hb => by rw [upd_ne hb]; exact kp b o e hb⟩
      exact Int.ediv_nonneg l0 (by omega)
end
end K02
set_option Elab.async false
set_option linter.all false
set_option maxRecDepth 100000
set_option maxHeartbeats 1000000
/-! Cm: comprehensions that map or filter, read at once; a list compared with the empty one -/
namespace Cm
open PySem PySem.Spec PyProof.Rows L2
theorem same_upd {H1 H : Hp} {D : Addr} {o : HO} (s : Same H1 H) (hD : H1 D = none) : Same H1 (upd H D o) := fun b u e => by
  rw [upd_ne (ne_of_none e hD)]
  exact s b u e
section
variable {J : It} {n : Nat} {G : Hp → Prop} {Y : Nat → Hp → V → Hp → Prop} {σ : L2.St} {vs : List Nat} {H1 : Hp} {D : Addr} {Qd : Hp → Prop} {g : TG} {tt : TT} {te : TE}
/-- [f x for x in ..]: rs the results -/
theorem lc_map (w : Walk J n G Y) (rs : List V) (hn : rs.length = n) (hz : n ≤ sizeLine) (hD : H1 D = none) (hG : ∀ H, Same H1 H → G H)
    (hs : ∀ i r x H H' (Qk : VK) (N : Hp → Prop), rs[i]? = some r → Same H1 H → Y i H x H' → (∀ H4, Same H H4 → Qk r H4) → g x (wipe σ vs) H' fun σ2 H2 => wipe σ2 vs = wipe σ vs ∧ tt σ2 H2 fun b H3 => if b = true then te σ2 H3 Qk else N H3)
    (hd : ∀ H, Same H1 H → H D = some (.lst rs) → Qd H) :
    ∃ W : Nat → Nat → Hp → Prop, (∃ m, W 0 m (upd H1 D (.lst []))) ∧ ∀ i m H, W i m H →
      (J.stop i H ∧ Qd H) ∨ (J.go i H ∧ ∃ Nx : Hp → Prop, (∀ H', Nx H' → ∃ m', m' < m ∧ W (i + 1) m' H') ∧ ∀ x H', J.yld i H x H' → g x (wipe σ vs) H' fun σ2 H2 => wipe σ2 vs = wipe σ vs ∧ tt σ2 H2 fun b H3 =>
        if b = true then te σ2 H3 fun y H4 => ∃ acc, H4 D = some (.lst acc) ∧ acc.length < sizeLine ∧ Nx (upd H4 D (.lst (acc ++ [y]))) else Nx H3) := by
  refine lc_it w (fun i H => Same H1 H ∧ H D = some (.lst (rs.take i))) ⟨same_upd (fun b o e => e) hD, by rw [List.take_zero]; exact upd_same⟩ (fun i H _ h => hG H h.1) (fun i x H H' hi h y => ?_) (fun H h => ?_)
  · have hr : rs[i]? = some (rs[i]'(by omega)) := List.getElem?_eq_getElem (by omega)
    refine hs i _ x H H' _ _ hr h.1 y fun H4 s4 => ⟨rs.take i, s4 _ _ h.2, by rw [List.length_take]; omega, same_upd (fun b o e => s4 _ _ (h.1 b o e)) hD, ?_⟩
    rw [upd_same, List.take_succ, hr]
    rfl
  · refine hd H h.1 ?_
    rw [h.2, ← hn, List.take_length]
/-- [x for x in .. if p x] -/
theorem lc_filt (w : Walk J n G Y) (xs : List V) (p : V → Bool) (hn : xs.length = n) (hz : n ≤ sizeLine) (hD : H1 D = none) (hG : ∀ H, Same H1 H → G H)
    (hs : ∀ i y x H H' (Qk : VK) (N : Hp → Prop), xs[i]? = some y → Same H1 H → Y i H x H' → (p y = true → ∀ H4, Same H H4 → Qk y H4) → (p y = false → ∀ H4, Same H H4 → N H4) → g x (wipe σ vs) H' fun σ2 H2 => wipe σ2 vs = wipe σ vs ∧ tt σ2 H2 fun b H3 => if b = true then te σ2 H3 Qk else N H3)
    (hd : ∀ H, Same H1 H → H D = some (.lst (xs.filter p)) → Qd H) :
    ∃ W : Nat → Nat → Hp → Prop, (∃ m, W 0 m (upd H1 D (.lst []))) ∧ ∀ i m H, W i m H →
      (J.stop i H ∧ Qd H) ∨ (J.go i H ∧ ∃ Nx : Hp → Prop, (∀ H', Nx H' → ∃ m', m' < m ∧ W (i + 1) m' H') ∧ ∀ x H', J.yld i H x H' → g x (wipe σ vs) H' fun σ2 H2 => wipe σ2 vs = wipe σ vs ∧ tt σ2 H2 fun b H3 =>
        if b = true then te σ2 H3 fun y H4 => ∃ acc, H4 D = some (.lst acc) ∧ acc.length < sizeLine ∧ Nx (upd H4 D (.lst (acc ++ [y]))) else Nx H3) := by
  refine lc_it w (fun i H => Same H1 H ∧ H D = some (.lst ((xs.take i).filter p))) ⟨same_upd (fun b o e => e) hD, by rw [List.take_zero]; exact upd_same⟩ (fun i H _ h => hG H h.1) (fun i x H H' hi h y => ?_) (fun H h => ?_)
  · have hr : xs[i]? = some (xs[i]'(by omega)) := List.getElem?_eq_getElem (by omega)
    have hlen : ((xs.take i).filter p).length < sizeLine := Nat.lt_of_le_of_lt (List.length_filter_le _ _) (by rw [List.length_take]; omega)
    have e1 : (xs.take (i + 1)).filter p = (xs.take i).filter p ++ (if p (xs[i]'(by omega)) = true then [xs[i]'(by omega)] else []) := by
      rw [List.take_succ, hr, List.filter_append]
      congr 1
      show [xs[i]'(by omega)].filter p = _
      cases hp : p (xs[i]'(by omega)) <;> simp [List.filter, hp]
    refine hs i _ x H H' _ _ hr h.1 y (fun hp H4 s4 => ⟨_, s4 _ _ h.2, hlen, same_upd (fun b o e => s4 _ _ (h.1 b o e)) hD, ?_⟩) (fun hp H4 s4 => ⟨fun b o e => s4 _ _ (h.1 b o e), ?_⟩)
    · rw [upd_same, e1, if_pos hp]
    · rw [e1, if_neg (by rw [hp]; exact Bool.false_ne_true), List.append_nil]
      exact s4 _ _ h.2
  · refine hd H h.1 ?_
    rw [h.2, ← hn, List.take_length]
/-- [.. for x in .. if ..]: whether it is empty -/
theorem lc_none (w : Walk J n G Y) (bs : List Bool) (hn : bs.length = n) (hz : n ≤ sizeLine) (hD : H1 D = none) (hG : ∀ H, Same H1 H → G H)
    (hs : ∀ i b x H H' (Qk : VK) (N : Hp → Prop), bs[i]? = some b → Same H1 H → Y i H x H' → (b = true → ∀ y H4, Same H H4 → Qk y H4) → (b = false → ∀ H4, Same H H4 → N H4) → g x (wipe σ vs) H' fun σ2 H2 => wipe σ2 vs = wipe σ vs ∧ tt σ2 H2 fun b H3 => if b = true then te σ2 H3 Qk else N H3)
    (hd : ∀ H ys, Same H1 H → H D = some (.lst ys) → ys.isEmpty = bs.all (fun b => !b) → Qd H) :
    ∃ W : Nat → Nat → Hp → Prop, (∃ m, W 0 m (upd H1 D (.lst []))) ∧ ∀ i m H, W i m H →
      (J.stop i H ∧ Qd H) ∨ (J.go i H ∧ ∃ Nx : Hp → Prop, (∀ H', Nx H' → ∃ m', m' < m ∧ W (i + 1) m' H') ∧ ∀ x H', J.yld i H x H' → g x (wipe σ vs) H' fun σ2 H2 => wipe σ2 vs = wipe σ vs ∧ tt σ2 H2 fun b H3 =>
        if b = true then te σ2 H3 fun y H4 => ∃ acc, H4 D = some (.lst acc) ∧ acc.length < sizeLine ∧ Nx (upd H4 D (.lst (acc ++ [y]))) else Nx H3) := by
  refine lc_it w (fun i H => Same H1 H ∧ ∃ ys, H D = some (.lst ys) ∧ ys.length ≤ i ∧ ys.isEmpty = (bs.take i).all (fun b => !b)) ⟨same_upd (fun b o e => e) hD, [], upd_same, Nat.le_refl _, rfl⟩ (fun i H _ h => hG H h.1) (fun i x H H' hi h y => ?_) (fun H h => ?_)
  · obtain ⟨sm, ys, e, hl, em⟩ := h
    have hr : bs[i]? = some (bs[i]'(by omega)) := List.getElem?_eq_getElem (by omega)
    have e1 : (bs.take (i + 1)).all (fun b => !b) = ((bs.take i).all (fun b => !b) && !(bs[i]'(by omega))) := by
      rw [List.take_succ, hr, List.all_append]
      show ((bs.take i).all (fun b => !b) && ((!(bs[i]'(by omega))) && true)) = _
      rw [Bool.and_true]
    refine hs i _ x H H' _ _ hr sm y (fun hb y H4 s4 => ⟨ys, s4 _ _ e, by omega, same_upd (fun b o e => s4 _ _ (sm b o e)) hD, ys ++ [y], upd_same, by rw [List.length_append]; show ys.length + 1 ≤ _; omega, ?_⟩) (fun hb H4 s4 => ⟨fun b o e => s4 _ _ (sm b o e), ys, s4 _ _ e, by omega, ?_⟩)
    · rw [e1, hb]
      simp
    · rw [e1, hb, em]
      simp
  · obtain ⟨sm, ys, e, hl, em⟩ := h
    rw [← hn, List.take_length] at em
    exact hd H ys sm e em
end
section
variable {X : Cx}
/-- xs == [] -/
theorem op_eqE (hu : X.A.units + 64 < cLine) : OpR X (compareOp .Eq) (fun x y H Q => ∃ a b xs, x = .ref a ∧ y = .ref b ∧ H a = some (.lst xs) ∧ H b = some (.lst []) ∧ Q (.bl xs.isEmpty) H) := by
  intro pins s σ H x y v u Q I rx ry h
  obtain ⟨a, b, xs, rfl, rfl, ha, hb, q⟩ := h
  cases xs with
  | nil => exact op_eqD hu pins s σ H _ _ v u Q I rx ry ⟨.list [], .list [], .lst (SqL.of ha) .nil, .lst (SqL.of hb) .nil, by decide +kernel, by decide +kernel, by
      have e : PyData.eqv (.list []) (.list []) = true := by decide +kernel
      rw [e]
      exact q⟩
  | cons z zs =>
    obtain ⟨its, n, r, e, _⟩ := I.lst ha
    obtain ⟨its2, n2, r2, e2, _⟩ := I.lst hb
    cases rx
    cases ry
    cases r2
    cases r with
    | cons r0 r1 =>
      refine P.eq_list_lengths (items := _) (items2 := _) e e2 (by simp) (by omega) ⟨.bl false, H, I, rfl, q⟩
/-- x is True -/
theorem is_true_gen {M : Model} {A : Around} {E : Value → Shared → Prop} {s : Shared} {Q : Value → Shared → Prop} {x : V} {v : Value} (r : RelV x v) (h : Q (.bool (decide (x = .bl true))) s) : wpAny M A (compareOp .Is v (.bool true)) Q E s := by
  cases x with
  | non => cases r; exact wpAny_pure (by rw [show decide (V.non = V.bl true) = false from rfl] at h; exact h)
  | bl b =>
    cases r
    refine PyProof.Rows.is_bool ?_
    have e : (b == true) = decide (V.bl b = V.bl true) := by cases b <;> rfl
    rw [e]
    exact h
  | int z =>
    obtain ⟨t, rfl⟩ := r
    rw [decide_eq_false (fun z => by cases z)] at h
    exact wpAny_pure h
  | str z =>
    obtain ⟨t, rfl⟩ := r
    rw [decide_eq_false (fun z => by cases z)] at h
    exact wpAny_pure h
  | byt z =>
    obtain ⟨t, rfl⟩ := r
    rw [decide_eq_false (fun z => by cases z)] at h
    exact wpAny_pure h
  | flt z =>
    obtain ⟨t, rfl⟩ := r
    rw [decide_eq_false (fun z => by cases z)] at h
    exact wpAny_pure h
  | ref a =>
    cases r
    rw [decide_eq_false (fun z => by cases z)] at h
    exact wpAny_pure h
  | ty n =>
    cases r
    rw [decide_eq_false (fun z => by cases z)] at h
    exact wpAny_pure h
def tIsT (ta : TE) : TE := fun σ H Q => ta σ H fun x H1 => Q (.bl (decide (x = .bl true))) H1
theorem pc_isT {a : Expr} {ta : TE} {j pos'} (ha : PE X a ta) : PC X .Is a (.Constant (.bool true) j pos') (tIsT ta) := by
  refine ⟨fun pins s σ H Q I h => ?_⟩
  refine thn (ha.run pins s σ H _ I h) fun v s1 ⟨x, H1, I1, r1, q1⟩ => ?_
  exact Constant_bool (is_true_gen r1 ⟨.bl _, H1, I1, rfl, q1⟩)
/-- an expression that is never come to -/
theorem pe_never {e : Expr} : PE X e (fun _ _ _ => False) := ⟨fun _ _ _ _ _ _ h => h.elim⟩
theorem op_neE (hu : X.A.units + 64 < cLine) : OpR X (compareOp .Eq) (fun x y H Q => ∃ a b xs, x = .ref a ∧ y = .ref b ∧ H a = some (.lst xs) ∧ H b = some (.lst []) ∧ Q (.bl xs.isEmpty) H) := op_eqE hu
end
end Cm
set_option Elab.async false
set_option linter.all false
set_option maxRecDepth 100000
set_option maxHeartbeats 1000000
namespace K02
open PySem L2 Xo
/-! ### values as data -/
inductive PT | non | bl (b : Bool) | int (z : Int) | str (s : Str) | tup (l : List PT) | oth
def PT.isInt : PT → Bool
  | .int _ => true
  | _ => false
def PT.isBl : PT → Bool
  | .bl _ => true
  | _ => false
def PT.isStr : PT → Bool
  | .str _ => true
  | _ => false
def PT.isTup : PT → Bool
  | .tup _ => true
  | _ => false
def PT.isNon : PT → Bool
  | .non => true
  | _ => false
/-- an instance of an own class: no built-in kind -/
structure InsB (K : PySem.W.Frag) (C : Addr) : Prop where
  cl : Cls K C
  ha : PySem.W.findIn K (.ref C) "__class__" = some (some (.builtin "object.__class__"))
  hn : PySem.W.specialIn K (.builtin "object.__class__") "__get__" = some (some (.builtin "getset_descriptor.__get__"))
  htk : PySem.W.takesIn K (.builtin "object.__class__") = some true
  hm : PySem.W.mroIn K C (.type "object") = some true
  ki : PySem.W.kitOne K (.ref C) (.type "int") = some false
  kb : PySem.W.kitOne K (.ref C) (.type "bool") = some false
  ks : PySem.W.kitOne K (.ref C) (.type "str") = some false
  kt : PySem.W.kitOne K (.ref C) (.type "tuple") = some false
  kk : ∀ CK, PySem.W.nsIn K mainGlobals "Key" = some (some (.ref CK)) → PySem.W.kitOne K (.ref C) (.ref CK) = some false
mutual
inductive RT (K : PySem.W.Frag) (H : Hp) : V → PT → Prop
  | non : RT K H .non .non
  | bl (b : Bool) : RT K H (.bl b) (.bl b)
  | int (z : Int) : RT K H (.int z) (.int z)
  | str (s : Str) (h : s.length ≤ 1000) : RT K H (.str s) (.str s)
  | tup {a : Addr} {vs : List V} {ts : List PT} (h : H a = some (.tup vs)) (r : RTs K H vs ts) (hl : vs.length ≤ 1000) : RT K H (.ref a) (.tup ts)
  | lst {a : Addr} {vs : List V} (h : H a = some (.lst vs)) : RT K H (.ref a) .oth
  | dk {a : Addr} {kvs : List (Key × V)} (h : H a = some (.dK kvs)) : RT K H (.ref a) .oth
  | ins {a C dx : Addr} {fs : List (Str × V)} (h : H a = some (.ins C dx fs)) (b : InsB K C) : RT K H (.ref a) .oth
inductive RTs (K : PySem.W.Frag) (H : Hp) : List V → List PT → Prop
  | nil : RTs K H [] []
  | cons {v : V} {t : PT} {vs : List V} {ts : List PT} (h : RT K H v t) (r : RTs K H vs ts) : RTs K H (v :: vs) (t :: ts)
end
mutual
theorem RT.same {K : PySem.W.Frag} {H H' : Hp} (s : Same H H') : ∀ {v : V} {t : PT}, RT K H v t → RT K H' v t
  | _, _, .non => .non
  | _, _, .bl b => .bl b
  | _, _, .int z => .int z
  | _, _, .str x h => .str x h
  | _, _, .tup h r hl => .tup (s _ _ h) (r.same s) hl
  | _, _, .lst h => .lst (s _ _ h)
  | _, _, .dk h => .dk (s _ _ h)
  | _, _, .ins h b => .ins (s _ _ h) b
theorem RTs.same {K : PySem.W.Frag} {H H' : Hp} (s : Same H H') : ∀ {vs : List V} {ts : List PT}, RTs K H vs ts → RTs K H' vs ts
  | _, _, .nil => .nil
  | _, _, .cons h r => .cons (h.same s) (r.same s)
end
theorem RTs.length {K : PySem.W.Frag} {H : Hp} : ∀ {vs : List V} {ts : List PT}, RTs K H vs ts → vs.length = ts.length
  | _, _, .nil => rfl
  | _, _, .cons _ r => by rw [List.length_cons, List.length_cons, r.length]
theorem RTs.get {K : PySem.W.Frag} {H : Hp} : ∀ {vs : List V} {ts : List PT} {i : Nat} {v : V}, RTs K H vs ts → vs[i]? = some v → ∃ t, ts[i]? = some t ∧ RT K H v t
  | _, _, _, _, .nil, e => by simp at e
  | _, _, 0, _, .cons h _, e => by simp at e; subst e; exact ⟨_, rfl, h⟩
  | _, _, i + 1, _, .cons _ r, e => by
    obtain ⟨t, h1, h2⟩ := RTs.get (i := i) r (by simpa using e)
    exact ⟨t, by simpa using h1, h2⟩
theorem RTs.app {K : PySem.W.Frag} {H : Hp} {v : V} {t : PT} : ∀ {vs : List V} {ts : List PT}, RTs K H vs ts → RT K H v t → RTs K H (vs ++ [v]) (ts ++ [t])
  | _, _, .nil, h => .cons h .nil
  | _, _, .cons h0 r, h => .cons h0 (r.app h)
/-- what isinstance answers of such a value -/
theorem rt_ty {K : PySem.W.Frag} {H : Hp} {v : V} {t : PT} (h : RT K H v t) : ∃ tv : Value, TyX K H v tv ∧ PySem.W.kitOne K tv (.type "int") = some (t.isInt || t.isBl) ∧ PySem.W.kitOne K tv (.type "bool") = some t.isBl ∧ PySem.W.kitOne K tv (.type "str") = some t.isStr ∧ PySem.W.kitOne K tv (.type "tuple") = some t.isTup := by
  cases h with
  | non => exact ⟨.type "NoneType", .base .non, kit_ty (r := false) (by decide +kernel), kit_ty (r := false) (by decide +kernel), kit_ty (r := false) (by decide +kernel), kit_ty (r := false) (by decide +kernel)⟩
  | bl b => exact ⟨.type "bool", .base (.bl _), kit_ty (r := true) (by decide +kernel), kit_ty (r := true) (by decide +kernel), kit_ty (r := false) (by decide +kernel), kit_ty (r := false) (by decide +kernel)⟩
  | int z => exact ⟨.type "int", .base (.int _), kit_ty (r := true) (by decide +kernel), kit_ty (r := false) (by decide +kernel), kit_ty (r := false) (by decide +kernel), kit_ty (r := false) (by decide +kernel)⟩
  | str s h => exact ⟨.type "str", .base (.str _), kit_ty (r := false) (by decide +kernel), kit_ty (r := false) (by decide +kernel), kit_ty (r := true) (by decide +kernel), kit_ty (r := false) (by decide +kernel)⟩
  | tup h r hl => exact ⟨.type "tuple", .base (.tup h), kit_ty (r := false) (by decide +kernel), kit_ty (r := false) (by decide +kernel), kit_ty (r := false) (by decide +kernel), kit_ty (r := true) (by decide +kernel)⟩
  | lst h => exact ⟨.type "list", .base (.lst h), kit_ty (r := false) (by decide +kernel), kit_ty (r := false) (by decide +kernel), kit_ty (r := false) (by decide +kernel), kit_ty (r := false) (by decide +kernel)⟩
  | dk h => exact ⟨.type "dict", .base (.dK h), kit_ty (r := false) (by decide +kernel), kit_ty (r := false) (by decide +kernel), kit_ty (r := false) (by decide +kernel), kit_ty (r := false) (by decide +kernel)⟩
  | ins h b => exact ⟨_, .base (.ins h b.cl b.ha b.hn b.htk b.hm), b.ki, b.kb, b.ks, b.kt⟩
/-- more built-ins -/
structure Bk (mg : Str → Option Value) : Prop where
  all : mg "all" = none
  ord : mg "ord" = none
  str : mg "str" = none
section
variable {P : Program} {w : World} {K : PySem.W.Frag} {mg : Str → Option Value} {base : Heap}
theorem pTy {X : Cx} {t : String} {pos : Pos} (hg : Gl X (Str.ofString t)) (hm : X.mg (Str.ofString t) = none) (hv : bootBuiltins (Str.ofString t) = some (.type t)) (hn : Str.ofString t ≠ "__name__" := by decide) (hd : (Str.ofString t == ("__debug__" : Str)) = false := by decide) : PE X (.Name (Str.ofString t) pos) (tC (.ty t)) := pe_bltn (v := .ty t) (u := .type t) hg hm hv rfl hn hd
/-! ### is_whole, is_between, is_code, need_code -/
abbrev sWhole : Stmt := top 13
abbrev sBetween : Stmt := top 14
abbrev sCode : Stmt := top 17
abbrev sNeedCode : Stmt := top 18
def spWhole (K : PySem.W.Frag) : Sp := fun vs H Q _ => ∃ (v : V) (t : PT), vs = [v] ∧ RT K H v t ∧ Q (.bl t.isInt) H
theorem scWhole : FnScope ["thing"] ["thing"] (defScope sWhole) := ⟨rfl, rfl, rfl, by decide +kernel, rfl, by decide +kernel, by decide +kernel⟩
theorem ok_whole {f : Addr} {fd : FuncData} (D : Df K mg "is_whole" "is_whole" sWhole ["thing"] f fd) (T : Bl mg) : FnOk P w K mg base CX0 1 f fd ["thing"] (spWhole K) := by
  refine D.F.ok scWhole (fun vs H Q E h => ?_) (fun cdv A outer s H vs Q E hr h => ?_)
  · obtain ⟨v, t, rfl, _⟩ := h
    rfl
  · obtain ⟨v, t, rfl, o, k⟩ := h
    obtain ⟨tv, ty, e1, e2, _⟩ := rt_ty o
    refine ⟨_, pss_one (ps_ret (pe_and (pe_callB call_isi (by rfl) T.isinstance (by decide +kernel) (pa_cons (pv 0) (pa_cons (pInt (by rfl) T.int) pa_nil)))
      (pe_one (pe_not (pe_callB call_isi (by rfl) T.isinstance (by decide +kernel) (pa_cons (pv 0) (pa_cons (pBool (by rfl) T.bool) pa_nil))))))), ?_⟩
    refine ⟨_, rfl, _, _, _, _, _, rfl, .ty _, ty, e1, _, rfl, ?_⟩
    refine ite2 (fun e => ?_) (fun e => ?_)
    · refine ⟨_, rfl, _, _, _, _, _, rfl, .ty _, ty, e2, _, rfl, ?_⟩
      have : (!t.isBl) = t.isInt := by
        cases t <;> first | rfl | simp_all [PT.isInt, PT.isBl]
      rw [this]
      exact k
    · have : t.isInt = false := by
        cases t <;> first | rfl | simp_all [PT.isInt, PT.isBl]
      rw [this] at k
      exact k
/-- lo <= t <= hi -/
def btw (t : PT) (lo hi : Int) : Bool := match t with
  | .int n => decide (lo ≤ n) && decide (n ≤ hi)
  | _ => false
def spBetween (K : PySem.W.Frag) : Sp := fun vs H Q _ => ∃ (v : V) (t : PT) (lo hi : Int), vs = [v, .int lo, .int hi] ∧ RT K H v t ∧ Q (.bl (btw t lo hi)) H
theorem scBetween : FnScope ["thing", "low", "high"] ["thing", "low", "high"] (defScope sBetween) := ⟨rfl, rfl, rfl, by decide +kernel, rfl, by decide +kernel, by decide +kernel⟩
theorem rt_int {H : Hp} {v : V} {t : PT} (h : RT K H v t) (e : t.isInt = true) : ∃ n, v = .int n ∧ t = .int n := by
  cases h with
  | int z => exact ⟨z, rfl, rfl⟩
  | _ => cases e
theorem ok_between {f f1 : Addr} {fd fd1 : FuncData} (D : Df K mg "is_between" "is_between" sBetween ["thing", "low", "high"] f fd) (D1 : Df K mg "is_whole" "is_whole" sWhole ["thing"] f1 fd1) (G1 : FnOk P w K mg base CX0 1 f1 fd1 ["thing"] (spWhole K)) :
    FnOk P w K mg base CX0 2 f fd ["thing", "low", "high"] (spBetween K) := by
  refine D.F.ok scBetween (fun vs H Q E h => ?_) (fun cdv A outer s H vs Q E hr h => ?_)
  · obtain ⟨n, t, lo, hi, rfl, _⟩ := h
    rfl
  · obtain ⟨v, t, lo, hi, rfl, o, k⟩ := h
    refine ⟨_, pss_one (ps_ret (pe_and (pe_call G1 hr rfl D1.g D1.F.kp D1.b .nil pass0 (pa_cons (pv 0) pa_nil)) (pe_one (pe_chain op_le op_le (pv 1) (pv 0) (pv 2))))), ?_⟩
    refine ⟨_, rfl, _, _, rfl, o, _, rfl, ?_⟩
    refine ite2 (fun e => ?_) (fun e => ?_)
    · obtain ⟨n, rfl, rfl⟩ := rt_int o e
      refine ⟨_, rfl, _, rfl, _, _, rfl, rfl, _, rfl, ?_⟩
      have k : Q (.bl (decide (lo ≤ n) && decide (n ≤ hi))) H := k
      refine ite2 (fun e => ?_) (fun e => ?_)
      · refine ⟨_, rfl, _, _, rfl, rfl, ?_⟩
        rw [e, Bool.true_and] at k
        exact k
      · rw [Bool.eq_false_iff.mpr e, Bool.false_and] at k
        exact k
    · have : btw t lo hi = false := by
        cases t <;> first | rfl | exact absurd rfl e
      rw [this] at k
      exact k
/-- is it a code -/
def PT.isCode (t : PT) : Bool := btw t 0 4294967295
theorem code_int {t : PT} (h : t.isCode = true) : ∃ n : Nat, t = .int (n : Int) ∧ n < 4294967296 := by
  cases t with
  | int z =>
    have h : (decide (0 ≤ z) && decide (z ≤ 4294967295)) = true := h
    rw [Bool.and_eq_true, decide_eq_true_iff, decide_eq_true_iff] at h
    refine ⟨z.toNat, ?_, by omega⟩
    congr 1
    omega
  | _ => cases h
theorem code_nat {n : Nat} (h : n < 4294967296) : PT.isCode (.int (n : Int)) = true := by
  show (decide ((0 : Int) ≤ n) && decide ((n : Int) ≤ 4294967295)) = true
  rw [decide_eq_true (by omega), decide_eq_true (by omega)]
  rfl
def spCode (K : PySem.W.Frag) : Sp := fun vs H Q _ => ∃ (v : V) (t : PT), vs = [v] ∧ RT K H v t ∧ Q (.bl t.isCode) H
theorem scCode : FnScope ["thing"] ["thing"] (defScope sCode) := ⟨rfl, rfl, rfl, by decide +kernel, rfl, by decide +kernel, by decide +kernel⟩
theorem ok_code {f f1 : Addr} {fd fd1 : FuncData} {t : Tok} (D : Df K mg "is_code" "is_code" sCode ["thing"] f fd) (D1 : Df K mg "is_between" "is_between" sBetween ["thing", "low", "high"] f1 fd1) (G1 : FnOk P w K mg base CX0 2 f1 fd1 ["thing", "low", "high"] (spBetween K))
    (mC : mg "CODES" = some (.int 4294967296 t)) : FnOk P w K mg base CX0 3 f fd ["thing"] (spCode K) := by
  refine D.F.ok scCode (fun vs H Q E h => ?_) (fun cdv A outer s H vs Q E hr h => ?_)
  · obtain ⟨n, t, rfl, _⟩ := h
    rfl
  · obtain ⟨v, t, rfl, o, k⟩ := h
    refine ⟨_, pss_one (ps_ret (pe_call G1 hr rfl D1.g D1.F.kp D1.b .nil pass0 (pa_cons (pv 0) (pa_cons pe_int (pa_cons (pe_op op_sub (pe_glob (v := .int 4294967296) rfl mC ⟨_, rfl⟩) pe_int) pa_nil))))), ?_⟩
    exact ⟨_, rfl, _, _, rfl, rfl, _, _, _, _, rfl, o, k⟩
/-- a class of errors, as this text has it -/
structure XK (P : Program) (w : World) (K : PySem.W.Frag) (mg : Str → Option Value) (base : Heap) (name : Str) (C : Addr) (fld : Str) : Prop where
  g : mg name = some (.ref C)
  T : XC K C
  no : PySem.W.findIn K (.ref C) fld = some none
  ini : ∃ (fI : Addr) (fd : FuncData), PySem.W.findIn K (.ref C) "__init__" = some (some (.ref fI)) ∧ PySem.W.typeIn K (.ref fI) = some (.type "function") ∧ Binds K fd ["self", fld] [] ∧ FnOk P w K mg base CX0 1 fI fd ["self", fld] (spXI K fld)
theorem XK.to {X : Cx} {name : Str} {C : Addr} {fld : Str} (h : XK X.prog X.w X.K X.mg X.base name C fld) : XI X C fld := ⟨h.T, h.no, h.ini⟩
/-- the way out by an error of the class at C -/
def OutE (C : Addr) (fld : Str) (H : Hp) (E : L2.XK) : Prop := ∀ (d : Addr) (y : V), H d = none → E (.ref C) (some d) (upd H d (.xd [(fld, y)]))
def spNeedCode (K : PySem.W.Frag) (C : Addr) : Sp := fun vs H Q E => ∃ (v : V) (t : PT), vs = [v] ∧ RT K H v t ∧ (t.isCode = true → Q .non H) ∧ (t.isCode = false → OutE C "reason" H E)
theorem scNeedCode : FnScope ["thing"] ["thing"] (defScope sNeedCode) := ⟨rfl, rfl, rfl, by decide +kernel, rfl, by decide +kernel, by decide +kernel⟩
theorem ok_needCode {f f1 C : Addr} {fd fd1 : FuncData} (D : Df K mg "need_code" "need_code" sNeedCode ["thing"] f fd) (D1 : Df K mg "is_code" "is_code" sCode ["thing"] f1 fd1) (G1 : FnOk P w K mg base CX0 3 f1 fd1 ["thing"] (spCode K)) (x : XK P w K mg base "BadCode" C "reason") :
    FnOk P w K mg base (L2.CX P w) 4 f fd ["thing"] (spNeedCode K C) := by
  refine D.F.okX scNeedCode (fun vs H Q E h => ?_) (fun cdv A outer s H vs Q E hr h => ?_)
  · obtain ⟨n, t, rfl, _⟩ := h
    rfl
  · obtain ⟨v, t, rfl, o, k1, k2⟩ := h
    refine ⟨_, pss_one (ps_if (pt_not (pt_val (pe_call G1 hr rfl D1.g D1.F.kp D1.b .nil pass0 (pa_cons (pv 0) pa_nil)))) (pss_one (ps_raise rfl (takes_of rfl rfl rfl rfl) (pmk_x (XK.to x) (hr.mono (by decide)) rfl x.g (pa_cons pe_str pa_nil)))) pss_nil), ?_⟩
    refine ⟨_, rfl, _, _, rfl, o, _, rfl, ?_⟩
    cases hc : t.isCode with
    | false => exact iteYes rfl ⟨_, rfl, fun d hd => k2 hc d _ hd⟩
    | true => exact iteNo rfl (k1 hc)
/-! ### texts -/
abbrev sText : Stmt := top 15
abbrev sSign : Stmt := top 16
def okSign (n : Nat) : Bool := decide (32 ≤ n) && decide (n ≤ 126) && !decide (n = 37)
def PT.okText : PT → Bool
  | .str s => decide (s.length ≤ 40) && s.cps.toList.all okSign
  | _ => false
/-- the constants -/
structure Ck (mg : Str → Option Value) : Prop where
  codes : ∃ t, mg "CODES" = some (.int 4294967296 t)
  signs : ∃ t, mg "MAX_SIGNS" = some (.int 40 t)
  first : ∃ t, mg "FIRST_SIGN" = some (.int 32 t)
  last : ∃ t, mg "LAST_SIGN" = some (.int 126 t)
  perc : ∃ t, mg "PERCENT_SIGN" = some (.int 37 t)
def spSign : Sp := fun vs H Q _ => ∃ n : Nat, vs = [.int (n : Int)] ∧ Q (.bl (okSign n)) H
theorem scSign : FnScope ["number"] ["number"] (defScope sSign) := ⟨rfl, rfl, rfl, by decide +kernel, rfl, by decide +kernel, by decide +kernel⟩
theorem ok_sign {f : Addr} {fd : FuncData} (D : Df K mg "_is_sign" "_is_sign" sSign ["number"] f fd) (C : Ck mg) : FnOk P w K mg base CX0 1 f fd ["number"] spSign := by
  obtain ⟨t1, c1⟩ := C.first
  obtain ⟨t2, c2⟩ := C.last
  obtain ⟨t3, c3⟩ := C.perc
  refine D.F.ok scSign (fun vs H Q E h => ?_) (fun cdv A outer s H vs Q E hr h => ?_)
  · obtain ⟨n, rfl, _⟩ := h
    rfl
  · obtain ⟨n, rfl, k⟩ := h
    refine ⟨_, pss_one (ps_ret (pe_and (pe_chain op_le op_le (pe_glob (v := .int 32) rfl c1 ⟨_, rfl⟩) (pv 0) (pe_glob (v := .int 126) rfl c2 ⟨_, rfl⟩)) (pe_one (pe_cmpR op_ne (pv 0) (pe_glob (v := .int 37) rfl c3 ⟨_, rfl⟩) (nomark _))))), ?_⟩
    refine ⟨_, rfl, _, _, rfl, rfl, _, rfl, ?_⟩
    unfold okSign at k
    have e1 : decide ((32 : Int) ≤ (n : Int)) = decide (32 ≤ n) := decide_eq_decide.mpr (by omega)
    have e2 : decide ((n : Int) ≤ (126 : Int)) = decide (n ≤ 126) := decide_eq_decide.mpr (by omega)
    refine ite2 (fun e => ?_) (fun e => ?_)
    · rw [← e1, e, Bool.true_and] at k
      refine ⟨_, _, rfl, rfl, _, rfl, ?_⟩
      refine ite2 (fun e => ?_) (fun e => ?_)
      · rw [← e2, e, Bool.true_and] at k
        refine ⟨_, rfl, rfl, ?_⟩
        have e3 : decide (V.int (n : Int) = V.int 37) = decide (n = 37) := decide_eq_decide.mpr ⟨fun h => by have := V.int.inj h; omega, fun h => by rw [h]; rfl⟩
        rw [e3]
        exact k
      · rw [← e2, Bool.eq_false_iff.mpr e, Bool.false_and] at k
        exact k
    · rw [← e1, Bool.eq_false_iff.mpr e, Bool.false_and, Bool.false_and] at k
      exact ⟨_, rfl, iteNo rfl k⟩
end
end K02
set_option Elab.async false
set_option linter.all false
set_option maxRecDepth 100000
set_option maxHeartbeats 2000000
namespace K02
open PySem L2 Xo
section
variable {P : Program} {w : World} {K : PySem.W.Frag} {mg : Str → Option Value} {base : Heap}
def spText (K : PySem.W.Frag) : Sp := fun vs H Q _ => ∃ (v : V) (t : PT), vs = [v] ∧ RT K H v t ∧ ∀ H', Same H H' → Q (.bl t.okText) H'
theorem scText : FnScope ["thing", "sign"] ["thing"] (defScope sText) := ⟨rfl, rfl, rfl, by decide +kernel, rfl, by decide +kernel, by decide +kernel⟩
theorem sign_at {s : Str} {i : Nat} {r : V} (h : ((s.cps.toList.map okSign).map V.bl)[i]? = some r) {c : Nat} (hc : s.cps[i]? = some c) : r = .bl (okSign c) := by
  have hc2 : s.cps.toList[i]? = some c := by
    rw [Array.getElem?_toList]
    exact hc
  rw [List.map_map, List.getElem?_map, hc2] at h
  exact (Option.some.inj h).symm
theorem ok_text {f f1 : Addr} {fd fd1 : FuncData} (D : Df K mg "is_text" "is_text" sText ["thing"] f fd) (B : Bl mg) (B2 : Bk mg) (C : Ck mg) (D1 : Df K mg "_is_sign" "_is_sign" sSign ["number"] f1 fd1) (G1 : FnOk P w K mg base CX0 1 f1 fd1 ["number"] spSign) :
    FnOk P w K mg base CX0 2 f fd ["thing"] (spText K) := by
  obtain ⟨t1, c1⟩ := C.signs
  refine D.F.ok scText (fun vs H Q E h => ?_) (fun cdv A outer s H vs Q E hr h => ?_)
  · obtain ⟨v, t, rfl, _⟩ := h
    rfl
  · obtain ⟨v, t, rfl, o, k⟩ := h
    obtain ⟨tv, ty, _, _, e3, _⟩ := rt_ty o
    refine ⟨_, pss_cons (ps_if (PW.pt (pw_or (pt_not (pt_val (pe_callB call_isi (by rfl) B.isinstance (by decide +kernel) (pa_cons (pv 0) (pa_cons (pTy (t := "str") (by rfl) B2.str (by decide +kernel)) pa_nil))))) (pw_or1 (pt_cmpR op_gt (pe_callB call_len_str (by rfl) B.len PySem.boot_len (pa_cons (pv 0) pa_nil)) (pe_glob (v := .int 40) rfl c1 ⟨_, rfl⟩) (nomark _))))) (pss_one (ps_ret pe_bl)) pss_nil)
      (pss_one (ps_ret (pe_callB (cr_all rfl) (by rfl) B2.all (by decide +kernel) (pa_cons (pe_lc (own := [("sign", 1)]) (g := gName 1) (tt := tYes) rfl scText.nd (pi_str (pv 0)) (blkOk_by (own := [("sign", 1)]) (N := ["thing", "sign"]) (sc := defScope sText) (by decide +kernel)) (fun _ _ _ _ _ => pg_name (i := 1) scText.nd rfl (Or.inl rfl)) (fun _ _ _ _ _ => pts_nil)
        (fun _ _ _ _ _ => pe_call G1 (hr.mono (by decide)) rfl D1.g D1.F.kp D1.b .nil pass0 (pa_cons (pe_callB call_ord (by rfl) B2.ord (by decide +kernel) (pa_cons (pv 1) pa_nil)) pa_nil))) pa_nil)))), ?_⟩
    refine ⟨_, rfl, _, _, _, _, _, rfl, .ty _, ty, e3, _, rfl, ?_⟩
    cases o with
    | str z hz =>
      refine iteNo rfl ?_
      have hz2 : z.length ≤ sizeLine := Nat.le_trans hz (by decide)
      refine ⟨_, rfl, z, rfl, hz2, _, _, rfl, rfl, _, rfl, ?_⟩
      have e : decide ((z.length : Int) > 40) = !decide (z.length ≤ 40) := by
        by_cases h : z.length ≤ 40
        · rw [decide_eq_true h, decide_eq_false (by omega)]; rfl
        · rw [decide_eq_false h, decide_eq_true (by omega)]; rfl
      rw [e]
      have k : ∀ H', Same H H' → Q (.bl (decide (z.length ≤ 40) && z.cps.toList.all okSign)) H' := k
      by_cases h : z.length ≤ 40
      · rw [decide_eq_true h] at k ⊢
        refine iteNo rfl ⟨_, rfl, z, rfl, fun Dl hD => ?_⟩
        refine Cm.lc_map (walk_str (z := z)) ((z.cps.toList.map okSign).map V.bl) (by rw [List.length_map, List.length_map, Array.length_toList]) hz2 hD (fun _ _ => trivial) (fun i r x H2 H3 Qk N hr2 sm hy hQ => ?_) (fun H2 sm hl => ?_)
        · obtain ⟨rfl, c, hc, rfl⟩ := hy
          have hr3 := sign_at hr2 hc
          subst hr3
          refine ⟨rfl, ?_⟩
          exact ⟨_, rfl, _, rfl, rfl, c, rfl, hQ _ fun _ _ z => z⟩
        · refine ⟨_, z.cps.toList.map okSign, rfl, SqL.of hl, ?_⟩
          rw [List.all_map]
          exact k _ sm
      · rw [decide_eq_false h] at k ⊢
        exact iteYes rfl (k _ fun _ _ z => z)
    | non => exact iteYes rfl (k _ fun _ _ z => z)
    | bl b => exact iteYes rfl (k _ fun _ _ z => z)
    | int z => exact iteYes rfl (k _ fun _ _ z => z)
    | tup h r hl => exact iteYes rfl (k _ fun _ _ z => z)
    | lst h => exact iteYes rfl (k _ fun _ _ z => z)
    | dk h => exact iteYes rfl (k _ fun _ _ z => z)
    | ins h b => exact iteYes rfl (k _ fun _ _ z => z)
end
end K02
set_option Elab.async false
set_option linter.all false
set_option maxRecDepth 100000
set_option maxHeartbeats 1000000
/-! Xs: in an except suite: isinstance(e, C), e.f, e an own error with one field -/
namespace Xo
open PySem PySem.Spec PyProof.Rows L2
section
variable {X : Cx} {a : Addr} {oe : Obj} {cls : Value} {d : Option Addr} {pn : List (Addr × Obj)}
theorem pinned {pins : List (Addr × Obj)} {σ : L2.St} {H : Hp} {s : Shared} {C dd : Addr} {fs : List (Str × V)} (I : Inv (X.suite a ((a, oe) :: pn)) pins σ H s) (hz : Zc (.ref C) (some dd) oe) (hf : ∃ vs, oe.data = .fields vs) (e : H dd = some (.xd fs)) :
    ∃ od mA, PySem.W.InstAt s.heap a oe C (some od) ∧ s.heap.get? dd = some od ∧ s.heap.Ns1 dd mA ∧ ∀ f, RelO (fs.lookup f) (mA f) := by
  obtain ⟨vs, q3⟩ := hf
  obtain ⟨mA, n1, r⟩ := (show ObjOk X.prog X.w H s.heap dd (.xd fs) from I.hok dd _ e)
  obtain ⟨od, ho, hl⟩ := lookIn_ns n1
  have q1 : s.heap.get? a = some oe := (I.pin (a, oe) (List.mem_append_left _ (List.mem_cons_self ..))).1
  exact ⟨od, mA, ⟨q1, hz.1, by unfold PySem.W.notCls; rw [q3] <;> rfl, by rw [hz.2]; exact ho⟩, ho, n1, r⟩
def rIsS (K : PySem.W.Frag) (a : Addr) (cls : Value) (d : Option Addr) : List V → Hp → VK → Prop := fun xs H Q => ∃ (C dd : Addr) (fs : List (Str × V)) (c : V) (cv : Value) (b : Bool), xs = [.ref a, c] ∧ cls = .ref C ∧ d = some dd ∧ H dd = some (.xd fs) ∧ ExcC K C ∧ ClsV c cv ∧ PySem.W.kitOne K (.ref C) cv = some b ∧ Q (.bl b) H
theorem call_isS (hz : Zc cls d oe) (hf : ∃ vs, oe.data = .fields vs) : CallR (X.suite a ((a, oe) :: pn)) (.builtin "isinstance") (rIsS X.K a cls d) := by
  intro pins s σ H xs us Q I r h
  obtain ⟨C, dd, fs, c, cv, b, rfl, rfl, rfl, e, T, hc, ek, q⟩ := h
  obtain ⟨u1, u2, rfl, r1, r2⟩ := vals2 r
  obtain rfl : u1 = Value.ref a := r1
  obtain ⟨od, mA, J, _⟩ := pinned I hz hf e
  cases hc.eq r2
  exact PySem.W.kia_one (PySem.W.xi_kit T) I.kIn J ek (fun z => nomatch z) fun tk => ⟨.bl b, H, I.tok tk, rfl, q⟩
def tXfS (K : PySem.W.Frag) (a : Addr) (cls : Value) (d : Option Addr) (f : Str) (te : TE) : TE := fun σ H Q => te σ H fun x H1 => ∃ (C dd : Addr) (fs : List (Str × V)) (v : V), x = .ref a ∧ cls = .ref C ∧ d = some dd ∧ H1 dd = some (.xd fs) ∧ XC K C ∧ PySem.W.findIn K (.ref C) f = some none ∧ fs.lookup f = some v ∧ Q v H1
theorem pe_xfS {e : Expr} {te : TE} {n : Str} {pos : Pos} (hz : Zc cls d oe) (hf : ∃ vs, oe.data = .fields vs) (he : PE (X.suite a ((a, oe) :: pn)) e te) (hb : attributeBase e n X.env (eval e X.env) = eval e X.env := by rfl) : PE (X.suite a ((a, oe) :: pn)) (.Attribute e n pos) (tXfS X.K a cls d n te) := by
  refine ⟨fun pins s σ H Q I h => ?_⟩
  refine attr_of hb (thn (he.run pins s σ H _ I h) fun u s1 ⟨x, H1, I1, rx, C, dd, fs, v, ex, ec, ed, xa, T, hno, hl, q⟩ => ?_)
  subst ex ec ed
  obtain rfl : u = Value.ref a := rx
  obtain ⟨od, mA, J, ho, n1, r⟩ := pinned I1 hz hf xa
  obtain ⟨od', ho', hl'⟩ := lookIn_ns n1
  rw [ho] at ho'
  cases ho'
  obtain ⟨u, hu, ru⟩ := RelO.some_of (v := v) (o := mA n) (by rw [← hl]; exact r n)
  exact HandSPX.exc_get I1.kIn J T.ga T.gg T.exC (PySem.W.findObj_own T.hd hno rfl (by rw [hl', hu])) (handed_of ru) ⟨v, H1, I1.tok _, ru, q⟩
end
end Xo
set_option Elab.async false
set_option linter.all false
set_option maxRecDepth 100000
/-! Gd0: f() of a def that runs where no repr is under way -/
namespace Gd0
open PySem PySem.Spec PyProof.Rows L2
theorem pe_callG0 {X : Cx} {k : Nat} {f : Addr} {fd : FuncData} {ps : List Str} {sp : Sp} {x : Str} {p pos : Pos} (F : Gd.FnG X.prog X.w X.K X.mg X.base k f fd ps sp) (hr : Room k X.A) (hgd : X.A.guards = some []) (hg : Gl X x) (hm : X.mg x = some (.ref f)) (hk : PySem.W.keepIn X.K (.ref f) = true)
    (hb : Binds X.K fd ps []) (hdb : (x == ("__debug__" : Str)) = false := by decide) : PE X (.Call (.Name x p) [] [] pos) (tCall sp [] C8.E0 tNil) := by
  refine ⟨fun pins s σ H Q I h => ?_⟩
  refine wpAny_Call_Name_kw (ld_glob I hg hm ?_ hdb)
  refine PySem.W.callWith_K0 (first := []) I.kIn hk ?_
  have q : sp [] H Q C8.E0 := h
  have hl : ([] : List Value).length = ps.length := by rw [← F.len _ _ _ _ q]; rfl
  have hbt : BindsTo s fd ⟨[], []⟩ (ps.zip []) := by
    have z := hb s [] I.kIn (by rw [List.append_nil]; exact hl)
    rwa [List.append_nil] at z
  refine wpAny_call (codeAny_mono (F.run X.A X.stack s H ⟨[], []⟩ [] [] Q C8.E0 hr hgd I.env0 hbt .nil q) fun r' s' hq => ?_)
  cases r' with
  | error e => exact (show False from hq).elim
  | ok fl =>
    cases fl with
    | ret u => exact I.after hq
    | next => exact False.elim hq
    | brk => exact False.elim hq
    | cont => exact False.elim hq
end Gd0
set_option Elab.async false
set_option linter.all false
set_option maxRecDepth 100000
set_option maxHeartbeats 2000000
namespace K02
open PySem L2 Xo Lm LamX
/-- a def of the text, its code object at c -/
structure Dc (K : PySem.W.Frag) (mg : Str → Option Value) (name : Str) (st : Stmt) (ps : List Str) (f c : Addr) (fd : FuncData) : Prop where
  ex : ∃ (oc : Value) (od : Option Addr) (kV doc pm : Value) (an : Option Addr) (ct : Value) (osl : Array (Option Value)), fd = PySem.W.fnOf name name (defArgs st) (defBody st) (defScope st) .none kV doc pm an (.ref c) ct ∧
    K.lookup f = some ⟨oc, od, .func fd, osl⟩ ∧ PySem.W.codeIn K (.ref c) name = true
  kp : PySem.W.keepIn K (.ref f) = true
  b : Binds K fd ps []
  g : mg name = some (.ref f)
/-- a def that calls what it got -/
structure Dz (K : PySem.W.Frag) (mg : Str → Option Value) (name : Str) (st : Stmt) (a : Str) (sd : Addr) : Prop where
  g : mg name = some (.ref sd)
  kp : PySem.W.keepIn K (.ref sd) = true
  ex : ∃ (oc : Value) (od : Option Addr) (dV kV doc pm : Value) (an : Option Addr) (cdv ct : Value) (osl : Array (Option Value)), K.lookup sd = some ⟨oc, od, .func (PySem.W.fnOf name name (defArgs st) (defBody st) (defScope st) dV kV doc pm an cdv ct), osl⟩ ∧
    PySem.W.codeIn K cdv name = true ∧ Binds K (PySem.W.fnOf name name (defArgs st) (defBody st) (defScope st) dV kV doc pm an cdv ct) [a] []
section
variable {P : Program} {w : World} {K : PySem.W.Frag} {mg : Str → Option Value} {base : Heap}
theorem okGc {name : Str} {st : Stmt} {f c : Addr} {fd : FuncData} {N ps : List Str} {k : Nat} {sp : Sp} (D : Dc K mg name st ps f c fd) (S : FnScope N ps (defScope st)) (len : ∀ vs H Q E, sp vs H Q E → vs.length = ps.length)
    (hbody : ∀ (A : Around) (outer : List Env) (s : Shared) (H : Hp) (vs : List V) (Q : VK) (E : L2.XK), Room k (A.deeper (PyProof.Rows.envOfC name (defScope st) s.heap.objs.size f (.ref c))) → (A.deeper (PyProof.Rows.envOfC name (defScope st) s.heap.objs.size f (.ref c))).guards = some [] → sp vs H Q E →
      ∃ t, PSs (cxOf C8.CX0 P w K mg base N name (defScope st) f (.ref c) A outer s H E).nox (defBody st) t ∧ t { nx := fun _ H' => Q .non H', rt := Q } (L2.start N vs) H) : Gd.FnG P w K mg base (k + 1) f fd ps sp := by
  obtain ⟨oc, od, kV, doc, pm, an, ct, osl, rfl, lk, hcd⟩ := D.ex
  refine ⟨len, fun A outer s H args us vs Q E hr hgd e0 hb r h => run_ofS lk hcd S hr e0 hb r (len _ _ _ _ h) fun hr2 => ?_⟩
  obtain ⟨t, ht, q⟩ := hbody A outer s H vs Q E hr2 hgd h
  exact ⟨t, ht.nox, q⟩
theorem passF {X : Cx} : Passes (L2.CX X.prog X.w) X (fun _ _ _ => False) := fun _ _ _ _ _ _ _ c => by
  obtain ⟨_, _, _, _, _, _, _, _, _, _, _, _, z⟩ := c
  exact z.elim
end
mutual
theorem RT.ext {K : PySem.W.Frag} {H H' : Hp} (s : ExtN H H') : ∀ {v : V} {t : PT}, RT K H v t → RT K H' v t
  | _, _, .non => .non
  | _, _, .bl b => .bl b
  | _, _, .int z => .int z
  | _, _, .str x h => .str x h
  | _, _, .tup h r hl => .tup (s _ _ h fun ps z => by cases z) (r.ext s) hl
  | _, _, .lst h => .lst (s _ _ h fun ps z => by cases z)
  | _, _, .dk h => .dk (s _ _ h fun ps z => by cases z)
  | _, _, .ins h b => .ins (s _ _ h fun ps z => by cases z) b
theorem RTs.ext {K : PySem.W.Frag} {H H' : Hp} (s : ExtN H H') : ∀ {vs : List V} {ts : List PT}, RTs K H vs ts → RTs K H' vs ts
  | _, _, .nil => .nil
  | _, _, .cons h r => .cons (h.ext s) (r.ext s)
end
theorem Src.ext {H H1 : Hp} {s : Addr} {n : Nat} (h : Src H s n) (a : ExtN H H1) : Src H1 s n := by
  obtain ⟨l, c, t, h1, h2⟩ := h
  exact ⟨l, c, t, a _ _ h1 (fun ps z => by cases z), h2⟩
theorem tabS {H H' : Hp} {s : Addr} {n : Nat} {TT : List (Addr × Str)} (hs : Src H s n) (h : Tabs TT H) (kp : KeptS H H' s) : Tabs TT H' := by
  obtain ⟨l, c0, t, e0, _⟩ := hs
  intro p hp
  obtain ⟨ps, e, tr, f⟩ := h p hp
  refine ⟨ps, kp _ _ e (ne_of e e0 (by intro z; cases z)), tr, fun pos cv hc => ?_⟩
  obtain ⟨c, rfl, hc2⟩ := f pos cv hc
  exact ⟨c, rfl, kp _ _ hc2 (ne_of hc2 e0 (by intro z; cases z))⟩
theorem tabs_updL {H : Hp} {TT : List (Addr × Str)} {a : Addr} {o : HO} {xs : List V} (h : Tabs TT H) (ha : H a = some (.lst xs)) : Tabs TT (upd H a o) := by
  intro p hp
  obtain ⟨ps, e, tr, f⟩ := h p hp
  refine ⟨ps, by rw [upd_ne (ne_of e ha (by intro z; cases z))]; exact e, tr, fun pos cv hc => ?_⟩
  obtain ⟨c, rfl, hc2⟩ := f pos cv hc
  exact ⟨c, rfl, by rw [upd_ne (ne_of hc2 ha (by intro z; cases z))]; exact hc2⟩
theorem seqN {K : PySem.W.Frag} {H H' : Hp} {a : Addr} {xs : List V} (e : ExtN H H') (h : SqL K H a xs) : SqL K H' a xs := by
  rcases h with (h | ⟨o, h⟩) | h
  · exact .inl (.inl (e _ _ h fun ps z => by cases z))
  · exact .inl (.inr ⟨o, e _ _ h fun ps z => by cases z⟩)
  · exact .inr h
theorem dp_bools {K : PySem.W.Frag} {H : Hp} : ∀ bs : List Bool, DpAll K H (bs.map V.bl) (bs.map PyData.bool)
  | [] => .nil
  | b :: bs => .cons (.bl b) (dp_bools bs)
theorem cut_ints {ns : List Int} {lo hi : Option Int} {x : V} (h : x ∈ cutV (ns.map V.int) lo hi) : ∃ z, x = V.int z := by
  unfold cutV at h
  obtain ⟨z, _, rfl⟩ := List.mem_map.mp (List.mem_of_mem_drop (List.mem_of_mem_take h))
  exact ⟨z, rfl⟩
/-- all but the source and the tables stays -/
def KN (H H' : Hp) (s : Addr) : Prop := ∀ b o, H b = some o → b ≠ s → (∀ ps, o ≠ .tbl ps) → H' b = some o
theorem KN.trans {H H1 H2 : Hp} {s : Addr} (a : KN H H1 s) (b : KN H1 H2 s) : KN H H2 s := fun c o e h n => b c o (a c o e h n) h n
theorem KN.ofK {H H1 : Hp} {s : Addr} (a : KeptS H H1 s) : KN H H1 s := fun c o e h _ => a c o e h
theorem KN.ofE {H H1 : Hp} {s : Addr} (a : ExtN H H1) : KN H H1 s := fun c o e _ n => a c o e n
theorem KN.ofS {H H1 : Hp} {s : Addr} (a : Same H H1) : KN H H1 s := fun c o e _ _ => a c o e
theorem KN.ext {H0 H H1 : Hp} {s : Addr} (e : ExtN H0 H) (hs : H s = none) (k : KN H H1 s) : ExtN H0 H1 := fun b o h n => k b o (e b o h n) (ne_of_none (e b o h n) hs) n
def forBody (s : Stmt) : List Stmt := match s with
  | .For _ _ b _ _ => b
  | _ => []
abbrev qOf (n : Str) : Str := n ++ ".<locals>." ++ "<lambda>"
end K02
set_option Elab.async false
set_option linter.all false
set_option maxRecDepth 100000
set_option maxHeartbeats 2000000
/-! Wg: d.get(k, x) of a dict of the text -/
namespace Wg
open PySem PySem.Spec PyProof.Rows L2
def tWGet2 (K : PySem.W.Frag) (w : World) (td ty tx : TE) : TE := fun σ H Q => td σ H fun x H1 => ∃ (d : Addr) (es : Array DictEntry) (n : Nat), x = .ref d ∧ KDict K w d es n ∧ ty σ H1 fun y H2 => tx σ H2 fun z H3 =>
  ∃ (t : Str) (v : V), y = .str t ∧ ((∃ u, PySem.W.nsIn K d t = some (some u) ∧ RelV v u) ∨ (PySem.W.nsIn K d t = some none ∧ v = z)) ∧ Q v H3
section
variable {X : Cx} {o e f : Expr} {apos cpos : Pos} {td ty tx : TE}
theorem pe_wget2 (ho : PE X o td) (he : PE X e ty) (hf : PE X f tx) (m : M2 X o "get" apos e f cpos) : PE X (.Call (.Attribute o "get" apos) [e, f] [] cpos) (tWGet2 X.K X.w td ty tx) := by
  refine ⟨fun pins s σ H Q I h => ?_⟩
  refine wpAny_Call_method m.base m.few m.line PySem.F.plainAttrs_dict PySem.F.slot_dict_get PySem.F.type_dict_get (thn (ho.run pins s σ H _ I h) fun u s1 ⟨x, H1, I1, rx, d, es, n, ex, D, q1⟩ => ?_)
  subst ex
  obtain rfl : u = Value.ref d := rx
  have hm1 := PySem.W.mapOf_K (prog := X.prog) (w := X.w) I1.kIn D.at_ D.lit
  refine ⟨hm1.typeIs, hm1.noDict, ?_⟩
  rw [m.trees]
  refine Calls.callWith_builtin rfl (Calls.evalArgs_plain (Calls.spliced_cons (thn (he.run pins s1 σ H1 _ I1 q1) fun iv s2 ⟨y, H2, I2, ry, q2⟩ =>
    Calls.spliced_cons (thn (hf.run pins s2 σ H2 _ I2 q2) fun fv s3 ⟨z, H3, I3, rz, t, v, ey, hv, q3⟩ => Calls.spliced_nil ?_))))
  subst ey
  obtain ⟨tk, rfl⟩ := (show ∃ tk, iv = Value.str t tk from ry)
  have hm := PySem.W.mapOf_K (prog := X.prog) (w := X.w) I3.kIn D.at_ D.lit
  refine call_meetsIn PySem.F.slot_dict_get hm.typeIs PySem.F.entry_dict_get (PySem.F.args_dict_get_3 _ _ _) (meets_dict_get_default (strKind X.prog X.w) d (strKind_is X.prog X.w t tk) D.low fv) ⟨_, hm, ?_⟩
  rcases hv with ⟨u, hn, ru⟩ | ⟨hn, rfl⟩
  · rw [PySem.W.find_K D.at_ hn]
    exact ⟨v, H3, I3.tok _, ru, q3⟩
  · rw [PySem.W.find_K D.at_ hn]
    exact ⟨_, H3, I3.tok _, rz, q3⟩
end
end Wg
set_option Elab.async false
set_option linter.all false
set_option maxRecDepth 100000
set_option maxHeartbeats 1000000
/-! Su: methods that say super().m(..): read at their own frame -/
namespace Su
open PySem PySem.Spec PyProof.Rows L2 LamX NdefX PySem.Calls
/-- statements at the own frame -/
structure PAt (X : Cx) (b st : List Stmt) (t : TS) : Prop where
  run : ∀ (pins : List (Addr × Obj)) (s : Shared) (σ : L2.St) (H : Hp) (D : Ends), Inv X pins σ H s → t D σ H → _root_.PySem.wpAt (model X.prog X.w) X.A (.func b X.env) (execs st X.env) (SP X pins D) X.xe s
/-- an expression at the own frame -/
structure SE (X : Cx) (b : List Stmt) (e : Expr) (t : TE) : Prop where
  run : ∀ (pins : List (Addr × Obj)) (s : Shared) (σ : L2.St) (H : Hp) (Q : VK), Inv X pins σ H s → t σ H Q → _root_.PySem.wpAt (model X.prog X.w) X.A (.func b X.env) (eval e X.env) (EP X pins σ Q) X.xe s
section
variable {X : Cx} {b rest sts : List Stmt} {st : Stmt} {t u : TS} {e : Expr} {te : TE} {pos : Pos}
theorem pat_of (h : PSs X sts t) : PAt X b sts t := ⟨fun pins s σ H D I q => _root_.PySem.wpAt_of_wpAny (h.run pins s σ H D I q)⟩
theorem pat_cons (h1 : PS X st t) (h2 : PAt X b rest u) : PAt X b (st :: rest) (tSeq t u) := by
  refine ⟨fun pins s σ H D I h => ?_⟩
  refine ks_wpAt_execs_cons (_root_.PySem.wpAt_of_wpAny (thn (h1.run pins s σ H { D with nx := u D } I h) fun f s1 q => ?_))
  cases f with
  | next =>
    obtain ⟨σ', H', I', q⟩ := q
    exact h2.run pins s1 σ' H' D I' q
  | ret v => exact q
  | brk => exact q
  | cont => exact q
theorem pat_expr (he : SE X b e te) (h2 : PAt X b rest u) (hs : swapsWith e none pos.line X.env = pure false := by rfl) : PAt X b (.Expr e pos :: rest) (tSeq (tDrop te) u) := by
  refine ⟨fun pins s σ H D I h => ?_⟩
  refine ks_wpAt_execs_cons (ks_wpAt_Expr_any (ks_wpAt_mono (he.run pins s σ H _ I h) (fun v s1 q => ?_) fun _ _ x => x) I.quiet hs)
  obtain ⟨x, H1, I1, r1, q1⟩ := q
  exact h2.run pins s1 σ H1 D I1 q1
theorem pat_ret (he : SE X b e te) : PAt X b [.Return (some e) pos] (tRet te) := by
  refine ⟨fun pins s σ H D I h => ?_⟩
  refine ks_wpAt_execs_cons (ks_wpAt_Return_some (ks_wpAt_mono (he.run pins s σ H _ I h) (fun v s1 q => ?_) fun _ _ x => x))
  obtain ⟨x, H1, I1, r1, q1⟩ := q
  exact ⟨x, σ, H1, I1, r1, q1⟩
end
/-- what the written part says of a method f whose class cell cc holds D -/
structure SupK (K : PySem.W.Frag) (P : Program) (mg : Str → Option Value) (f c cc D : Addr) : Prop where
  fn : ∃ (oc : Value) (od : Option Addr) (fd : FuncData) (osl : Array (Option Value)) (ar : Arg), K.lookup f = some ⟨oc, od, .func fd, osl⟩ ∧ (fd.params.posonlyargs ++ fd.params.args).head? = some ar ∧ ar.arg = ("self" : Str)
  code : ∃ (ccl : Value) (cdd : Option Addr) (vs : Array Value) (ccs : Array (Option Value)) (file : Str) (tf : Tok), K.lookup c = some ⟨ccl, cdd, .fields vs, ccs⟩ ∧ vs[2]? = some (.str file tf) ∧ ((P.main.file : Str) == file) = true
  cell : ∃ (cl : Value) (cld : Option Addr) (csl : Array (Option Value)), K.lookup cc = some ⟨cl, cld, .cell (some (.ref D)), csl⟩
  dc : (PySem.W.clsIn K D).isSome = true
  top : (P.main.scope.names.lookup ("super" : Str)).isSome = false
  st : PySem.W.nsIn K cStatics "thirdparty.any" = some none
  mg : mg "super" = none
/-- what stands above D for an object of the class C -/
structure Above (K : PySem.W.Frag) (C D : Addr) (m : Str) (f2 : Addr) : Prop where
  sup : PySem.W.ks_superIn K C D m = some (some (.ref f2))
  sub : PySem.W.mroIn K C (.ref D) = some true
  ty : PySem.W.typeIn K (.ref f2) = some (.type "function")
  fi : PySem.W.fnIn K f2 = true
def tSup (C f2 : Addr) (sp : Sp) (dvs : List V) (E : XK) (t : TA) : TE := fun σ H Q => ∃ x dx fs, σ[0]? = some (some (.ref x)) ∧ H x = some (.ins C dx fs) ∧ ∀ q, H q = none → t σ (upd H q (.met f2 x)) fun vs H2 => H2 q = some (.met f2 x) ∧ sp (.ref x :: (vs ++ dvs)) H2 Q E
section
variable {X : Cx} {CX : CXT} {k : Nat} {f c cc D C f2 : Addr} {fd : FuncData} {ps : List Str} {sp : Sp} {dvs : List V} {ds : List Value} {E : XK} {m : Str} {p0 p1 pos apos : Pos} {es : List Expr} {t : TA} {b : List Stmt}
theorem ev_any {M : Model} {A : Around} {E : Value → Shared → Prop} {s : Shared} {f : Value} {l : List (Bool × Sem Value)} {Q : Args → Shared → Prop} (hp : l.any (·.1) = false)
    (h : wpAny M A (spliced l) (fun vs s' => Q ⟨vs, []⟩ s') E s) : wpAny M A (evalArgs f true l []) Q E s := by
  cases l with
  | nil =>
    unfold evalArgs
    show wpAny M A (spliced [] >>= _) Q E s
    refine wpAny_bind (wpAny_mono h (fun vs s' h' => ?_) fun _ _ x => x)
    exact wpAny_bind (wpAny_pure (wpAny_holding (wpAny_bind (wpAny_pure (wpAny_bind (wpAny_pure (wpAny_pure h')))))))
  | cons a r =>
    obtain ⟨b, x⟩ := a
    have hb : b = false := by
      cases b
      · rfl
      · rw [List.any_cons] at hp
        cases hp
    subst hb
    exact evalArgs_plain h
theorem clsAt {K : PySem.W.Frag} {h : Heap} {D : Addr} (KX : K.In h) (hd : (PySem.W.clsIn K D).isSome = true) : ∃ oD cd, h.get? D = some oD ∧ oD.data = .cls cd := by
  unfold PySem.W.clsIn at hd
  split at hd
  · rename_i c d cd' sl ho
    exact ⟨_, cd', KX _ _ ho, rfl⟩
  · cases hd
theorem se_super {pl : Sem Bool} (U : SupK X.K X.prog X.mg f c cc D) (A : Above X.K C D m f2) (F : FnOk X.prog X.w X.K X.mg X.base CX k f2 fd ps sp) (hr : Room k X.A) (hb : Binds X.K fd ps ds) (hd : Vals dvs ds) (hx : Passes CX X E) (ha : PA X es t)
    (hf : X.env.func = some f) (hc : X.env.code = .ref c) (hcl : X.env.cells.lookup ("__class__" : Str) = some cc) (hks : X.env.kindOf "super" = some .globalImplicit) (hkc : X.env.kindOf "__class__" = some .free) (hN : X.N[0]? = some ("self" : Str)) (hks0 : X.env.kindOf "self" = some .local)
    (hm : (m == ("__class__" : Str)) = false := by decide) (hpl : ((backTo pos (starEach es X.env)).any (·.1) || ([] : List (Option Str × Sem Value)).any (·.1.isNone)) = false := by rfl)
    (he : eval (.Call (.Attribute (.Call (.Name "super" p0) [] [] p1) m apos) es [] pos) X.env = (do
      let ov ← attributeBase (.Call (.Name "super" p0) [] [] p1) m X.env (eval (.Call (.Name "super" p0) [] [] p1) X.env)
      standAt apos.atName
      let (f, first) ← holding [ov] (getMethod ov m pl)
      callWith pos f first (backTo pos (starEach es X.env)) []) := by rfl) :
    SE X b (.Call (.Attribute (.Call (.Name "super" p0) [] [] p1) m apos) es [] pos) (tSup C f2 sp dvs E t) := by
  refine ⟨fun pins s σ H Q I h => ?_⟩
  obtain ⟨x, dx, fs, e0, ex, q⟩ := h
  obtain ⟨oc, od, fd0, osl, ar, lf, hp, har⟩ := U.fn
  obtain ⟨ccl, cdd, vs, ccs, file, tf, lc, hvs, hfile⟩ := U.code
  obtain ⟨cl, cld, csl, lcc⟩ := U.cell
  obtain ⟨oD, cdD, hD1, hD2⟩ := clsAt I.kIn U.dc
  refine ks_wpAt_MethodCall (pl := pl) ?_ he
  refine ks_wpAt_super_base hks hkc hm hf (I.kIn _ _ lf) rfl hp hc (I.kIn _ _ lc) rfl hvs hfile U.top ?_
  obtain ⟨mb, h1, h2⟩ := I.mod.blt
  refine PySem.W.ks_loadName_global I.ok.kind hks (Calls.loadGlobal_builtin (by rw [I.ok.glob]; exact I.mod.glob.keeps I.bk) U.mg (by rw [I.ok.blt]; exact h1.keeps I.bk) ((h2 "super" (by decide)).trans (by decide +kernel)) ⟨rfl, ?_⟩)
  refine wpAny_loadName_free I.ok.kind hkc hcl ⟨_, I.kIn _ _ lcc, rfl⟩ ?_
  rw [har]
  obtain ⟨mm, hn, hl⟩ := I.loc
  obtain ⟨u, ru, l⟩ := hl 0 "self" (.ref x) hN e0 (.inl hks0)
  have hu : mm "self" = some u := by
    rcases l with ⟨_, z⟩ | ⟨z, _⟩
    · exact z
    · rcases z with z | z <;> rw [hks0] at z <;> cases z
  obtain rfl : u = Value.ref x := ru
  refine wpAny_loadName_local I.ok.kind hks0 hn hu ?_
  obtain ⟨hh, g, d, tk, os⟩ := s
  refine ks_wpAny_isType_cls hD1 hD2 ⟨rfl, ?_⟩
  obtain ⟨mA, O, _, _, _, _⟩ := ins_get I.hok ex
  refine ks_wpAny_call_super hD1 hD2 O.obj rfl (fun c e => by cases e) (PySem.W.looks_mroIn I.kIn A.sub) (fun h' hso kp => ?_)
  have I1 : Inv X pins σ H ⟨h', g, d, tk, os⟩ := I.kept kp
  obtain ⟨od2, hof, hofc⟩ : ∃ of, h'.get? f2 = some of ∧ of.cls = .type "function" := by
    have ht' : (X.K.lookup f2).map (·.cls) = some (.type "function") := A.ty
    cases z : X.K.lookup f2 with
    | none => rw [z] at ht'; cases ht'
    | some of => rw [z] at ht'; exact ⟨of, I1.kIn _ _ z, Option.some.inj ht'⟩
  have hsup := A.sup
  cases hcd : PySem.W.clsIn X.K C with
  | none => unfold PySem.W.ks_superIn at hsup; rw [hcd] at hsup; cases hsup
  | some cd =>
    unfold PySem.W.ks_superIn at hsup
    rw [hcd] at hsup
    have xC : x ≠ C := by
      rintro rfl
      obtain ⟨o2, c2, e2, d2⟩ := clsAt I.kIn (show (PySem.W.clsIn X.K x).isSome = true by rw [hcd]; rfl)
      rw [O.obj] at e2
      cases e2
      cases d2
    refine ks_wpAny_getMethod_super hso (PySem.W.looks_opaque I1.kIn U.st) (l₀ := cd.mro) (fun A Q E s k q => wpAny_bind ((PySem.W.looks_clsIn I1.kIn hcd) A _ E s k (wpAny_pure q))) rfl I1.kIn hsup hof hofc xC hm ?_
    have hq0 : H h'.objs.size = none := I1.hok.fresh (Nat.le_refl _)
    have I2 : Inv X pins σ (upd H h'.objs.size (.met f2 x)) ⟨h'.push (PySem.W.methodObj (.ref f2) (.ref x)), g, d, tk + 1, os⟩ :=
      I1.laid (t' := tk + 1) (a := h'.objs.size) (o := .met f2 x) (fun b u z => Heap.get?_push_of_some _ z) (Nat.le_refl _) (show (h'.push (PySem.W.methodObj (.ref f2) (.ref x))).get? h'.objs.size = some (PySem.W.methodObj (.ref f2) (.ref x)) from Heap.get?_push_size h' rfl)
    refine callwith_met (X := X) (q := h'.objs.size) (a := x) hpl A.fi ?_
    refine ev_any (by rw [List.any_nil, Bool.or_false] at hpl; exact hpl) (thn (ha.run pos pins _ σ _ _ I2 (q _ hq0)) fun us s2 ⟨vs2, H2, I3, rv, eq, q2⟩ => ⟨met_P I3 eq, ?_⟩)
    have r2 : Vals (V.ref x :: (vs2 ++ dvs)) (Value.ref x :: (us ++ ds)) := .cons rfl (rv.append hd)
    have hl : (Value.ref x :: us ++ ds).length = ps.length := by
      have e := r2.length
      rw [F.len _ _ _ _ q2] at e
      exact e.symm
    refine wpAny_call (call_met I3 eq (codeAny_mono (F.run X.A X.stack s2 H2 ⟨Value.ref x :: us, []⟩ (Value.ref x :: (us ++ ds)) _ Q E hr I3.env0 (hb s2 (Value.ref x :: us) I3.kIn hl) r2 q2) fun r s' hq => ?_))
    cases r with
    | error e => exact hx pins σ H2 s2 e s' I3 hq
    | ok fl =>
      cases fl with
      | ret u => exact I3.after hq
      | next => exact False.elim hq
      | brk => exact False.elim hq
      | cont => exact False.elim hq
end
/-- a method whose body says super() -/
structure FunS (K : PySem.W.Frag) (P : Program) (mg : Str → Option Value) (name qual : Str) (st : Stmt) (f c cc D : Addr) (fd : FuncData) : Prop where
  ex : ∃ (oc : Value) (od : Option Addr) (dV kV doc pm : Value) (an : Option Addr) (ct : Value) (osl : Array (Option Value)),
    fd = PySem.W.ksFn name qual (defArgs st) (defBody st) (defScope st) dV kV doc pm an (.ref c) ct cc ∧ K.lookup f = some ⟨oc, od, .func fd, osl⟩ ∧ PySem.W.codeIn K (.ref c) qual = true
  sup : SupK K P mg f c cc D
abbrev nfS (name qual : Str) (st : Stmt) (c cc : Addr) : NF := ⟨name, qual, defArgs st, defBody st, defScope st, [("__class__", cc)], c⟩
section
variable {CX : CXT} {P : Program} {w : World} {K : PySem.W.Frag} {mg : Str → Option Value} {base : Heap} {N ps : List Str} {name qual : Str} {st : Stmt} {f c cc D : Addr} {fd : FuncData} {k : Nat} {sp : Sp}
/-- THE RULE: a method that says super() by its body -/
theorem FunS.okX (F : FunS K P mg name qual st f c cc D fd) (S : NScope N ps ["__class__"] (defScope st)) (len : ∀ vs H Q E, sp vs H Q E → vs.length = ps.length)
    (hbody : ∀ (A : Around) (outer : List Env) (s : Shared) (H : Hp) (vs : List V) (Q : VK) (E : XK), Room k (A.deeper (envF (nfS name qual st c cc) f s.heap.objs.size)) → sp vs H Q E →
      ∃ t, PAt (ncx CX P w K mg base N (nfS name qual st c cc) f A outer s H E) (defBody st) (defBody st) t ∧ t { nx := fun _ H' => Q .non H', rt := Q } (startF N vs [some (.ref D)]) H) :
    FnOk P w K mg base CX (k + 1) f fd ps sp := by
  obtain ⟨oc, od, dV, kV, doc, pm, an, ct, osl, rfl, lk, hcd⟩ := F.ex
  obtain ⟨cl, cld, csl, lcc⟩ := F.sup.cell
  refine ⟨len, fun A outer s H args us vs Q E hr e0 hb r hsp => ?_⟩
  have hl := len _ _ _ _ hsp
  have KX : K.In s.heap := e0.mod.kin.keeps fun b o e => (e0.bs b o e).1
  have lim : s.heap.NoLimit := e0.mod.nolimit.keeps fun b o e => (e0.bs b o e).1
  refine codeAny_call_function hr.depth (KX _ _ lk) rfl S.co S.gen rfl (PySem.W.codeRec_of KX hcd) (hb _ _ _ _ ?_)
  refine wpAny_newFunctionEnv S.nocell (fun ⟨n, _⟩ hy => S.par n (List.of_mem_zip hy).1) (fun h₁ hns hsb => ⟨lim.fresh _ hsb, ?_⟩) S.kind
  show codeAny _ _ (.func (defBody st) (envF (nfS name qual st c cc) f s.heap.objs.size)) _ _
  refine ks_codeAny_funcAt ?_
  have kp : ∀ b o, s.heap.get? b = some o → h₁.get? b = some o := fun b o e => hsb.extBut b o (Nat.ne_of_lt (Heap.lt_size e)) (Heap.get?_push_of_some _ e)
  have C : CellsAt [(("__class__" : Str), cc)] ["__class__"] [some (.ref D)] s.heap H := by
    have hcc : s.heap.IsCell cc (some (.ref D)) := ⟨_, KX _ _ lcc, rfl⟩
    have hn : H cc = none := (e0.bs cc _ (e0.mod.kin _ _ lcc)).2
    have one : ∀ {y : Str} {c : Addr}, ([(("__class__" : Str), cc)] : List (Str × Addr)).lookup y = some c → y = "__class__" ∧ c = cc := fun {y c} e => by
      simp only [List.lookup] at e
      split at e
      · rename_i z
        exact ⟨by simpa using z, (Option.some.inj e).symm⟩
      · cases e
    refine ⟨rfl, fun y c e => ?_, fun x y c a b => ?_, fun i y hi => ?_⟩
    · obtain ⟨_, rfl⟩ := one e
      exact ⟨hn, _, hcc⟩
    · exact (one a).1.trans (one b).1.symm
    · cases i with
      | zero =>
        cases hi
        refine ⟨cc, rfl, fun v hv => ?_⟩
        cases hv
        exact ⟨_, rfl, hcc⟩
      | succ i => cases i <;> cases hi
  obtain ⟨t, ht, hq⟩ := hbody A outer s H vs Q E (hr.deeper _) hsp
  have I : Inv (ncx CX P w K mg base N (nfS name qual st c cc) f A outer s H E) [] (startF N vs [some (.ref D)]) H { s with heap := h₁, toks := s.toks + (ps.zip us).length } := inv_startN (F := nfS name qual st c cc) S hr.hd e0 hl r C hns kp
  refine ks_wpAt_mono (ht.run [] _ (startF N vs [some (.ref D)]) H _ I hq) (fun fl s' hs => ?_) fun e s' hs => hs
  have fin : ∀ {σ' : L2.St} {H' : Hp} {v : V} {u : Value}, Inv (ncx CX P w K mg base N (nfS name qual st c cc) f A outer s H E) [] σ' H' s' → L2.RelV v u → Q v H' → CE outer P w H s Q u s' :=
    fun {σ' H' v u} J rv q => ⟨v, H', J.os, J.bare, J.base, J.hok, rv, q⟩
  cases fl with
  | ret u =>
    obtain ⟨v, σ', H', J, rv, q⟩ := hs
    exact fin J rv q
  | next =>
    obtain ⟨σ', H', J, q⟩ := hs
    exact fin (v := V.non) (u := Value.none) J rfl q
  | brk =>
    obtain ⟨_, _, _, q⟩ := hs
    exact False.elim q
  | cont =>
    obtain ⟨_, _, _, q⟩ := hs
    exact False.elim q
end
end Su
set_option Elab.async false
set_option linter.all false
set_option maxRecDepth 100000
set_option maxHeartbeats 1000000
/-! En: enumerate of a tuple, of a list or tuple; loops over a list or tuple -/
namespace En
open PySem PySem.Spec PyProof.Rows L2
theorem meets1 {v : Value} {o : Obj} {H : Heap → Prop} (B : Begins v o H) :
    Meets (Builtin.«enumerate.__new__» ⟨[.type "enumerate", v], []⟩) (fun _ R s => H s.heap ∧
      R (.ok (.ret (.ref (s.heap.push o).objs.size))) { s with heap := (s.heap.push o).push { cls := .type "enumerate", data := .fields #[.none, .bool false, .ref s.heap.objs.size, rawInt 0, .none, .none] } }) :=
  .of_wp fun prog w A R s h => by
    obtain ⟨hp, g, d, tk, os⟩ := s; obtain ⟨h1, h⟩ := h
    have hsub := sub_enumerate
    have q1 : ∀ {A' : Around} {E : Value → Shared → Prop} {Q : Value → Shared → Prop}, Q (.ref hp.objs.size) ⟨hp.push o, g, d, tk, os⟩ → wpAny (model prog w) A' (pyIter v) Q E ⟨hp, g, d, tk, os⟩ :=
      fun q => B.iter prog w _ _ ⟨hp, g, d, tk, os⟩ _ h1 q
    wp_walk using q1
    refine wpAny_stack_any fun st => wpAny_pure ?_
    split
    · rename_i c _ _ _ _ _
      cases (c == Value.type "enumerate")
      · wp_walk using q1
        exact ⟨_, rfl, h⟩
      · wp_walk using q1
        exact ⟨_, rfl, h⟩
    · wp_walk using q1
      exact ⟨_, rfl, h⟩
section
variable {prog : Program} {w : World} {A : Around} {E : Value → Shared → Prop} {s : Shared}
theorem begins1 {v : Value} {o : Obj} {H : Heap → Prop} {Q : Value → Shared → Prop} (B : Begins v o H) (h1 : H s.heap)
    (h : ∀ h', IsEnum h' (s.heap.objs.size + 1) s.heap.objs.size 0 .none → h'.get? s.heap.objs.size = some o → h'.objs.size = s.heap.objs.size + 2 →
      (∀ b o, s.heap.get? b = some o → h'.get? b = some o) → Q (.ref (s.heap.objs.size + 1)) { s with heap := h' }) :
    wpAny (model prog w) A (call (.type "enumerate") [v]) Q E s := by
  refine callType_new F.called_enumerate (by decide) (F.typeCall_enumerate_1 _) (F.newCall_enumerate_1 _) (fun obj => F.args_object_init_2 obj _) F.entry_enumerate_new
    (meets1 B) ⟨h1, ?_⟩
  have hz : (s.heap.push o).objs.size = s.heap.objs.size + 1 := Heap.size_push ..
  show _ ∧ _
  rw [hz]
  have he : IsEnum ((s.heap.push o).push { cls := .type "enumerate", data := .fields #[.none, .bool false, .ref s.heap.objs.size, rawInt 0, .none, .none] }) (s.heap.objs.size + 1) s.heap.objs.size 0 .none := by
    have := Heap.get?_push_size (s.heap.push o) (o := { cls := .type "enumerate", data := .fields #[.none, .bool false, .ref s.heap.objs.size, rawInt 0, .none, .none] }) rfl
    rw [hz] at this; exact this
  refine ⟨⟨_, he, rfl⟩, h _ he (Heap.get?_push_of_some _ (Heap.get?_push_size _ B.free)) (by rw [Heap.size_push, hz]) fun b o x => Heap.get?_push_of_some _ (Heap.get?_push_of_some _ x)⟩
end
section
variable {prog : Program} {w : World} {A : Around} {E : Value → Shared → Prop} {s : Shared}
theorem endT {e it t : Addr} {i : Nat} {items : Array Value} {k : Int} {old : Value} {Q : Option Value → Shared → Prop} (hh : A.handled = none) (he : IsEnum s.heap e it k old) (hit : s.heap.IsTupleIter it t i) (ht : s.heap.IsTuple t items) (hx : items[i]? = none)
    (hQ : ∀ h', Heap.ExtBut it s.heap h' → Q none { s with heap := h' }) : wpAny (model prog w) A (pyNext (.ref e)) Q E s := by
  have hT : s.TypeIs (.ref e) "enumerate" := ⟨_, he, rfl⟩
  unfold pyNext
  refine wpAny_bind (wpAny_attempt (wpAny_callSpecial?_slot (name := Str.ofString "__next__") hT F.slot_enumerate_next
    (wpAny_call_entry F.slot_enumerate_next hT F.entry_enumerate_next ?_ (F.args_enumerate_next_1 _))))
  show wpAny _ _ (field (.ref e) 2 >>= _) _ _ _
  refine wpAny_bind (wpAny_field he rfl (x := .ref it) rfl ?_)
  refine wpAny_bind (wpAny_nextOf_tuple_end hh hit ht hx fun h' x he' hx' => ?_)
  obtain ⟨o, ho, hc⟩ := hx'
  refine wpAny_bind (wpAny_isInstance (T := "StopIteration") (b := true) ⟨o, ho, hc⟩ isSubtype_stop ?_)
  exact wpAny_pure (hQ _ he')
end
/-- the tuple at a, each item in a new pair -/
def IteT (K : PySem.W.Frag) (a : Addr) : It :=
  ⟨fun i H => ∃ (xs : List V) (x : V), SqT K H a xs ∧ xs[i]? = some x, fun i H v H' => ∃ T x, v = .ref T ∧ H T = none ∧ H' = upd H T (.tup [.int (i : Nat), x]) ∧ ∀ xs, SqT K H a xs → xs[i]? = some x, fun i H => ∃ xs : List V, SqT K H a xs ∧ xs.length ≤ i⟩
theorem turn_enumT {P : Program} {w : World} {K : PySem.W.Frag} {elts : List Expr} {kk : Nat} {tpos : Pos} (a e it : Addr) :
    Turn P w K (.Tuple elts kk tpos) (IteT K a) [e, it] e (fun i h => (∃ old, IsEnum h e it ((i : Nat) : Int) old) ∧ h.IsTupleIter it a i ∧ e ≠ it ∧ a ≠ it ∧ a ≠ e) where
  mem := by simp
  obj := fun i h st b hb => by
    obtain ⟨⟨old, he⟩, ⟨o, ho, hc, hd⟩, _⟩ := st
    have e' : b = e ∨ b = it := by simpa using hb
    rcases e' with z | z
    · rw [z]; exact ⟨_, he, fun v q => nomatch q⟩
    · rw [z]; exact ⟨o, ho, fun v q => by rw [hd] at q; cases q⟩
  keep := fun i h h' st k => let ⟨⟨old, he⟩, hi, hne⟩ := st; ⟨⟨old, k e (by simp) _ he⟩, hi.at fun o q => k it (by simp) o q, hne⟩
  item := by
    intro X hP hw hK hc i pins s σ H E I hf st hg
    subst hP hw hK
    obtain ⟨⟨old, he⟩, hit, hne, hai, hae⟩ := st
    obtain ⟨xs, x, hq, hx⟩ := hg
    obtain ⟨its, rv, p, hz⟩ := I.tuple hq
    obtain ⟨u, hu, ru⟩ := rv.get hx
    have hu' : its.toArray[i]? = some u := by simpa using hu
    have hlt : i < its.toArray.size := (Array.getElem?_eq_some_iff.mp hu').1
    have pt : s.heap.IsTuple a its.toArray := p
    have hel : e < s.heap.objs.size := Heap.lt_size he
    have hil : it < s.heap.objs.size := by obtain ⟨_, q, _⟩ := hit; exact Heap.lt_size q
    refine wpAny_pyNext_enum_itemD (Draws.tuple (A := X.A.in1) (show X.A.in1.handled = none from I.ok.hd hc) it a hai its.toArray) he (show s.heap.IsTupleIter it a i ∧ s.heap.IsTuple a its.toArray from ⟨hit, pt⟩) hlt hne (by
      intro hm
      rcases List.mem_cons.mp hm with z | hm
      · exact hne z
      · exact hae (List.mem_singleton.mp hm).symm) fun u2 h' tk hP ho hst hT hsz hk => ?_
    have hue : u2 = u := by
      have hP : its.toArray[i]? = some u2 := hP
      rw [hu'] at hP
      exact (Option.some.inj hP).symm
    subst hue
    refine ⟨_, rfl, wpAny_letOwnedTupleGo_enum (s := { s with heap := h', toks := tk + 1 }) ho fun h'' he' sb => ?_⟩
    have hT2 : h''.get? s.heap.objs.size = some { cls := .type "tuple", data := .seq #[.int i tk, u2] } := (sb.2 _ (Nat.ne_of_gt hel)).trans hT
    have new : ObjOk X.prog X.w (upd H s.heap.objs.size (.tup [.int (i : Nat), x])) h'' s.heap.objs.size (.tup [.int (i : Nat), x]) :=
      ⟨by show 2 ≤ sizeLine; decide, [.int i tk, u2], .cons ⟨_, rfl⟩ (.cons ru .nil), ⟨_, hT2, rfl, _, rfl⟩⟩
    have I1 : Inv X pins σ (upd H s.heap.objs.size (.tup [.int (i : Nat), x])) { s with heap := h'', toks := tk + 1 } :=
      I.turnedNew (ch := [e, it]) (fun b ob hb q => (sb.2 b (fun z => hb (by simp [z]))).trans (hk b ob (fun z => hb (by simp [z])) (fun z => hb (by simp [z])) q)) hf (Nat.le_refl _) new
    refine ⟨.ref s.heap.objs.size, _, I1, rfl, ⟨_, x, rfl, I.hok.fresh (Nat.le_refl _), rfl, fun ys hy => by rw [I.tuple_inj hy hq]; exact hx⟩, ⟨⟨u2, ?_⟩, hst.1.at fun o q => (sb.2 it (Ne.symm hne)).trans q, hne, hai, hae⟩, fun b hb => ?_⟩
    · have e1 : ((i + 1 : Nat) : Int) = (i : Int) + 1 := by omega
      rw [e1]; exact he'
    · have hb' : b < s.heap.objs.size := by
        have e' : b = e ∨ b = it := by simpa using hb
        rcases e' with z | z
        · rw [z]; exact hel
        · rw [z]; exact hil
      rw [upd_ne (Nat.ne_of_lt hb')]
      exact (hf b hb).1
  done := by
    intro X hP hw hK hc i pins s σ H E I hf st hg
    subst hP hw hK
    obtain ⟨⟨old, he⟩, hit, hne, hai, hae⟩ := st
    obtain ⟨xs, hq, hx⟩ := hg
    obtain ⟨its, rv, p, hz⟩ := I.tuple hq
    obtain ⟨f0, f1, f2, f3, f4, f5⟩ := hf it (by simp)
    have hl := rv.length
    have pt : s.heap.IsTuple a its.toArray := p
    exact endT (I.ok.hd hc) he hit pt (by simp; omega) fun h' eb => ⟨rfl, I.turned (t' := s.toks) (fun b o hb q => eb b o hb q) f0 f1 f3 f4 f5⟩
  self := fun A i s Q E st h => let ⟨⟨_, he⟩, _⟩ := st; wpAny_pyIter_enum he h
/-- enumerate(a list or tuple) -/
def iEnumB (K : PySem.W.Frag) (ta : TA) : TI := fun σ H R => ta σ H fun vs H1 => ∃ a xs, vs = [.ref a] ∧ ((SqL K H1 a xs ∧ R (Ite K a) H1) ∨ (SqT K H1 a xs ∧ R (IteT K a) H1))
theorem pi_enumB {X : Cx} {e : Expr} {ta : TA} {p pos tpos : Pos} {elts : List Expr} {kk : Nat} (hg : Gl X "enumerate") (hm : X.mg "enumerate" = none) (ha : PA X [e] ta) (hs : starEach [e] X.env = [(false, eval e X.env)] := by rfl) :
    PI X (.Tuple elts kk tpos) (.Call (.Name "enumerate" p) [e] [] pos) (iEnumB X.K ta) := by
  refine ⟨fun pins s σ H R I h => ?_⟩
  refine Call_ (ld_blt I hg hm boot_enumerate (PyProof.Rows.callWith_type1 (thn (ha.run pos pins s σ H _ I h) fun us s1 ⟨vs, H1, I1, r1, q1⟩ => ?_) hs rfl))
  obtain ⟨a, xs, ex, q1⟩ := q1
  subst ex
  cases r1 with
  | cons r rr =>
    cases rr
    cases r
    have fps : ∀ {h' : Heap} (I2 : Inv X pins σ H1 { s1 with heap := h' }), ∀ b ∈ [s1.heap.objs.size + 1, s1.heap.objs.size], s1.heap.objs.size ≤ b := fun I2 b hb => by
      have e' : b = s1.heap.objs.size + 1 ∨ b = s1.heap.objs.size := by simpa using hb
      rcases e' with z | z
      · rw [z]; exact Nat.le_add_right _ _
      · rw [z]; exact Nat.le_refl _
    rcases q1 with ⟨hq, q⟩ | ⟨hq, q⟩
    · obtain ⟨its, rv, p', hz⟩ := I1.list hq
      refine call_enumerate_list p'.isList fun h' he hit hsz hk => wpAny_pyIter_enum he ?_
      have I2 : Inv X pins σ H1 { s1 with heap := h' } := I1.kept (t' := s1.toks) hk
      refine ⟨s1.heap.objs.size + 1, [s1.heap.objs.size + 1, s1.heap.objs.size], _, _, H1, rfl, I2, turn_enum a (s1.heap.objs.size + 1) s1.heap.objs.size, ⟨⟨.none, he⟩, hit, Nat.succ_ne_self _⟩, fun b hb => I1.fpOk (fps I2 b hb) (I1.hok.fresh (fps I2 b hb)), q⟩
    · obtain ⟨its, rv, p', hz⟩ := I1.tuple hq
      have pt : s1.heap.IsTuple a its.toArray := p'
      have hal : a < s1.heap.objs.size := by obtain ⟨_, q, _⟩ := pt; exact Heap.lt_size q
      refine begins1 (begins_tuple a its.toArray) pt fun h' he hit hsz hk => wpAny_pyIter_enum he ?_
      have I2 : Inv X pins σ H1 { s1 with heap := h' } := I1.kept (t' := s1.toks) hk
      refine ⟨s1.heap.objs.size + 1, [s1.heap.objs.size + 1, s1.heap.objs.size], _, _, H1, rfl, I2, turn_enumT a (s1.heap.objs.size + 1) s1.heap.objs.size, ⟨⟨.none, he⟩, ⟨_, hit, rfl, rfl⟩, Nat.succ_ne_self _, Nat.ne_of_lt hal, Nat.ne_of_lt (Nat.lt_succ_of_lt hal)⟩, fun b hb => I1.fpOk (fps I2 b hb) (I1.hok.fresh (fps I2 b hb)), q⟩
/-- one of two walks -/
theorem pi_or {X : Cx} {tg e : Expr} {a b : TI} (ha : PI X tg e a) (hb : PI X tg e b) : PI X tg e (fun σ H R => a σ H R ∨ b σ H R) := ⟨fun pins s σ H R I h => h.elim (ha.run pins s σ H R I) (hb.run pins s σ H R I)⟩
theorem for_enumT {K : PySem.W.Frag} {a : Addr} {xs : List V} {g : TG} {tb : TS} {D : Ends} {σ : L2.St} {H : Hp} (Pv : Nat → L2.St → Hp → Prop) (h0 : Pv 0 σ H) (hl : ∀ i σ H, i ≤ xs.length → Pv i σ H → SqT K H a xs)
    (hs : ∀ i x T σ H, xs[i]? = some x → Pv i σ H → H T = none → g (.ref T) σ (upd H T (.tup [.int (i : Nat), x])) fun σ2 H2 => tb { D with nx := Pv (i + 1), ct := Pv (i + 1), bk := D.nx } σ2 H2) (hd : ∀ σ H, Pv xs.length σ H → D.nx σ H) :
    ∃ W : Nat → Nat → L2.St → Hp → Prop, (∃ m, W 0 m σ H) ∧ ∀ i m σ H, W i m σ H →
      ((IteT K a).stop i H ∧ D.nx σ H) ∨ ((IteT K a).go i H ∧ ∃ N : L2.St → Hp → Prop, (∀ σ' H', N σ' H' → ∃ m', m' < m ∧ W (i + 1) m' σ' H') ∧ ∀ x H', (IteT K a).yld i H x H' → g x σ H' fun σ2 H2 => tb { D with nx := N, ct := N, bk := D.nx } σ2 H2) := by
  refine ⟨fun i m σ H => m = xs.length - i ∧ i ≤ xs.length ∧ Pv i σ H, ⟨xs.length, by simp, Nat.zero_le _, h0⟩, ?_⟩
  rintro i m σ H ⟨rfl, hi, p⟩
  have q := hl i σ H hi p
  by_cases hlt : i < xs.length
  · refine .inr ⟨⟨xs, xs[i], q, by simp [hlt]⟩, Pv (i + 1), fun σ' H' p' => ⟨xs.length - (i + 1), by omega, rfl, hlt, p'⟩, fun x H' y => ?_⟩
    obtain ⟨T, x, rfl, hT, rfl, hx⟩ := y
    exact hs i x T σ H (hx xs q) p hT
  · have e : i = xs.length := by omega
    subst e
    exact .inl ⟨⟨xs, q, Nat.le_refl _⟩, hd σ H p⟩
theorem lc_enumL {K : PySem.W.Frag} {a : Addr} {xs : List V} {g : TG} {tt : TT} {te : TE} {vs : List Nat} {σ : L2.St} {H1 : Hp} {D : Addr} {Qd : Hp → Prop} (Pv : Nat → Hp → Prop) (h0 : Pv 0 (upd H1 D (.lst []))) (hl : ∀ i H, i ≤ xs.length → Pv i H → SqL K H a xs)
    (hs : ∀ i x T H, xs[i]? = some x → Pv i H → H T = none → g (.ref T) (wipe σ vs) (upd H T (.tup [.int (i : Nat), x])) fun σ2 H2 => wipe σ2 vs = wipe σ vs ∧ tt σ2 H2 fun b H3 =>
      if b = true then te σ2 H3 fun y H4 => ∃ acc, H4 D = some (.lst acc) ∧ acc.length < sizeLine ∧ Pv (i + 1) (upd H4 D (.lst (acc ++ [y]))) else Pv (i + 1) H3) (hd : ∀ H, Pv xs.length H → Qd H) :
    ∃ W : Nat → Nat → Hp → Prop, (∃ m, W 0 m (upd H1 D (.lst []))) ∧ ∀ i m H, W i m H →
      ((Ite K a).stop i H ∧ Qd H) ∨ ((Ite K a).go i H ∧ ∃ Nx : Hp → Prop, (∀ H', Nx H' → ∃ m', m' < m ∧ W (i + 1) m' H') ∧ ∀ x H', (Ite K a).yld i H x H' → g x (wipe σ vs) H' fun σ2 H2 => wipe σ2 vs = wipe σ vs ∧ tt σ2 H2 fun b H3 =>
        if b = true then te σ2 H3 fun y H4 => ∃ acc, H4 D = some (.lst acc) ∧ acc.length < sizeLine ∧ Nx (upd H4 D (.lst (acc ++ [y]))) else Nx H3) := by
  refine ⟨fun i m H => m = xs.length - i ∧ i ≤ xs.length ∧ Pv i H, ⟨xs.length, by simp, Nat.zero_le _, h0⟩, ?_⟩
  rintro i m H ⟨rfl, hi, p⟩
  have q := hl i H hi p
  by_cases hlt : i < xs.length
  · refine .inr ⟨⟨xs, xs[i], q, by simp [hlt]⟩, Pv (i + 1), fun H' p' => ⟨xs.length - (i + 1), by omega, rfl, hlt, p'⟩, fun x H' y => ?_⟩
    obtain ⟨T, x, rfl, hT, rfl, hx⟩ := y
    exact hs i x T H (hx xs q) p hT
  · have e : i = xs.length := by omega
    subst e
    exact .inl ⟨⟨xs, q, Nat.le_refl _⟩, hd H p⟩
theorem lc_enumT {K : PySem.W.Frag} {a : Addr} {xs : List V} {g : TG} {tt : TT} {te : TE} {vs : List Nat} {σ : L2.St} {H1 : Hp} {D : Addr} {Qd : Hp → Prop} (Pv : Nat → Hp → Prop) (h0 : Pv 0 (upd H1 D (.lst []))) (hl : ∀ i H, i ≤ xs.length → Pv i H → SqT K H a xs)
    (hs : ∀ i x T H, xs[i]? = some x → Pv i H → H T = none → g (.ref T) (wipe σ vs) (upd H T (.tup [.int (i : Nat), x])) fun σ2 H2 => wipe σ2 vs = wipe σ vs ∧ tt σ2 H2 fun b H3 =>
      if b = true then te σ2 H3 fun y H4 => ∃ acc, H4 D = some (.lst acc) ∧ acc.length < sizeLine ∧ Pv (i + 1) (upd H4 D (.lst (acc ++ [y]))) else Pv (i + 1) H3) (hd : ∀ H, Pv xs.length H → Qd H) :
    ∃ W : Nat → Nat → Hp → Prop, (∃ m, W 0 m (upd H1 D (.lst []))) ∧ ∀ i m H, W i m H →
      ((IteT K a).stop i H ∧ Qd H) ∨ ((IteT K a).go i H ∧ ∃ Nx : Hp → Prop, (∀ H', Nx H' → ∃ m', m' < m ∧ W (i + 1) m' H') ∧ ∀ x H', (IteT K a).yld i H x H' → g x (wipe σ vs) H' fun σ2 H2 => wipe σ2 vs = wipe σ vs ∧ tt σ2 H2 fun b H3 =>
        if b = true then te σ2 H3 fun y H4 => ∃ acc, H4 D = some (.lst acc) ∧ acc.length < sizeLine ∧ Nx (upd H4 D (.lst (acc ++ [y]))) else Nx H3) := by
  refine ⟨fun i m H => m = xs.length - i ∧ i ≤ xs.length ∧ Pv i H, ⟨xs.length, by simp, Nat.zero_le _, h0⟩, ?_⟩
  rintro i m H ⟨rfl, hi, p⟩
  have q := hl i H hi p
  by_cases hlt : i < xs.length
  · refine .inr ⟨⟨xs, xs[i], q, by simp [hlt]⟩, Pv (i + 1), fun H' p' => ⟨xs.length - (i + 1), by omega, rfl, hlt, p'⟩, fun x H' y => ?_⟩
    obtain ⟨T, x, rfl, hT, rfl, hx⟩ := y
    exact hs i x T H (hx xs q) p hT
  · have e : i = xs.length := by omega
    subst e
    exact .inl ⟨⟨xs, q, Nat.le_refl _⟩, hd H p⟩
end En
set_option Elab.async false
set_option linter.all false
set_option maxRecDepth 100000
set_option maxHeartbeats 4000000
namespace K02
open PySem L2 Xo Su
abbrev cKey : Stmt := top 23
abbrev cTrk : Stmt := top 24
abbrev cFak : Stmt := top 25
abbrev cTfk : Stmt := top 26
abbrev cDrk : Stmt := top 27
abbrev cLok : Stmt := top 28
abbrev sNLabel : Stmt := top 20
abbrev sNFilled : Stmt := top 21
/-! ### steps -/
def wordsL : List (Str × Nat) := [("put", 3), ("drop", 2), ("clear", 1), ("compact", 1), ("shrink", 1), ("reserve", 2), ("grow", 0), ("take", 0)]
def wordN (z : Str) : Option Nat := (wordsL.find? fun q => decide (q.1 = z)).map (·.2)
def PT.fits : PT → Bool
  | .tup (.str z :: ts) => decide (wordN z = some (ts.length + 1))
  | _ => false
def PT.seen : PT → Bool
  | .tup (.str z :: _) => (wordN z).isSome
  | _ => true
/-- what the dict of the text has at these words -/
structure Wd (K : PySem.W.Frag) (w : World) (mg : Str → Option Value) (d : Addr) (es : Array DictEntry) (n : Nat) : Prop where
  g : mg "STEP_ITEMS" = some (.ref d)
  D : KDict K w d es n
  at_ : ∀ p ∈ wordsL, (∃ t, PySem.W.nsIn K d p.1 = some (some (.int (p.2 : Int) t))) ∨ (PySem.W.nsIn K d p.1 = some none ∧ p.2 = 0)
theorem Wd.word {K : PySem.W.Frag} {w : World} {mg : Str → Option Value} {d : Addr} {es : Array DictEntry} {n : Nat} (W : Wd K w mg d es n) {z : Str} {k : Nat} (h : wordN z = some k) : (∃ t, PySem.W.nsIn K d z = some (some (.int (k : Int) t))) ∨ (PySem.W.nsIn K d z = some none ∧ k = 0) := by
  unfold wordN at h
  obtain ⟨p, hp, rfl⟩ := Option.map_eq_some_iff.mp h
  have e : p.1 = z := of_decide_eq_true (List.find?_some (p := fun q : Str × Nat => decide (q.1 = z)) hp)
  have := W.at_ p (List.mem_of_find?_eq_some hp)
  rw [e] at this
  exact this
def badAt (p : PT → Bool) (ts : List PT) : Option Nat := ts.findIdx? fun t => !p t
def PT.stepBad : PT → Option Nat
  | .tup ts => badAt PT.fits ts
  | _ => some 0
def PT.seenAll : PT → Bool
  | .tup ts => ts.all PT.seen
  | _ => true
def PT.filled : PT → Bool
  | .tup (_ :: _) => true
  | _ => false
def PT.codesOk : PT → Bool
  | .tup (t :: ts) => (t :: ts).all PT.isCode
  | _ => false
def OutI (C : Addr) (fld : Str) (y : V) (H : Hp) (E : L2.XK) : Prop := ∀ d : Addr, H d = none → E (.ref C) (some d) (upd H d (.xd [(fld, y)]))
theorem bad_none {p : PT → Bool} {ts : List PT} (h : ∀ t ∈ ts, p t = true) : badAt p ts = none := by
  unfold badAt
  rw [List.findIdx?_eq_none_iff]
  intro t ht
  rw [h t ht]
  rfl
theorem bad_first {p : PT → Bool} {ts : List PT} {i : Nat} {t : PT} (ht : ts[i]? = some t) (hp : p t = false) (hb : ∀ j t, j < i → ts[j]? = some t → p t = true) : badAt p ts = some i := by
  unfold badAt
  rw [List.findIdx?_eq_some_iff_getElem]
  obtain ⟨hi, e⟩ := List.getElem?_eq_some_iff.mp ht
  refine ⟨hi, by rw [e, hp]; rfl, fun j hj => ?_⟩
  have := hb j (ts[j]'(by omega)) hj (List.getElem?_eq_getElem (by omega))
  rw [this]
  decide
section
variable {P : Program} {w : World} {K : PySem.W.Frag} {mg : Str → Option Value} {base : Heap}
def spNLabel (K : PySem.W.Frag) (C : Addr) : Sp := fun vs H Q E => ∃ (v : V) (t : PT), vs = [v] ∧ RT K H v t ∧ (t.okText = true → ∀ H', Same H H' → Q .non H') ∧ (t.okText = false → ∀ H', Same H H' → OutE C "reason" H' E)
theorem scNLabel : FnScope ["label"] ["label"] (defScope sNLabel) := ⟨rfl, rfl, rfl, by decide +kernel, rfl, by decide +kernel, by decide +kernel⟩
theorem ok_nLabel {f f1 C : Addr} {fd fd1 : FuncData} (D : Df K mg "_need_label" "_need_label" sNLabel ["label"] f fd) (D1 : Df K mg "is_text" "is_text" sText ["thing"] f1 fd1) (G1 : FnOk P w K mg base CX0 2 f1 fd1 ["thing"] (spText K)) (x : XK P w K mg base "BadKey" C "reason") :
    FnOk P w K mg base (L2.CX P w) 3 f fd ["label"] (spNLabel K C) := by
  refine D.F.okX scNLabel (fun vs H Q E h => ?_) (fun cdv A outer s H vs Q E hr h => ?_)
  · obtain ⟨n, t, rfl, _⟩ := h
    rfl
  · obtain ⟨v, t, rfl, o, k1, k2⟩ := h
    refine ⟨_, pss_one (ps_if (pt_not (pt_val (pe_call G1 hr rfl D1.g D1.F.kp D1.b .nil pass0 (pa_cons (pv 0) pa_nil)))) (pss_one (ps_raise rfl (takes_of rfl rfl rfl rfl) (pmk_x (XK.to x) hr rfl x.g (pa_cons pe_str pa_nil)))) pss_nil), ?_⟩
    refine ⟨_, rfl, _, _, rfl, o, fun H' sm => ⟨_, rfl, ?_⟩⟩
    cases hc : t.okText with
    | false => exact iteYes rfl ⟨_, rfl, fun d hd => k2 hc H' sm d _ hd⟩
    | true => exact iteNo rfl (k1 hc H' sm)
def spNFilled (K : PySem.W.Frag) (C : Addr) : Sp := fun vs H Q E => ∃ (v : V) (t : PT), vs = [v] ∧ RT K H v t ∧ (t.filled = true → Q .non H) ∧ (t.filled = false → OutE C "reason" H E)
theorem scNFilled : FnScope ["items"] ["items"] (defScope sNFilled) := ⟨rfl, rfl, rfl, by decide +kernel, rfl, by decide +kernel, by decide +kernel⟩
theorem ok_nFilled {f C : Addr} {fd : FuncData} (D : Df K mg "_need_filled" "_need_filled" sNFilled ["items"] f fd) (B : Bl mg) (x : XK P w K mg base "BadCode" C "reason") :
    FnOk P w K mg base (L2.CX P w) 3 f fd ["items"] (spNFilled K C) := by
  refine D.F.okX scNFilled (fun vs H Q E h => ?_) (fun cdv A outer s H vs Q E hr h => ?_)
  · obtain ⟨n, t, rfl, _⟩ := h
    rfl
  · obtain ⟨v, t, rfl, o, k1, k2⟩ := h
    obtain ⟨tv, ty, e1, e2, e3, e4⟩ := rt_ty o
    refine ⟨_, pss_one (ps_if (PW.pt (pw_or (pt_not (pt_val (pe_callB call_isi (by rfl) B.isinstance (by decide +kernel) (pa_cons (pv 0) (pa_cons (pTy (t := "tuple") (by rfl) B.tuple (by decide +kernel)) pa_nil)))))
        (pw_or1 (pt_cmpR op_eq (pe_callB call_len_seq (by rfl) B.len PySem.boot_len (pa_cons (pv 0) pa_nil)) pe_int (nomark _))))) (pss_one (ps_raise rfl (takes_of rfl rfl rfl rfl) (pmk_x (XK.to x) hr rfl x.g (pa_cons pe_str pa_nil)))) pss_nil), ?_⟩
    refine ⟨_, rfl, _, _, _, _, _, rfl, .ty _, ty, e4, _, rfl, ?_⟩

    cases o with
    | @tup a vs ts h r hl =>
      refine iteNo rfl ⟨_, rfl, a, _, rfl, .inr (SqT.of h), rfl, _, rfl, ?_⟩
      cases r with
      | nil => exact iteYes rfl ⟨_, rfl, fun d hd => k2 rfl d _ hd⟩
      | @cons v0 t0 vs0 ts0 r0 r1 => exact iteNo (decide_eq_false fun z => by have := V.int.inj z; rw [List.length_cons] at this; omega) (k1 rfl)
    | non => exact iteYes rfl ⟨_, rfl, fun d hd => k2 rfl d _ hd⟩
    | bl b => exact iteYes rfl ⟨_, rfl, fun d hd => k2 rfl d _ hd⟩
    | int z => exact iteYes rfl ⟨_, rfl, fun d hd => k2 rfl d _ hd⟩
    | str z hz => exact iteYes rfl ⟨_, rfl, fun d hd => k2 rfl d _ hd⟩
    | lst h => exact iteYes rfl ⟨_, rfl, fun d hd => k2 rfl d _ hd⟩
    | dk h => exact iteYes rfl ⟨_, rfl, fun d hd => k2 rfl d _ hd⟩
    | ins h b => exact iteYes rfl ⟨_, rfl, fun d hd => k2 rfl d _ hd⟩
end
end K02
set_option Elab.async false
set_option linter.all false
set_option maxRecDepth 100000
set_option maxHeartbeats 4000000
namespace K02
open PySem L2 Xo Su NdefX LamX
abbrev sKI : Stmt := inClass cKey 0
abbrev sTI : Stmt := inClass cTrk 0
abbrev sFI : Stmt := inClass cFak 0
abbrev sTFI : Stmt := inClass cTfk 0
abbrev sDI : Stmt := inClass cDrk 0
abbrev sLI : Stmt := inClass cLok 0
structure KCls (K : PySem.W.Frag) (C : Addr) : Prop where
  cl : Cls K C
  nl : NoAttr K C "label"
  nc : NoAttr K C "_code"
abbrev FsT := V → V → List V → List (Str × V)
def fKey : FsT := fun a b _ => [("label", a), ("_code", b)]
def fFail : FsT := fun a b ws => [("label", a), ("_code", b), ("_code_at", ws.getD 0 .non), ("_match_at", ws.getD 1 .non), ("_code_calls", .int 0), ("_match_calls", .int 0)]
def fTr (fs0 : FsT) (dvs : List V) : FsT := fun a b ws => fs0 a b dvs ++ [(("_trace" : Str), ws.getD 0 .non)]
def fTF : FsT := fun a b ws => [("label", a), ("_code", b), ("_code_at", ws.getD 1 .non), ("_match_at", ws.getD 2 .non), ("_code_calls", .int 0), ("_match_calls", .int 0), ("_trace", ws.getD 0 .non)]
theorem putF_hit {f : Str} {v x : V} {r : List (Str × V)} : putF f v ((f, x) :: r) = (f, v) :: r := by
  unfold putF
  rw [if_pos rfl]
theorem putF_ne {f g : Str} {v x : V} {r : List (Str × V)} (h : ¬ g = f) : putF f v ((g, x) :: r) = (g, x) :: putF f v r := by
  conv => lhs; unfold putF
  rw [if_neg h]
theorem filled_no {t : PT} (h : t.filled = false) : t.codesOk = false := by
  cases t with
  | tup l =>
    cases l with
    | nil => rfl
    | cons a b => cases h
  | non => rfl
  | bl b => rfl
  | int z => rfl
  | str z => rfl
  | oth => rfl
theorem putF_nil {f : Str} {v : V} : putF f v [] = [(f, v)] := rfl
section
variable {P : Program} {w : World} {K : PySem.W.Frag} {mg : Str → Option Value} {base : Heap}
/-- the making of a key with a label and a code at p, all but p stays -/
def spKI (K : PySem.W.Frag) (C CK CC : Addr) (n : Nat) (fs : FsT) : Sp := fun vs H Q E => ∃ (H0 : Hp) (p dx : Addr) (v1 v2 : V) (t1 t2 : PT) (ws : List V), vs = .ref p :: v1 :: v2 :: ws ∧ ws.length = n ∧ Same H0 H ∧ H0 p = none ∧ H p = some (.ins C dx []) ∧ RT K H0 v1 t1 ∧ RT K H0 v2 t2 ∧
  (t1.okText = true → t2.isCode = true → ∀ H', Same H0 H' → H' p = some (.ins C dx (fs v1 v2 ws)) → Q .non H') ∧ (t1.okText = false → ∀ H', Same H0 H' → OutE CK "reason" H' E) ∧ (t1.okText = true → t2.isCode = false → ∀ H', Same H0 H' → OutE CC "reason" H' E)
theorem scKI : FnScope ["self", "label", "code"] ["self", "label", "code"] (defScope sKI) := ⟨rfl, rfl, rfl, by decide +kernel, rfl, by decide +kernel, by decide +kernel⟩
theorem ok_ki {f f1 f2 C CK CC : Addr} {fd fd1 fd2 : FuncData} (F : Fun K "__init__" "Key.__init__" sKI f fd) (kc : KCls K C) (D1 : Df K mg "_need_label" "_need_label" sNLabel ["label"] f1 fd1) (G1 : FnOk P w K mg base (L2.CX P w) 3 f1 fd1 ["label"] (spNLabel K CK))
    (D2 : Df K mg "need_code" "need_code" sNeedCode ["thing"] f2 fd2) (G2 : FnOk P w K mg base (L2.CX P w) 4 f2 fd2 ["thing"] (spNeedCode K CC)) : FnOk P w K mg base (L2.CX P w) 5 f fd ["self", "label", "code"] (spKI K C CK CC 0 fKey) := by
  refine F.okX scKI (fun vs H Q E h => ?_) (fun cdv A outer s H vs Q E hr h => ?_)
  · obtain ⟨H0, p, dx, v1, v2, t1, t2, ws, rfl, hl, _⟩ := h
    obtain rfl : ws = [] := List.eq_nil_of_length_eq_zero hl
    rfl
  · obtain ⟨H0, p, dx, v1, v2, t1, t2, ws, rfl, hl, s0, hp0, hp, r1, r2, k1, k2, k3⟩ := h
    obtain rfl : ws = [] := List.eq_nil_of_length_eq_zero hl
    refine ⟨_, pss_cons (ps_expr (pe_call (E := E) G1 (hr.mono (by decide)) rfl D1.g D1.F.kp D1.b .nil (passes_call (takes_of rfl rfl rfl rfl) fun _ _ _ _ z => z) (pa_cons (pv 1) pa_nil)))
      (pss_cons (ps_expr (pe_call (E := E) G2 hr rfl D2.g D2.F.kp D2.b .nil (passes_call (takes_of rfl rfl rfl rfl) fun _ _ _ _ z => z) (pa_cons (pv 2) pa_nil)))
      (pss_cons (ps_fld (pv 0) (pv 1) rfl) (pss_one (ps_fld (pv 0) (pv 2) rfl)))), ?_⟩
    refine ⟨_, rfl, v1, t1, rfl, r1.same s0, fun ht1 H1 sm1 => ?_, fun ht1 H1 sm1 => k2 ht1 H1 (s0.trans sm1)⟩
    refine ⟨_, rfl, v2, t2, rfl, r2.same (s0.trans sm1), fun ht2 => ?_, fun ht2 => k3 ht1 ht2 H1 (s0.trans sm1)⟩
    refine ⟨_, rfl, _, rfl, p, C, dx, [], rfl, sm1 _ _ hp, kc.cl, kc.nl, (by show 0 < 1000; decide), ?_⟩
    refine ⟨_, rfl, _, rfl, p, C, dx, [("label", v1)], rfl, upd_same, kc.cl, kc.nc, (by show 1 < 1000; decide), ?_⟩
    refine k1 ht1 ht2 _ (Cm.same_upd (Cm.same_upd (s0.trans sm1) hp0) hp0) ?_
    rw [upd_same, putF_ne (by decide +kernel), putF_nil]
    rfl
theorem scTI : NScope ["self", "label", "code", "trace", "__class__"] ["self", "label", "code", "trace"] ["__class__"] (defScope sTI) := nscope_by (by decide +kernel)
theorem ok_ti {f f2 c cc D C CK CC : Addr} {fd fd2 : FuncData} {ps2 : List Str} {ds : List Value} {dvs : List V} {k n : Nat} {fs0 : FsT} (U : FunS K P mg "__init__" "TracedKey.__init__" sTI f c cc D fd) (kc : KCls K C) (nt : NoAttr K C "_trace") (A : Above K C D "__init__" f2)
    (G : FnOk P w K mg base (L2.CX P w) k f2 fd2 ps2 (spKI K C CK CC n fs0)) (hb : Binds K fd2 ps2 ds) (hd : Vals dvs ds) (hn : dvs.length = n) (hfs : ∀ a b t, putF "_trace" t (fs0 a b dvs) = fs0 a b dvs ++ [(("_trace" : Str), t)]) (hl : ∀ a b, (fs0 a b dvs).length < 1000) :
    FnOk P w K mg base (L2.CX P w) (k + 1) f fd ["self", "label", "code", "trace"] (spKI K C CK CC 1 (fTr fs0 dvs)) := by
  refine U.okX scTI (fun vs H Q E h => ?_) (fun Ar outer s H vs Q E hr h => ?_)
  · obtain ⟨H0, p, dx, v1, v2, t1, t2, ws, rfl, hl, _⟩ := h
    show ws.length + 1 + 1 + 1 = 4
    rw [hl]
  · obtain ⟨H0, p, dx, v1, v2, t1, t2, ws, rfl, hw, s0, hp0, hp, r1, r2, k1, k2, k3⟩ := h
    obtain ⟨tr, rfl⟩ : ∃ tr, ws = [tr] := by
      match ws, hw with
      | [t], _ => exact ⟨t, rfl⟩
    refine ⟨_, pat_expr (se_super (E := E) U.sup A G hr hb hd (passes_call (takes_of rfl rfl rfl rfl) fun _ _ _ _ z => z) (pa_cons (pv 1) (pa_cons (pv 2) pa_nil)) rfl rfl rfl rfl rfl rfl rfl) (pat_of (pss_one (ps_fld (pv 0) (pv 3) rfl))), ?_⟩
    refine ⟨p, dx, [], rfl, hp, fun q hq => ⟨_, rfl, _, rfl, upd_same, H0, p, dx, v1, v2, t1, t2, dvs, rfl, hn, s0.trans (same_new hq), hp0, (by rw [upd_ne (ne_of_none hp hq)]; exact hp), r1, r2, fun ht1 ht2 H' sm hp' => ?_, k2, k3⟩⟩
    refine ⟨_, rfl, _, rfl, p, C, dx, _, rfl, hp', kc.cl, nt, hl _ _, ?_⟩
    refine k1 ht1 ht2 _ (Cm.same_upd sm hp0) ?_
    rw [upd_same, hfs]
    rfl
theorem scFI : NScope ["self", "label", "code", "code_at", "match_at", "__class__"] ["self", "label", "code", "code_at", "match_at"] ["__class__"] (defScope sFI) := nscope_by (by decide +kernel)
/-- what the classes that may fail have not -/
structure KFail (K : PySem.W.Frag) (C : Addr) : Prop where
  ca : NoAttr K C "_code_at"
  ma : NoAttr K C "_match_at"
  cc : NoAttr K C "_code_calls"
  mc : NoAttr K C "_match_calls"
theorem ok_fi {f f2 c cc D C CK CC : Addr} {fd fd2 : FuncData} {k : Nat} (U : FunS K P mg "__init__" "FailingKey.__init__" sFI f c cc D fd) (kc : KCls K C) (kf : KFail K C) (A : Above K C D "__init__" f2)
    (G : FnOk P w K mg base (L2.CX P w) k f2 fd2 ["self", "label", "code"] (spKI K C CK CC 0 fKey)) (hb : Binds K fd2 ["self", "label", "code"] []) :
    FnOk P w K mg base (L2.CX P w) (k + 1) f fd ["self", "label", "code", "code_at", "match_at"] (spKI K C CK CC 2 fFail) := by
  refine U.okX scFI (fun vs H Q E h => ?_) (fun Ar outer s H vs Q E hr h => ?_)
  · obtain ⟨H0, p, dx, v1, v2, t1, t2, ws, rfl, hl, _⟩ := h
    show ws.length + 1 + 1 + 1 = 5
    rw [hl]
  · obtain ⟨H0, p, dx, v1, v2, t1, t2, ws, rfl, hw, s0, hp0, hp, r1, r2, k1, k2, k3⟩ := h
    obtain ⟨x, y, rfl⟩ : ∃ x y, ws = [x, y] := by
      match ws, hw with
      | [x, y], _ => exact ⟨x, y, rfl⟩
    refine ⟨_, pat_expr (se_super (E := E) (dvs := []) U.sup A G hr hb .nil (passes_call (takes_of rfl rfl rfl rfl) fun _ _ _ _ z => z) (pa_cons (pv 1) (pa_cons (pv 2) pa_nil)) rfl rfl rfl rfl rfl rfl rfl)
      (pat_of (pss_cons (ps_fld (pv 0) (pv 3) rfl) (pss_cons (ps_fld (pv 0) (pv 4) rfl) (pss_cons (ps_fld (pv 0) pe_int rfl) (pss_one (ps_fld (pv 0) pe_int rfl)))))), ?_⟩
    refine ⟨p, dx, [], rfl, hp, fun q hq => ⟨_, rfl, _, rfl, upd_same, H0, p, dx, v1, v2, t1, t2, [], rfl, rfl, s0.trans (same_new hq), hp0, (by rw [upd_ne (ne_of_none hp hq)]; exact hp), r1, r2, fun ht1 ht2 H' sm hp' => ?_, k2, k3⟩⟩
    refine ⟨_, rfl, _, rfl, p, C, dx, [("label", v1), ("_code", v2)], rfl, hp', kc.cl, kf.ca, (by show 2 < 1000; decide), ?_⟩
    refine ⟨_, rfl, _, rfl, p, C, dx, [("label", v1), ("_code", v2), ("_code_at", x)], rfl, (by rw [upd_same, putF_ne (by decide +kernel), putF_ne (by decide +kernel), putF_nil]), kc.cl, kf.ma, (by show 3 < 1000; decide), ?_⟩
    refine ⟨_, rfl, p, C, dx, [("label", v1), ("_code", v2), ("_code_at", x), ("_match_at", y)], rfl, (by rw [upd_same, putF_ne (by decide +kernel), putF_ne (by decide +kernel), putF_ne (by decide +kernel), putF_nil]), kc.cl, kf.cc, (by show 4 < 1000; decide), ?_⟩
    refine ⟨_, rfl, p, C, dx, [("label", v1), ("_code", v2), ("_code_at", x), ("_match_at", y), ("_code_calls", .int 0)], rfl, (by rw [upd_same, putF_ne (by decide +kernel), putF_ne (by decide +kernel), putF_ne (by decide +kernel), putF_ne (by decide +kernel), putF_nil]), kc.cl, kf.mc, (by show 5 < 1000; decide), ?_⟩
    refine k1 ht1 ht2 _ (Cm.same_upd (Cm.same_upd (Cm.same_upd (Cm.same_upd sm hp0) hp0) hp0) hp0) ?_
    rw [upd_same, putF_ne (by decide +kernel), putF_ne (by decide +kernel), putF_ne (by decide +kernel), putF_ne (by decide +kernel), putF_ne (by decide +kernel), putF_nil]
    rfl
theorem scTFI : NScope ["self", "label", "code", "trace", "code_at", "match_at", "__class__"] ["self", "label", "code", "trace", "code_at", "match_at"] ["__class__"] (defScope sTFI) := nscope_by (by decide +kernel)
theorem ok_tfi {f f2 c cc D C CK CC : Addr} {fd fd2 : FuncData} {k : Nat} (U : FunS K P mg "__init__" "TracedFailingKey.__init__" sTFI f c cc D fd) (kc : KCls K C) (kf : KFail K C) (A : Above K C D "__init__" f2)
    (G : FnOk P w K mg base (L2.CX P w) k f2 fd2 ["self", "label", "code", "trace"] (spKI K C CK CC 1 (fTr fFail [.int 0, .int 0]))) (hb : Binds K fd2 ["self", "label", "code", "trace"] []) :
    FnOk P w K mg base (L2.CX P w) (k + 1) f fd ["self", "label", "code", "trace", "code_at", "match_at"] (spKI K C CK CC 3 fTF) := by
  refine U.okX scTFI (fun vs H Q E h => ?_) (fun Ar outer s H vs Q E hr h => ?_)
  · obtain ⟨H0, p, dx, v1, v2, t1, t2, ws, rfl, hl, _⟩ := h
    show ws.length + 1 + 1 + 1 = 6
    rw [hl]
  · obtain ⟨H0, p, dx, v1, v2, t1, t2, ws, rfl, hw, s0, hp0, hp, r1, r2, k1, k2, k3⟩ := h
    obtain ⟨tr, x, y, rfl⟩ : ∃ tr x y, ws = [tr, x, y] := by
      match ws, hw with
      | [tr, x, y], _ => exact ⟨tr, x, y, rfl⟩
    refine ⟨_, pat_expr (se_super (E := E) (dvs := []) U.sup A G hr hb .nil (passes_call (takes_of rfl rfl rfl rfl) fun _ _ _ _ z => z) (pa_cons (pv 1) (pa_cons (pv 2) (pa_cons (pv 3) pa_nil))) rfl rfl rfl rfl rfl rfl rfl)
      (pat_of (pss_cons (ps_fld (pv 0) (pv 4) rfl) (pss_one (ps_fld (pv 0) (pv 5) rfl)))), ?_⟩
    refine ⟨p, dx, [], rfl, hp, fun q hq => ⟨_, rfl, _, rfl, _, rfl, upd_same, H0, p, dx, v1, v2, t1, t2, [tr], rfl, rfl, s0.trans (same_new hq), hp0, (by rw [upd_ne (ne_of_none hp hq)]; exact hp), r1, r2, fun ht1 ht2 H' sm hp' => ?_, k2, k3⟩⟩
    refine ⟨_, rfl, _, rfl, p, C, dx, [("label", v1), ("_code", v2), ("_code_at", .int 0), ("_match_at", .int 0), ("_code_calls", .int 0), ("_match_calls", .int 0), ("_trace", tr)], rfl, hp', kc.cl, kf.ca, (by show 7 < 1000; decide), ?_⟩
    refine ⟨_, rfl, _, rfl, p, C, dx, [("label", v1), ("_code", v2), ("_code_at", x), ("_match_at", .int 0), ("_code_calls", .int 0), ("_match_calls", .int 0), ("_trace", tr)], rfl, (by rw [upd_same, putF_ne (by decide +kernel), putF_ne (by decide +kernel), putF_hit]), kc.cl, kf.ma, (by show 7 < 1000; decide), ?_⟩
    refine k1 ht1 ht2 _ (Cm.same_upd (Cm.same_upd sm hp0) hp0) ?_
    rw [upd_same, putF_ne (by decide +kernel), putF_ne (by decide +kernel), putF_ne (by decide +kernel), putF_hit]
    rfl
theorem scDI : NScope ["self", "label", "codes", "__class__", "code"] ["self", "label", "codes"] ["__class__"] (defScope sDI) := nscope_by (by decide +kernel)
def spDI (K : PySem.W.Frag) (C CK CC : Addr) : Sp := fun vs H Q E => ∃ (H0 : Hp) (p dx : Addr) (v1 v2 : V) (t1 t2 : PT), vs = [.ref p, v1, v2] ∧ Same H0 H ∧ H0 p = none ∧ H p = some (.ins C dx []) ∧ RT K H0 v1 t1 ∧ RT K H0 v2 t2 ∧
  (t1.okText = true → t2.codesOk = true → ∀ H' (a : Addr) (c0 : V) (r : List V), v2 = .ref a → H0 a = some (.tup (c0 :: r)) → Same H0 H' → H' p = some (.ins C dx [("label", v1), ("_code", c0), ("_codes", v2), ("_turn", .int 0)]) → Q .non H') ∧
  (t1.okText = false → ∀ H', Same H0 H' → OutE CK "reason" H' E) ∧ (t1.okText = true → t2.codesOk = false → ∀ H', Same H0 H' → OutE CC "reason" H' E)
theorem ok_di {f f1 f2 f3 f4 c cc D C CK CC : Addr} {fd fd1 fd2 fd3 fd4 : FuncData} (U : FunS K P mg "__init__" "DriftingKey.__init__" sDI f c cc D fd) (kc : KCls K C) (nt : NoAttr K C "_codes") (nu : NoAttr K C "_turn") (A : Above K C D "__init__" f2)
    (G : FnOk P w K mg base (L2.CX P w) 5 f2 fd2 ["self", "label", "code"] (spKI K C CK CC 0 fKey)) (hb : Binds K fd2 ["self", "label", "code"] [])
    (D1 : Df K mg "_need_label" "_need_label" sNLabel ["label"] f1 fd1) (G1 : FnOk P w K mg base (L2.CX P w) 3 f1 fd1 ["label"] (spNLabel K CK)) (D3 : Df K mg "_need_filled" "_need_filled" sNFilled ["items"] f3 fd3) (G3 : FnOk P w K mg base (L2.CX P w) 3 f3 fd3 ["items"] (spNFilled K CC))
    (D4 : Df K mg "need_code" "need_code" sNeedCode ["thing"] f4 fd4) (G4 : FnOk P w K mg base (L2.CX P w) 4 f4 fd4 ["thing"] (spNeedCode K CC)) :
    FnOk P w K mg base (L2.CX P w) 6 f fd ["self", "label", "codes"] (spDI K C CK CC) := by
  refine U.okX scDI (fun vs H Q E h => ?_) (fun Ar outer s H vs Q E hr h => ?_)
  · obtain ⟨H0, p, dx, v1, v2, t1, t2, rfl, _⟩ := h
    rfl
  · obtain ⟨H0, p, dx, v1, v2, t1, t2, rfl, s0, hp0, hp, r1, r2, k1, k2, k3⟩ := h
    refine ⟨_, pat_cons (ps_expr (pe_call (E := E) G1 (hr.mono (by decide)) rfl D1.g D1.F.kp D1.b .nil (passes_call (takes_of rfl rfl rfl rfl) fun _ _ _ _ z => z) (pa_cons (pv 1) pa_nil)))
      (pat_cons (ps_expr (pe_call (E := E) G3 (hr.mono (by decide)) rfl D3.g D3.F.kp D3.b .nil (passes_call (takes_of rfl rfl rfl rfl) fun _ _ _ _ z => z) (pa_cons (pv 2) pa_nil)))
      (pat_cons (ps_for (passes_of rfl) rfl (pi_tup (pv 2)) (pg_name (i := 4) scDI.nd rfl (Or.inl rfl)) (pss_one (ps_expr (pe_call (E := E) G4 (hr.mono (by decide)) rfl D4.g D4.F.kp D4.b .nil (passes_call (takes_of rfl rfl rfl rfl) fun _ _ _ _ z => z) (pa_cons (pv 4) pa_nil)))))
      (pat_expr (se_super (E := E) (dvs := []) U.sup A G hr hb .nil (passes_call (takes_of rfl rfl rfl rfl) fun _ _ _ _ z => z) (pa_cons (pv 1) (pa_cons (pe_ix ix_tup (pv 2) pe_int (fun _ _ => rfl)) pa_nil)) rfl rfl rfl rfl rfl rfl rfl)
      (pat_of (pss_cons (ps_fld (pv 0) (pv 2) rfl) (pss_one (ps_fld (pv 0) pe_int rfl))))))), ?_⟩
    refine ⟨_, rfl, v1, t1, rfl, r1.same s0, fun ht1 H1 sm1 => ?_, fun ht1 H1 sm1 => k2 ht1 H1 (s0.trans sm1)⟩
    have s1 := s0.trans sm1
    have hp1 := sm1 _ _ hp
    refine ⟨_, rfl, v2, t2, rfl, r2.same s1, fun ht2 => ?_, fun ht2 => k3 ht1 (filled_no ht2) H1 s1⟩
    obtain ⟨a, vs, ts, rfl, rfl, ha, r⟩ : ∃ (a : Addr) (vs : List V) (ts : List PT), v2 = .ref a ∧ t2 = .tup ts ∧ H0 a = some (.tup vs) ∧ RTs K H0 vs ts := by
      cases r2 with
      | tup h r hl => exact ⟨_, _, _, rfl, rfl, h, r⟩
      | _ => cases ht2
    cases r with
    | nil => cases ht2
    | @cons c0 t0 vs0 ts0 q0 q1 =>
      have qq : RTs K H0 (c0 :: vs0) (t0 :: ts0) := .cons q0 q1
      have kok : PT.codesOk (.tup (t0 :: ts0)) = (t0 :: ts0).all PT.isCode := rfl
      refine ⟨_, rfl, a, rfl, ⟨_, SqT.of (s1 _ _ ha)⟩, for_it (walk_tup (K := K) (a := a) (xs := c0 :: vs0)) (fun i σ H' => (∃ v4, σ = [some (.ref p), some v1, some (.ref a), some (.ref D), v4]) ∧ Same H0 H' ∧ H' p = some (.ins C dx []) ∧ ∀ j t, j < i → (t0 :: ts0)[j]? = some t → t.isCode = true) ⟨⟨_, rfl⟩, s1, hp1, fun j t hj => absurd hj (Nat.not_lt_zero _)⟩ (fun _ _ _ _ z => SqT.of (z.2.1 _ _ ha)) ?_ ?_⟩
      · rintro i x σ H2 H3 hi ⟨⟨v4, rfl⟩, sm, hpi, hb⟩ hy
        obtain ⟨rfl, hx⟩ := hy
        obtain ⟨t, ht, rt⟩ := qq.get hx
        refine ⟨_, rfl, x, t, rfl, rt.same sm, fun hc => ?_, fun hc => ?_⟩
        · refine ⟨⟨_, rfl⟩, sm, hpi, fun j t' hj ht' => ?_⟩
          by_cases e : j = i
          · subst e
            rw [ht] at ht'
            cases ht'
            exact hc
          · exact hb j t' (by omega) ht'
        · refine k3 ht1 ?_ H3 sm
          rw [kok, Bool.eq_false_iff]
          intro z
          rw [List.all_eq_true.mp z t (List.mem_of_getElem? ht)] at hc
          cases hc
      · rintro σ H2 ⟨⟨v4, rfl⟩, sm, hpi, hb⟩
        have hall : (t0 :: ts0).all PT.isCode = true := List.all_eq_true.mpr fun t ht => by
          obtain ⟨j, hj⟩ := List.getElem?_of_mem ht
          exact hb j t (by rw [qq.length]; exact (List.getElem?_eq_some_iff.mp hj).1) hj
        have hc0 : t0.isCode = true := List.all_eq_true.mp hall t0 (List.mem_cons_self ..)
        refine ⟨p, dx, [], rfl, hpi, fun q hq => ?_⟩
        have y := same_new (o := .met f2 p) hq
        refine ⟨_, rfl, _, rfl, a, _, (0 : Int), _, rfl, rfl, SqT.of (y _ _ (sm _ _ ha)), atI_nat (j := 0) rfl, upd_same, H0, p, dx, v1, c0, t1, t0, [], rfl, rfl, sm.trans y, hp0, y _ _ hpi, r1, q0, fun _ _ H' sm' hp' => ?_, k2, fun _ z => by rw [hc0] at z; cases z⟩
        refine ⟨_, rfl, _, rfl, p, C, dx, [("label", v1), ("_code", c0)], rfl, hp', kc.cl, nt, (by show 2 < 1000; decide), ?_⟩
        refine ⟨_, rfl, p, C, dx, [("label", v1), ("_code", c0), ("_codes", .ref a)], rfl, (by rw [upd_same, putF_ne (by decide +kernel), putF_ne (by decide +kernel), putF_nil]), kc.cl, nu, (by show 3 < 1000; decide), ?_⟩
        refine k1 ht1 hall _ a c0 vs0 rfl ha (Cm.same_upd (Cm.same_upd sm' hp0) hp0) ?_
        rw [upd_same, putF_ne (by decide +kernel), putF_ne (by decide +kernel), putF_ne (by decide +kernel), putF_nil]
theorem scLI : NScope ["self", "label", "code", "answers", "__class__"] ["self", "label", "code", "answers"] ["__class__"] (defScope sLI) := nscope_by (by decide +kernel)
def spLI (K : PySem.W.Frag) (C CK CC : Addr) : Sp := fun vs H Q E => ∃ (H0 : Hp) (p dx : Addr) (v1 v2 v3 : V) (t1 t2 t3 : PT), vs = [.ref p, v1, v2, v3] ∧ Same H0 H ∧ H0 p = none ∧ H p = some (.ins C dx []) ∧ RT K H0 v1 t1 ∧ RT K H0 v2 t2 ∧ RT K H0 v3 t3 ∧
  (t1.okText = true → t2.isCode = true → t3.filled = true → ∀ H', Same H0 H' → H' p = some (.ins C dx [("label", v1), ("_code", v2), ("_answers", v3), ("_turn", .int 0)]) → Q .non H') ∧
  (t1.okText = false → ∀ H', Same H0 H' → OutE CK "reason" H' E) ∧ (t1.okText = true → (t2.isCode && t3.filled) = false → ∀ H', Same H0 H' → OutE CC "reason" H' E)
theorem ok_li {f f2 f3 c cc D C CK CC : Addr} {fd fd2 fd3 : FuncData} (U : FunS K P mg "__init__" "LopsidedKey.__init__" sLI f c cc D fd) (kc : KCls K C) (nt : NoAttr K C "_answers") (nu : NoAttr K C "_turn") (A : Above K C D "__init__" f2)
    (G : FnOk P w K mg base (L2.CX P w) 5 f2 fd2 ["self", "label", "code"] (spKI K C CK CC 0 fKey)) (hb : Binds K fd2 ["self", "label", "code"] [])
    (D3 : Df K mg "_need_filled" "_need_filled" sNFilled ["items"] f3 fd3) (G3 : FnOk P w K mg base (L2.CX P w) 3 f3 fd3 ["items"] (spNFilled K CC)) :
    FnOk P w K mg base (L2.CX P w) 6 f fd ["self", "label", "code", "answers"] (spLI K C CK CC) := by
  refine U.okX scLI (fun vs H Q E h => ?_) (fun Ar outer s H vs Q E hr h => ?_)
  · obtain ⟨H0, p, dx, v1, v2, v3, t1, t2, t3, rfl, _⟩ := h
    rfl
  · obtain ⟨H0, p, dx, v1, v2, v3, t1, t2, t3, rfl, s0, hp0, hp, r1, r2, r3, k1, k2, k3⟩ := h
    refine ⟨_, pat_expr (se_super (E := E) (dvs := []) U.sup A G hr hb .nil (passes_call (takes_of rfl rfl rfl rfl) fun _ _ _ _ z => z) (pa_cons (pv 1) (pa_cons (pv 2) pa_nil)) rfl rfl rfl rfl rfl rfl rfl)
      (pat_of (pss_cons (ps_expr (pe_call (E := E) G3 (hr.mono (by decide)) rfl D3.g D3.F.kp D3.b .nil (passes_call (takes_of rfl rfl rfl rfl) fun _ _ _ _ z => z) (pa_cons (pv 3) pa_nil)))
        (pss_cons (ps_fld (pv 0) (pv 3) rfl) (pss_one (ps_fld (pv 0) pe_int rfl))))), ?_⟩
    refine ⟨p, dx, [], rfl, hp, fun q hq => ⟨_, rfl, _, rfl, upd_same, H0, p, dx, v1, v2, t1, t2, [], rfl, rfl, s0.trans (same_new hq), hp0, (by rw [upd_ne (ne_of_none hp hq)]; exact hp), r1, r2, fun ht1 ht2 H' sm hp' => ?_, k2, fun h1 h2 => k3 h1 (by rw [h2]; rfl)⟩⟩
    refine ⟨_, rfl, v3, t3, rfl, r3.same sm, fun ht3 => ?_, fun ht3 => k3 ht1 (by rw [ht2, ht3]; rfl) H' sm⟩
    refine ⟨_, rfl, _, rfl, p, C, dx, [("label", v1), ("_code", v2)], rfl, hp', kc.cl, nt, (by show 2 < 1000; decide), ?_⟩
    refine ⟨_, rfl, p, C, dx, [("label", v1), ("_code", v2), ("_answers", v3)], rfl, (by rw [upd_same, putF_ne (by decide +kernel), putF_ne (by decide +kernel), putF_nil]), kc.cl, nu, (by show 3 < 1000; decide), ?_⟩
    refine k1 ht1 ht2 ht3 _ (Cm.same_upd (Cm.same_upd sm hp0) hp0) ?_
    rw [upd_same, putF_ne (by decide +kernel), putF_ne (by decide +kernel), putF_ne (by decide +kernel), putF_nil]
end
end K02
set_option Elab.async false
set_option linter.all false
set_option maxRecDepth 100000
set_option maxHeartbeats 2000000
namespace K02
open PySem L2 Xo Lm LamX
/-- no built-in kind is a Key -/
structure NotKey (K : PySem.W.Frag) (CK : Addr) : Prop where
  n : PySem.W.kitOne K (.type "NoneType") (.ref CK) = some false
  b : PySem.W.kitOne K (.type "bool") (.ref CK) = some false
  i : PySem.W.kitOne K (.type "int") (.ref CK) = some false
  s : PySem.W.kitOne K (.type "str") (.ref CK) = some false
  t : PySem.W.kitOne K (.type "tuple") (.ref CK) = some false
  l : PySem.W.kitOne K (.type "list") (.ref CK) = some false
  d : PySem.W.kitOne K (.type "dict") (.ref CK) = some false
  g : PySem.W.nsIn K mainGlobals "Key" = some (some (.ref CK))
theorem rt_key {K : PySem.W.Frag} {CK : Addr} {H : Hp} {v : V} {t : PT} (h : RT K H v t) (N : NotKey K CK) : ∃ tv : Value, TyX K H v tv ∧ PySem.W.kitOne K tv (.ref CK) = some false := by
  cases h with
  | non => exact ⟨_, .base .non, N.n⟩
  | bl b => exact ⟨_, .base (.bl _), N.b⟩
  | int z => exact ⟨_, .base (.int _), N.i⟩
  | str s h => exact ⟨_, .base (.str _), N.s⟩
  | tup h r hl => exact ⟨_, .base (.tup h), N.t⟩
  | lst h => exact ⟨_, .base (.lst h), N.l⟩
  | dk h => exact ⟨_, .base (.dK h), N.d⟩
  | ins h b => exact ⟨_, .base (.ins h b.cl b.ha b.hn b.htk b.hm), b.kk _ N.g⟩
end K02
set_option Elab.async false
set_option linter.all false
set_option maxRecDepth 100000
set_option maxHeartbeats 4000000
namespace K02
open PySem L2 Xo Su NdefX LamX
abbrev cTrace : Stmt := top 29
abbrev sTrI : Stmt := inClass cTrace 0
abbrev sTrE : Stmt := inClass cTrace 1
abbrev sTrN : Stmt := inClass cTrace 2
abbrev sNameOf : Stmt := top 22
abbrev sKC : Stmt := inClass cKey 1
abbrev sKM : Stmt := inClass cKey 2
abbrev sTC : Stmt := inClass cTrk 1
abbrev sTM : Stmt := inClass cTrk 2
abbrev sFC : Stmt := inClass cFak 1
abbrev sFM : Stmt := inClass cFak 2
abbrev sTFC : Stmt := inClass cTfk 1
abbrev sTFM : Stmt := inClass cTfk 2
abbrev sLC : Stmt := inClass cLok 1
abbrev sLM : Stmt := inClass cLok 2
/-- a class of keys, asked by isinstance -/
structure KIns (K : PySem.W.Frag) (C C1 : Addr) : Prop where
  cl : Cls K C
  ha : PySem.W.findIn K (.ref C) "__class__" = some (some (.builtin "object.__class__"))
  hn : PySem.W.specialIn K (.builtin "object.__class__") "__get__" = some (some (.builtin "getset_descriptor.__get__"))
  htk : PySem.W.takesIn K (.builtin "object.__class__") = some true
  hm : PySem.W.mroIn K C (.type "object") = some true
  kk : PySem.W.kitOne K (.ref C) (.ref C1) = some true
  nl : NoAttr K C "label"
/-- a key object with its label, or a value that is none -/
inductive KV (K : PySem.W.Frag) (C1 : Addr) (H : Hp) : V → Option V → Prop
  | key {o C dx : Addr} {fs : List (Str × V)} {lb : V} (h : H o = some (.ins C dx fs)) (k : KIns K C C1) (l : fs.lookup ("label" : Str) = some lb) : KV K C1 H (.ref o) (some lb)
  | plain {v : V} {t : PT} (r : RT K H v t) : KV K C1 H v none
theorem KV.ty {K : PySem.W.Frag} {C1 : Addr} {H : Hp} {v : V} {r : Option V} (h : KV K C1 H v r) (N : NotKey K C1) : ∃ tv : Value, TyX K H v tv ∧ PySem.W.kitOne K tv (.ref C1) = some r.isSome := by
  cases h with
  | key h k l => exact ⟨_, .base (.ins h k.cl k.ha k.hn k.htk k.hm), k.kk⟩
  | plain r => exact rt_key r N
/-- a trace stands at tr, its events at l -/
structure TrAt (C : Addr) (H : Hp) (tr l : Addr) (evs : List V) : Prop where
  ob : ∃ dx, H tr = some (.ins C dx [("_events", .ref l)])
  ls : H l = some (.lst evs)
section
variable {P : Program} {w : World} {K : PySem.W.Frag} {mg : Str → Option Value} {base : Heap}
def spTrI (C : Addr) : Sp := fun vs H Q _ => ∃ p dx, vs = [.ref p] ∧ H p = some (.ins C dx []) ∧ ∀ l H', H l = none → (∀ b o, b ≠ p → H b = some o → H' b = some o) → H' p = some (.ins C dx [("_events", .ref l)]) → H' l = some (.lst []) → Q .non H'
theorem scTrI : FnScope ["self"] ["self"] (defScope sTrI) := ⟨rfl, rfl, rfl, by decide +kernel, rfl, by decide +kernel, by decide +kernel⟩
theorem ok_trI {f C : Addr} {fd : FuncData} (F : Fun K "__init__" "Trace.__init__" sTrI f fd) (cl : Cls K C) (ne : NoAttr K C "_events") : FnOk P w K mg base CX0 1 f fd ["self"] (spTrI C) := by
  refine F.ok scTrI (fun vs H Q E h => ?_) (fun cdv A outer s H vs Q E hr h => ?_)
  · obtain ⟨p, dx, rfl, _⟩ := h
    rfl
  · obtain ⟨p, dx, rfl, hp, k⟩ := h
    refine ⟨_, pss_one (ps_fld (pv 0) (pe_lst pa_nil) rfl), ?_⟩
    refine ⟨by show 0 ≤ sizeLine; decide, fun l hl => ?_⟩
    have y := same_new (o := .lst []) hl
    refine ⟨_, rfl, p, C, dx, [], rfl, y _ _ hp, cl, ne, (by show 0 < 1000; decide), ?_⟩
    have np : l ≠ p := (ne_of_none hp hl).symm
    exact k l _ hl (fun b o hb e => by rw [upd_ne hb]; exact y _ _ e) upd_same (by rw [upd_ne np, upd_same])
def spTrE (C : Addr) : Sp := fun vs H Q _ => ∃ tr l evs, vs = [.ref tr] ∧ TrAt C H tr l evs ∧ ∀ q, H q = none → Q (.ref q) (upd H q (.lst evs))
theorem scTrE : FnScope ["self"] ["self"] (defScope sTrE) := ⟨rfl, rfl, rfl, by decide +kernel, rfl, by decide +kernel, by decide +kernel⟩
theorem ok_trE {f C : Addr} {fd : FuncData} (F : Fun K "events" "Trace.events" sTrE f fd) (B : Bl mg) (cl : Cls K C) (ne : NoAttr K C "_events") : FnOk P w K mg base CX0 1 f fd ["self"] (spTrE C) := by
  refine F.ok scTrE (fun vs H Q E h => ?_) (fun cdv A outer s H vs Q E hr h => ?_)
  · obtain ⟨tr, l, evs, rfl, _⟩ := h
    rfl
  · obtain ⟨tr, l, evs, rfl, ⟨⟨dx, ho⟩, hl⟩, k⟩ := h
    refine ⟨_, pss_one (ps_ret (pe_callTy call_list_of (by rfl) B.list (by decide +kernel) (pa_cons (pe_fld (pv 0) rfl) pa_nil))), ?_⟩
    exact ⟨_, rfl, tr, C, dx, _, _, rfl, ho, cl, ne, rfl, l, evs, rfl, .inl (SqL.of hl), k⟩
def spTrN (C : Addr) : Sp := fun vs H Q _ => ∃ tr l evs ev, vs = [.ref tr, ev] ∧ TrAt C H tr l evs ∧ evs.length ≤ 1000 ∧ Q .non (upd H l (.lst (evs ++ [ev])))
theorem scTrN : FnScope ["self", "event"] ["self", "event"] (defScope sTrN) := ⟨rfl, rfl, rfl, by decide +kernel, rfl, by decide +kernel, by decide +kernel⟩
theorem ok_trN {f C : Addr} {fd : FuncData} (F : Fun K "note" "Trace.note" sTrN f fd) (cl : Cls K C) (ne : NoAttr K C "_events") : FnOk P w K mg base CX0 1 f fd ["self", "event"] (spTrN C) := by
  refine F.ok scTrN (fun vs H Q E h => ?_) (fun cdv A outer s H vs Q E hr h => ?_)
  · obtain ⟨tr, l, evs, ev, rfl, _⟩ := h
    rfl
  · obtain ⟨tr, l, evs, ev, rfl, ⟨⟨dx, ho⟩, hl⟩, hz, k⟩ := h
    refine ⟨_, pss_one (ps_expr (pe_bm PySem.F.plainAttrs_list PySem.F.slot_list_append PySem.F.type_list_append mt_append (pe_fld (pv 0) rfl) (pa_cons (pv 1) pa_nil))), ?_⟩
    exact ⟨_, rfl, tr, C, dx, _, _, rfl, ho, cl, ne, rfl, .inl ⟨rfl, _, SqL.of hl⟩, _, rfl, l, evs, ev, rfl, rfl, hl, Nat.lt_of_le_of_lt hz (by decide), k⟩
def spNameOf (K : PySem.W.Frag) (C1 : Addr) : Sp := fun vs H Q _ => ∃ (v : V) (r : Option V), vs = [v] ∧ KV K C1 H v r ∧ Q (r.getD v) H
theorem scNameOf : FnScope ["key"] ["key"] (defScope sNameOf) := ⟨rfl, rfl, rfl, by decide +kernel, rfl, by decide +kernel, by decide +kernel⟩
theorem ok_nameOf {f C1 : Addr} {fd : FuncData} (D : Df K mg "_name_of" "_name_of" sNameOf ["key"] f fd) (B : Bl mg) (gK : mg "Key" = some (.ref C1)) (N : NotKey K C1) : FnOk P w K mg base CX0 1 f fd ["key"] (spNameOf K C1) := by
  refine D.F.ok scNameOf (fun vs H Q E h => ?_) (fun cdv A outer s H vs Q E hr h => ?_)
  · obtain ⟨v, r, rfl, _⟩ := h
    rfl
  · obtain ⟨v, r, rfl, h, k⟩ := h
    obtain ⟨tv, ty, e⟩ := h.ty N
    refine ⟨_, pss_one (ps_ret (pe_ifExp (pt_val (pe_callB call_isi (by rfl) B.isinstance (by decide +kernel) (pa_cons (pv 0) (pa_cons (pe_glob (v := .ref C1) rfl gK rfl) pa_nil)))) (pe_fld (pv 0) rfl) (pv 0))), ?_⟩
    refine ⟨_, rfl, _, _, _, _, _, rfl, .own _, ty, e, _, rfl, ?_⟩
    cases h with
    | @key o C dx fs lb h kk l => exact iteYes rfl ⟨_, rfl, o, C, dx, fs, lb, rfl, h, kk.cl, kk.nl, l, k⟩
    | plain r => exact iteNo (by decide) ⟨_, rfl, k⟩
/-! ### what a Key does -/
def spKC (C : Addr) : Sp := fun vs H Q _ => ∃ p dx fs v, vs = [.ref p] ∧ H p = some (.ins C dx fs) ∧ fs.lookup ("_code" : Str) = some v ∧ Q v H
theorem scKC : FnScope ["self"] ["self"] (defScope sKC) := ⟨rfl, rfl, rfl, by decide +kernel, rfl, by decide +kernel, by decide +kernel⟩
theorem ok_kc {f C : Addr} {fd : FuncData} (F : Fun K "code" "Key.code" sKC f fd) (kc : KCls K C) : FnOk P w K mg base (L2.CX P w) 1 f fd ["self"] (spKC C) := by
  refine F.okX scKC (fun vs H Q E h => ?_) (fun cdv A outer s H vs Q E hr h => ?_)
  · obtain ⟨p, dx, fs, v, rfl, _⟩ := h
    rfl
  · obtain ⟨p, dx, fs, v, rfl, hp, l, k⟩ := h
    exact ⟨_, pss_one (ps_ret (pe_fld (pv 0) rfl)), _, rfl, p, C, dx, fs, v, rfl, hp, kc.cl, kc.nc, l, k⟩
/-- do the labels match -/
def same (r : Option V) (a : Str) : Bool := match r with
  | some (.str b) => decide (b = a)
  | _ => false
def StrLab (r : Option V) : Prop := ∀ v, r = some v → ∃ b, v = .str b
def spKM (K : PySem.W.Frag) (C C1 : Addr) : Sp := fun vs H Q _ => ∃ p dx fs a v r, vs = [.ref p, v] ∧ H p = some (.ins C dx fs) ∧ fs.lookup ("label" : Str) = some (.str a) ∧ KV K C1 H v r ∧ StrLab r ∧ Q (.bl (same r a)) H
theorem scKM : FnScope ["self", "other"] ["self", "other"] (defScope sKM) := ⟨rfl, rfl, rfl, by decide +kernel, rfl, by decide +kernel, by decide +kernel⟩
theorem ok_km {f C C1 : Addr} {fd : FuncData} (F : Fun K "matches" "Key.matches" sKM f fd) (kc : KCls K C) (B : Bl mg) (gK : mg "Key" = some (.ref C1)) (N : NotKey K C1) : FnOk P w K mg base (L2.CX P w) 1 f fd ["self", "other"] (spKM K C C1) := by
  refine F.okX scKM (fun vs H Q E h => ?_) (fun cdv A outer s H vs Q E hr h => ?_)
  · obtain ⟨p, dx, fs, a, v, r, rfl, _⟩ := h
    rfl
  · obtain ⟨p, dx, fs, a, v, r, rfl, hp, l, hv, hs, k⟩ := h
    obtain ⟨tv, ty, e⟩ := hv.ty N
    refine ⟨_, pss_one (ps_ret (pe_and (pe_callB call_isi (by rfl) B.isinstance (by decide +kernel) (pa_cons (pv 1) (pa_cons (pe_glob (v := .ref C1) rfl gK rfl) pa_nil))) (pe_one (pe_cmpR op_eq (pe_fld (pv 1) rfl) (pe_fld (pv 0) rfl) (nomark _))))), ?_⟩
    refine ⟨_, rfl, _, _, _, _, _, rfl, .own _, ty, e, _, rfl, ?_⟩
    cases hv with
    | @key o C2 dx2 fs2 lb h2 kk l2 =>
      obtain ⟨b, rfl⟩ := hs _ rfl
      refine iteYes rfl ⟨_, rfl, o, C2, dx2, fs2, .str b, rfl, h2, kk.cl, kk.nl, l2, _, rfl, p, C, dx, fs, .str a, rfl, hp, kc.cl, kc.nl, l, rfl, ?_⟩
      have k : Q (.bl (decide (b = a))) H := k
      have e2 : decide (V.str b = V.str a) = decide (b = a) := decide_eq_decide.mpr ⟨fun h => V.str.inj h, fun h => by rw [h]⟩
      rw [e2]
      exact k
    | plain r => exact iteNo (by decide) k
end
end K02
set_option Elab.async false
set_option linter.all false
set_option maxRecDepth 100000
set_option maxHeartbeats 4000000
namespace K02
open PySem L2 Xo Su NdefX LamX
section
variable {P : Program} {w : World} {K : PySem.W.Frag} {mg : Str → Option Value} {base : Heap}
/-! ### keys that may fail -/
theorem scFC : NScope ["self", "__class__"] ["self"] ["__class__"] (defScope sFC) := nscope_by (by decide +kernel)
def spFC (K : PySem.W.Frag) (C CF f2 : Addr) (sp0 : Sp) : Sp := fun vs H Q E => ∃ (p dx : Addr) (fs : List (Str × V)) (n m : Int) (lb : V), vs = [.ref p] ∧ H p = some (.ins C dx fs) ∧ fs.length < 900 ∧ fs.lookup ("_code_calls" : Str) = some (.int n) ∧ fs.lookup ("_code_at" : Str) = some (.int m) ∧ fs.lookup ("label" : Str) = some lb ∧
  (n + 1 = m → OutI CF "label" lb (upd H p (.ins C dx (putF "_code_calls" (.int (n + 1)) fs))) E) ∧
  (¬ n + 1 = m → ∀ q, H q = none → sp0 [.ref p] (upd (upd H p (.ins C dx (putF "_code_calls" (.int (n + 1)) fs))) q (.met f2 p)) Q E)
theorem look_put {f g : Str} {v : V} {fs : List (Str × V)} (h : ¬ g = f) : (putF f v fs).lookup g = fs.lookup g := by rw [lookup_putF, if_neg h]
theorem look_hit {f : Str} {v : V} {fs : List (Str × V)} : (putF f v fs).lookup f = some v := by rw [lookup_putF, if_pos rfl]
theorem free_upd {H : Hp} {p q : Addr} {o o2 : HO} (hp : H p = some o) (hq : (upd H p o2) q = none) : H q = none := by
  by_cases h : q = p
  · rw [h, upd_same] at hq
    cases hq
  · rwa [upd_ne h] at hq
theorem ok_fc {f f2 c cc D C CF : Addr} {fd fd2 : FuncData} {k : Nat} {sp0 : Sp} (U : FunS K P mg "code" "FailingKey.code" sFC f c cc D fd) (kc : KCls K C) (kf : KFail K C) (A : Above K C D "code" f2) (G : FnOk P w K mg base (L2.CX P w) k f2 fd2 ["self"] sp0) (hb : Binds K fd2 ["self"] []) (x : XK P w K mg base "CodeFault" CF "label") (hk : 2 ≤ k) :
    FnOk P w K mg base (L2.CX P w) (k + 1) f fd ["self"] (spFC K C CF f2 sp0) := by
  refine U.okX scFC (fun vs H Q E h => ?_) (fun Ar outer s H vs Q E hr h => ?_)
  · obtain ⟨p, dx, fs, n, m, lb, rfl, _⟩ := h
    rfl
  · obtain ⟨p, dx, fs, n, m, lb, rfl, hp, hl, l1, l2, l3, k1, k2⟩ := h
    refine ⟨_, pat_cons (ps_fldaug (pv 0) pe_int iop_add) (pat_cons (ps_if (pt_cmpR op_eq (pe_fld (pv 0) rfl) (pe_fld (pv 0) rfl) (nomark _)) (pss_one (ps_raise rfl (takes_of rfl rfl rfl rfl) (pmk_x (XK.to x) (hr.mono hk) rfl x.g (pa_cons (pe_fld (pv 0) rfl) pa_nil)))) pss_nil)
      (pat_ret (se_super (E := E) (dvs := []) U.sup A G hr hb .nil (passes_call (takes_of rfl rfl rfl rfl) fun _ _ _ _ z => z) pa_nil rfl rfl rfl rfl rfl rfl rfl))), ?_⟩
    refine ⟨_, rfl, p, C, dx, fs, _, rfl, hp, kc.cl, kf.cc, l1, _, _, rfl, rfl, dx, fs, hp, by omega, ?_⟩
    have e1 := upd_same (H := H) (a := p) (o := .ins C dx (putF "_code_calls" (.int (n + 1)) fs))
    refine ⟨_, rfl, p, C, dx, _, .int (n + 1), rfl, e1, kc.cl, kf.cc, look_hit, _, rfl, p, C, dx, _, .int m, rfl, e1, kc.cl, kf.ca, (by rw [look_put (by decide +kernel)]; exact l2), rfl, _, rfl, ?_⟩
    refine ite2 (fun e => ?_) (fun e => ?_)
    · have e : n + 1 = m := V.int.inj (of_decide_eq_true e)
      exact ⟨_, rfl, p, C, dx, _, lb, rfl, e1, kc.cl, kc.nl, (by rw [look_put (by decide +kernel)]; exact l3), _, rfl, fun d hd => k1 e d hd⟩
    · have e : ¬ n + 1 = m := fun z => e (decide_eq_true (by rw [z]))
      exact ⟨p, dx, _, rfl, e1, fun q hq => ⟨upd_same, k2 e q (free_upd hp hq)⟩⟩
theorem scFM : NScope ["self", "other", "__class__"] ["self", "other"] ["__class__"] (defScope sFM) := nscope_by (by decide +kernel)
def spFM (K : PySem.W.Frag) (C CF f2 : Addr) (sp0 : Sp) : Sp := fun vs H Q E => ∃ (p dx : Addr) (fs : List (Str × V)) (n m : Int) (lb v : V), vs = [.ref p, v] ∧ H p = some (.ins C dx fs) ∧ fs.length < 900 ∧ fs.lookup ("_match_calls" : Str) = some (.int n) ∧ fs.lookup ("_match_at" : Str) = some (.int m) ∧ fs.lookup ("label" : Str) = some lb ∧
  (n + 1 = m → OutI CF "label" lb (upd H p (.ins C dx (putF "_match_calls" (.int (n + 1)) fs))) E) ∧
  (¬ n + 1 = m → ∀ q, H q = none → sp0 [.ref p, v] (upd (upd H p (.ins C dx (putF "_match_calls" (.int (n + 1)) fs))) q (.met f2 p)) Q E)
theorem ok_fm {f f2 c cc D C CF : Addr} {fd fd2 : FuncData} {k : Nat} {sp0 : Sp} (U : FunS K P mg "matches" "FailingKey.matches" sFM f c cc D fd) (kc : KCls K C) (kf : KFail K C) (A : Above K C D "matches" f2) (G : FnOk P w K mg base (L2.CX P w) k f2 fd2 ["self", "other"] sp0) (hb : Binds K fd2 ["self", "other"] []) (x : XK P w K mg base "MatchFault" CF "label") (hk : 2 ≤ k) :
    FnOk P w K mg base (L2.CX P w) (k + 1) f fd ["self", "other"] (spFM K C CF f2 sp0) := by
  refine U.okX scFM (fun vs H Q E h => ?_) (fun Ar outer s H vs Q E hr h => ?_)
  · obtain ⟨p, dx, fs, n, m, lb, v, rfl, _⟩ := h
    rfl
  · obtain ⟨p, dx, fs, n, m, lb, v, rfl, hp, hl, l1, l2, l3, k1, k2⟩ := h
    refine ⟨_, pat_cons (ps_fldaug (pv 0) pe_int iop_add) (pat_cons (ps_if (pt_cmpR op_eq (pe_fld (pv 0) rfl) (pe_fld (pv 0) rfl) (nomark _)) (pss_one (ps_raise rfl (takes_of rfl rfl rfl rfl) (pmk_x (XK.to x) (hr.mono hk) rfl x.g (pa_cons (pe_fld (pv 0) rfl) pa_nil)))) pss_nil)
      (pat_ret (se_super (E := E) (dvs := []) U.sup A G hr hb .nil (passes_call (takes_of rfl rfl rfl rfl) fun _ _ _ _ z => z) (pa_cons (pv 1) pa_nil) rfl rfl rfl rfl rfl rfl rfl))), ?_⟩
    refine ⟨_, rfl, p, C, dx, fs, _, rfl, hp, kc.cl, kf.mc, l1, _, _, rfl, rfl, dx, fs, hp, by omega, ?_⟩
    have e1 := upd_same (H := H) (a := p) (o := .ins C dx (putF "_match_calls" (.int (n + 1)) fs))
    refine ⟨_, rfl, p, C, dx, _, .int (n + 1), rfl, e1, kc.cl, kf.mc, look_hit, _, rfl, p, C, dx, _, .int m, rfl, e1, kc.cl, kf.ma, (by rw [look_put (by decide +kernel)]; exact l2), rfl, _, rfl, ?_⟩
    refine ite2 (fun e => ?_) (fun e => ?_)
    · have e : n + 1 = m := V.int.inj (of_decide_eq_true e)
      exact ⟨_, rfl, p, C, dx, _, lb, rfl, e1, kc.cl, kc.nl, (by rw [look_put (by decide +kernel)]; exact l3), _, rfl, fun d hd => k1 e d hd⟩
    · have e : ¬ n + 1 = m := fun z => e (decide_eq_true (by rw [z]))
      exact ⟨p, dx, _, rfl, e1, fun q hq => ⟨_, rfl, upd_same, k2 e q (free_upd hp hq)⟩⟩
/-! ### traced keys -/
theorem scTC : NScope ["self", "__class__"] ["self"] ["__class__"] (defScope sTC) := nscope_by (by decide +kernel)
def spTC (K : PySem.W.Frag) (C CT f2 : Addr) (sp0 : Sp) : Sp := fun vs H Q E => ∃ p dx fs lb tr l evs, vs = [.ref p] ∧ H p = some (.ins C dx fs) ∧ fs.lookup ("label" : Str) = some lb ∧ fs.lookup ("_trace" : Str) = some (.ref tr) ∧ TrAt CT H tr l evs ∧ evs.length ≤ 1000 ∧
  ∀ tt, H tt = none → ∀ q, (upd (upd H tt (.tup [.str "code", lb])) l (.lst (evs ++ [.ref tt]))) q = none → sp0 [.ref p] (upd (upd (upd H tt (.tup [.str "code", lb])) l (.lst (evs ++ [.ref tt]))) q (.met f2 p)) Q E
theorem ok_tc {f f2 fN c cc D C CT : Addr} {fd fd2 fdN : FuncData} {k : Nat} {sp0 : Sp} (U : FunS K P mg "code" "TracedKey.code" sTC f c cc D fd) (kc : KCls K C) (nt : NoAttr K C "_trace") (A : Above K C D "code" f2) (G : FnOk P w K mg base (L2.CX P w) k f2 fd2 ["self"] sp0) (hb : Binds K fd2 ["self"] [])
    (clT : Cls K CT) (MN : Meth K CT "note" fN) (GN : FnOk P w K mg base CX0 1 fN fdN ["self", "event"] (spTrN CT)) (bN : Binds K fdN ["self", "event"] []) (hk : 2 ≤ k) :
    FnOk P w K mg base (L2.CX P w) (k + 1) f fd ["self"] (spTC K C CT f2 sp0) := by
  refine U.okX scTC (fun vs H Q E h => ?_) (fun Ar outer s H vs Q E hr h => ?_)
  · obtain ⟨p, dx, fs, lb, tr, l, evs, rfl, _⟩ := h
    rfl
  · obtain ⟨p, dx, fs, lb, tr, l, evs, rfl, hp, l1, l2, ht, hz, k1⟩ := h
    obtain ⟨dt, ho⟩ := ht.ob
    refine ⟨_, pat_cons (ps_expr (pe_meth (pe_fld (pv 0) rfl) clT MN GN (hr.mono (by omega)) bN .nil pass0 (pa_cons (pe_tup (pa_cons pe_str (pa_cons (pe_fld (pv 0) rfl) pa_nil))) pa_nil)))
      (pat_ret (se_super (E := E) (dvs := []) U.sup A G hr hb .nil (passes_call (takes_of rfl rfl rfl rfl) fun _ _ _ _ z => z) pa_nil rfl rfl rfl rfl rfl rfl rfl)), ?_⟩
    refine ⟨_, rfl, p, C, dx, fs, .ref tr, rfl, hp, kc.cl, nt, l2, tr, dt, _, rfl, ho, rfl, _, rfl, p, C, dx, fs, lb, rfl, hp, kc.cl, kc.nl, l1, by show 2 ≤ sizeLine; decide, fun tt htt => ?_⟩
    have y := same_new (o := .tup [.str "code", lb]) htt
    refine ⟨tr, l, evs, .ref tt, rfl, ⟨⟨dt, y _ _ ho⟩, y _ _ ht.ls⟩, hz, ?_⟩
    have np : p ≠ l := ne_of hp ht.ls (by intro z; cases z)
    exact ⟨p, dx, fs, rfl, (by rw [upd_ne np]; exact y _ _ hp), fun q hq => ⟨upd_same, k1 tt htt q hq⟩⟩
theorem scTM : NScope ["self", "other", "__class__"] ["self", "other"] ["__class__"] (defScope sTM) := nscope_by (by decide +kernel)
def spTM (K : PySem.W.Frag) (C C1 CT f2 : Addr) (sp0 : Sp) : Sp := fun vs H Q E => ∃ p dx fs lb tr l evs v r, vs = [.ref p, v] ∧ H p = some (.ins C dx fs) ∧ fs.lookup ("label" : Str) = some lb ∧ fs.lookup ("_trace" : Str) = some (.ref tr) ∧ TrAt CT H tr l evs ∧ evs.length ≤ 1000 ∧ KV K C1 H v r ∧
  ∀ tt, H tt = none → ∀ q, (upd (upd H tt (.tup [.str "matches", lb, r.getD v])) l (.lst (evs ++ [.ref tt]))) q = none → sp0 [.ref p, v] (upd (upd (upd H tt (.tup [.str "matches", lb, r.getD v])) l (.lst (evs ++ [.ref tt]))) q (.met f2 p)) Q E
theorem ok_tm {f f2 fN fo c cc D C C1 CT : Addr} {fd fd2 fdN fdo : FuncData} {k : Nat} {sp0 : Sp} (U : FunS K P mg "matches" "TracedKey.matches" sTM f c cc D fd) (kc : KCls K C) (nt : NoAttr K C "_trace") (A : Above K C D "matches" f2) (G : FnOk P w K mg base (L2.CX P w) k f2 fd2 ["self", "other"] sp0) (hb : Binds K fd2 ["self", "other"] [])
    (clT : Cls K CT) (MN : Meth K CT "note" fN) (GN : FnOk P w K mg base CX0 1 fN fdN ["self", "event"] (spTrN CT)) (bN : Binds K fdN ["self", "event"] []) (Do : Df K mg "_name_of" "_name_of" sNameOf ["key"] fo fdo) (Go : FnOk P w K mg base CX0 1 fo fdo ["key"] (spNameOf K C1)) (hk : 2 ≤ k) :
    FnOk P w K mg base (L2.CX P w) (k + 1) f fd ["self", "other"] (spTM K C C1 CT f2 sp0) := by
  refine U.okX scTM (fun vs H Q E h => ?_) (fun Ar outer s H vs Q E hr h => ?_)
  · obtain ⟨p, dx, fs, lb, tr, l, evs, v, r, rfl, _⟩ := h
    rfl
  · obtain ⟨p, dx, fs, lb, tr, l, evs, v, r, rfl, hp, l1, l2, ht, hz, hv, k1⟩ := h
    obtain ⟨dt, ho⟩ := ht.ob
    refine ⟨_, pat_cons (ps_expr (pe_meth (pe_fld (pv 0) rfl) clT MN GN (hr.mono (by omega)) bN .nil pass0 (pa_cons (pe_tup (pa_cons pe_str (pa_cons (pe_fld (pv 0) rfl) (pa_cons (pe_call Go (hr.mono (by omega)) rfl Do.g Do.F.kp Do.b .nil pass0 (pa_cons (pv 1) pa_nil)) pa_nil)))) pa_nil)))
      (pat_ret (se_super (E := E) (dvs := []) U.sup A G hr hb .nil (passes_call (takes_of rfl rfl rfl rfl) fun _ _ _ _ z => z) (pa_cons (pv 1) pa_nil) rfl rfl rfl rfl rfl rfl rfl)), ?_⟩
    refine ⟨_, rfl, p, C, dx, fs, .ref tr, rfl, hp, kc.cl, nt, l2, tr, dt, _, rfl, ho, rfl, _, rfl, p, C, dx, fs, lb, rfl, hp, kc.cl, kc.nl, l1, _, rfl, v, r, rfl, hv, by show 3 ≤ sizeLine; decide, fun tt htt => ?_⟩
    have y := same_new (o := .tup [.str "matches", lb, r.getD v]) htt
    refine ⟨tr, l, evs, .ref tt, rfl, ⟨⟨dt, y _ _ ho⟩, y _ _ ht.ls⟩, hz, ?_⟩
    have np : p ≠ l := ne_of hp ht.ls (by intro z; cases z)
    exact ⟨p, dx, fs, rfl, (by rw [upd_ne np]; exact y _ _ hp), fun q hq => ⟨_, rfl, upd_same, k1 tt htt q hq⟩⟩
/-! ### methods that only ask above -/
def spS1 (C f2 : Addr) (sp0 : Sp) : Sp := fun vs H Q E => ∃ p dx fs, vs = [.ref p] ∧ H p = some (.ins C dx fs) ∧ ∀ q, H q = none → sp0 [.ref p] (upd H q (.met f2 p)) Q E
def spS2 (C f2 : Addr) (sp0 : Sp) : Sp := fun vs H Q E => ∃ p dx fs v, vs = [.ref p, v] ∧ H p = some (.ins C dx fs) ∧ ∀ q, H q = none → sp0 [.ref p, v] (upd H q (.met f2 p)) Q E
theorem scTFC : NScope ["self", "__class__"] ["self"] ["__class__"] (defScope sTFC) := nscope_by (by decide +kernel)
theorem scTFM : NScope ["self", "other", "__class__"] ["self", "other"] ["__class__"] (defScope sTFM) := nscope_by (by decide +kernel)
theorem scLC : NScope ["self", "__class__"] ["self"] ["__class__"] (defScope sLC) := nscope_by (by decide +kernel)
theorem ok_tfc {f f2 c cc D C : Addr} {fd fd2 : FuncData} {k : Nat} {sp0 : Sp} (U : FunS K P mg "code" "TracedFailingKey.code" sTFC f c cc D fd) (A : Above K C D "code" f2) (G : FnOk P w K mg base (L2.CX P w) k f2 fd2 ["self"] sp0) (hb : Binds K fd2 ["self"] []) : FnOk P w K mg base (L2.CX P w) (k + 1) f fd ["self"] (spS1 C f2 sp0) := by
  refine U.okX scTFC (fun vs H Q E h => ?_) (fun Ar outer s H vs Q E hr h => ?_)
  · obtain ⟨p, dx, fs, rfl, _⟩ := h
    rfl
  · obtain ⟨p, dx, fs, rfl, hp, k1⟩ := h
    exact ⟨_, pat_ret (se_super (E := E) (dvs := []) U.sup A G hr hb .nil (passes_call (takes_of rfl rfl rfl rfl) fun _ _ _ _ z => z) pa_nil rfl rfl rfl rfl rfl rfl rfl), p, dx, fs, rfl, hp, fun q hq => ⟨upd_same, k1 q hq⟩⟩
theorem ok_lcd {f f2 c cc D C : Addr} {fd fd2 : FuncData} {k : Nat} {sp0 : Sp} (U : FunS K P mg "code" "LopsidedKey.code" sLC f c cc D fd) (A : Above K C D "code" f2) (G : FnOk P w K mg base (L2.CX P w) k f2 fd2 ["self"] sp0) (hb : Binds K fd2 ["self"] []) : FnOk P w K mg base (L2.CX P w) (k + 1) f fd ["self"] (spS1 C f2 sp0) := by
  refine U.okX scLC (fun vs H Q E h => ?_) (fun Ar outer s H vs Q E hr h => ?_)
  · obtain ⟨p, dx, fs, rfl, _⟩ := h
    rfl
  · obtain ⟨p, dx, fs, rfl, hp, k1⟩ := h
    exact ⟨_, pat_ret (se_super (E := E) (dvs := []) U.sup A G hr hb .nil (passes_call (takes_of rfl rfl rfl rfl) fun _ _ _ _ z => z) pa_nil rfl rfl rfl rfl rfl rfl rfl), p, dx, fs, rfl, hp, fun q hq => ⟨upd_same, k1 q hq⟩⟩
theorem ok_tfm {f f2 c cc D C : Addr} {fd fd2 : FuncData} {k : Nat} {sp0 : Sp} (U : FunS K P mg "matches" "TracedFailingKey.matches" sTFM f c cc D fd) (A : Above K C D "matches" f2) (G : FnOk P w K mg base (L2.CX P w) k f2 fd2 ["self", "other"] sp0) (hb : Binds K fd2 ["self", "other"] []) : FnOk P w K mg base (L2.CX P w) (k + 1) f fd ["self", "other"] (spS2 C f2 sp0) := by
  refine U.okX scTFM (fun vs H Q E h => ?_) (fun Ar outer s H vs Q E hr h => ?_)
  · obtain ⟨p, dx, fs, v, rfl, _⟩ := h
    rfl
  · obtain ⟨p, dx, fs, v, rfl, hp, k1⟩ := h
    exact ⟨_, pat_ret (se_super (E := E) (dvs := []) U.sup A G hr hb .nil (passes_call (takes_of rfl rfl rfl rfl) fun _ _ _ _ z => z) (pa_cons (pv 1) pa_nil) rfl rfl rfl rfl rfl rfl rfl), p, dx, fs, rfl, hp, fun q hq => ⟨_, rfl, upd_same, k1 q hq⟩⟩
/-! ### lopsided keys -/
theorem scLM : FnScope ["self", "other", "answer"] ["self", "other"] (defScope sLM) := ⟨rfl, rfl, rfl, by decide +kernel, rfl, by decide +kernel, by decide +kernel⟩
def spLM (C : Addr) : Sp := fun vs H Q _ => ∃ (p dx : Addr) (fs : List (Str × V)) (n : Nat) (a : Addr) (xs : List V) (v y : V), vs = [.ref p, v] ∧ H p = some (.ins C dx fs) ∧ fs.length < 900 ∧ fs.lookup ("_answers" : Str) = some (.ref a) ∧ fs.lookup ("_turn" : Str) = some (.int (n : Int)) ∧ H a = some (.tup xs) ∧ xs[n % xs.length]? = some y ∧
  Q y (upd H p (.ins C dx (putF "_turn" (.int ((n : Int) + 1)) fs)))
theorem ok_lm {f C : Addr} {fd : FuncData} (F : Fun K "matches" "LopsidedKey.matches" sLM f fd) (B : Bl mg) (kc : KCls K C) (na : NoAttr K C "_answers") (nt : NoAttr K C "_turn") : FnOk P w K mg base (L2.CX P w) 1 f fd ["self", "other"] (spLM C) := by
  refine F.okX scLM (fun vs H Q E h => ?_) (fun cdv A outer s H vs Q E hr h => ?_)
  · obtain ⟨p, dx, fs, n, a, xs, v, y, rfl, _⟩ := h
    rfl
  · obtain ⟨p, dx, fs, n, a, xs, v, y, rfl, hp, hl, l1, l2, ha, hy, k⟩ := h
    refine ⟨_, pss_cons (ps_set (i := 2) scLM.nd rfl (Or.inl rfl) (pe_ix ix_tup (pe_fld (pv 0) rfl) (pe_op op_modN (pe_fld (pv 0) rfl) (pe_callB call_len_seq (by rfl) B.len PySem.boot_len (pa_cons (pe_fld (pv 0) rfl) pa_nil))) (fun _ _ => rfl)))
      (pss_cons (ps_fldaug (pv 0) pe_int iop_add) (pss_one (ps_ret (pv 2)))), ?_⟩
    have h0 : 0 < xs.length := by
      cases xs with
      | nil => simp at hy
      | cons z zs => exact Nat.succ_pos _
    refine ⟨_, rfl, p, C, dx, fs, .ref a, rfl, hp, kc.cl, na, l1, _, rfl, p, C, dx, fs, _, rfl, hp, kc.cl, nt, l2, _, rfl, p, C, dx, fs, .ref a, rfl, hp, kc.cl, na, l1, a, xs, rfl, .inr (SqT.of ha), (n : Int), (xs.length : Int), rfl, rfl, by omega, ?_⟩
    have e : (n : Int).fmod (xs.length : Int) = ((n % xs.length : Nat) : Int) := by
      rw [Int.fmod_eq_emod_of_nonneg _ (by omega)]
      rfl
    dsimp only
    rw [e]
    refine ⟨a, _, _, _, rfl, rfl, SqT.of ha, atI_nat hy, ?_⟩
    refine ⟨_, rfl, p, C, dx, fs, _, rfl, hp, kc.cl, nt, l2, _, _, rfl, rfl, dx, fs, hp, by omega, ?_⟩
    exact ⟨_, rfl, k⟩
end
end K02
set_option Elab.async false
set_option linter.all false
set_option maxRecDepth 100000
set_option maxHeartbeats 4000000
namespace K02
open PySem L2 Xo Su NdefX LamX
abbrev sDC : Stmt := inClass cDrk 1
abbrev sDM : Stmt := inClass cDrk 2
section
variable {P : Program} {w : World} {K : PySem.W.Frag} {mg : Str → Option Value} {base : Heap}
theorem scDC : FnScope ["self", "code"] ["self"] (defScope sDC) := ⟨rfl, rfl, rfl, by decide +kernel, rfl, by decide +kernel, by decide +kernel⟩
def spDCo (C : Addr) : Sp := fun vs H Q _ => ∃ (p dx : Addr) (fs : List (Str × V)) (n : Nat) (a : Addr) (xs : List V) (y : V), vs = [.ref p] ∧ H p = some (.ins C dx fs) ∧ fs.length < 900 ∧ fs.lookup ("_codes" : Str) = some (.ref a) ∧ fs.lookup ("_turn" : Str) = some (.int (n : Int)) ∧ H a = some (.tup xs) ∧ xs[n % xs.length]? = some y ∧
  Q y (upd H p (.ins C dx (putF "_turn" (.int ((n : Int) + 1)) fs)))
theorem ok_dc {f C : Addr} {fd : FuncData} (F : Fun K "code" "DriftingKey.code" sDC f fd) (B : Bl mg) (kc : KCls K C) (na : NoAttr K C "_codes") (nt : NoAttr K C "_turn") : FnOk P w K mg base (L2.CX P w) 1 f fd ["self"] (spDCo C) := by
  refine F.okX scDC (fun vs H Q E h => ?_) (fun cdv A outer s H vs Q E hr h => ?_)
  · obtain ⟨p, dx, fs, n, a, xs, y, rfl, _⟩ := h
    rfl
  · obtain ⟨p, dx, fs, n, a, xs, y, rfl, hp, hl, l1, l2, ha, hy, k⟩ := h
    refine ⟨_, pss_cons (ps_set (i := 1) scDC.nd rfl (Or.inl rfl) (pe_ix ix_tup (pe_fld (pv 0) rfl) (pe_op op_modN (pe_fld (pv 0) rfl) (pe_callB call_len_seq (by rfl) B.len PySem.boot_len (pa_cons (pe_fld (pv 0) rfl) pa_nil))) (fun _ _ => rfl)))
      (pss_cons (ps_fldaug (pv 0) pe_int iop_add) (pss_one (ps_ret (pv 1)))), ?_⟩
    have h0 : 0 < xs.length := by
      cases xs with
      | nil => simp at hy
      | cons z zs => exact Nat.succ_pos _
    refine ⟨_, rfl, p, C, dx, fs, .ref a, rfl, hp, kc.cl, na, l1, _, rfl, p, C, dx, fs, _, rfl, hp, kc.cl, nt, l2, _, rfl, p, C, dx, fs, .ref a, rfl, hp, kc.cl, na, l1, a, xs, rfl, .inr (SqT.of ha), (n : Int), (xs.length : Int), rfl, rfl, by omega, ?_⟩
    have e : (n : Int).fmod (xs.length : Int) = ((n % xs.length : Nat) : Int) := by
      rw [Int.fmod_eq_emod_of_nonneg _ (by omega)]
      rfl
    dsimp only
    rw [e]
    refine ⟨a, _, _, _, rfl, rfl, SqT.of ha, atI_nat hy, ?_⟩
    refine ⟨_, rfl, p, C, dx, fs, _, rfl, hp, kc.cl, nt, l2, _, _, rfl, rfl, dx, fs, hp, by omega, ?_⟩
    exact ⟨_, rfl, k⟩
theorem scDM : NScope ["self", "other", "__class__"] ["self", "other"] ["__class__"] (defScope sDM) := nscope_by (by decide +kernel)
theorem ok_dm {f f2 c cc D C : Addr} {fd fd2 : FuncData} {k : Nat} {sp0 : Sp} (U : FunS K P mg "matches" "DriftingKey.matches" sDM f c cc D fd) (A : Above K C D "matches" f2) (G : FnOk P w K mg base (L2.CX P w) k f2 fd2 ["self", "other"] sp0) (hb : Binds K fd2 ["self", "other"] []) : FnOk P w K mg base (L2.CX P w) (k + 1) f fd ["self", "other"] (spS2 C f2 sp0) := by
  refine U.okX scDM (fun vs H Q E h => ?_) (fun Ar outer s H vs Q E hr h => ?_)
  · obtain ⟨p, dx, fs, v, rfl, _⟩ := h
    rfl
  · obtain ⟨p, dx, fs, v, rfl, hp, k1⟩ := h
    exact ⟨_, pat_ret (se_super (E := E) (dvs := []) U.sup A G hr hb .nil (passes_call (takes_of rfl rfl rfl rfl) fun _ _ _ _ z => z) (pa_cons (pv 1) pa_nil) rfl rfl rfl rfl rfl rfl rfl), p, dx, fs, rfl, hp, fun q hq => ⟨_, rfl, upd_same, k1 q hq⟩⟩
end
end K02
set_option Elab.async false
set_option linter.all false
set_option maxRecDepth 100000
/-! Sb: what a def with defaults binds, told by its FuncData -/
namespace Sb
open PySem PySem.Spec PyProof.Rows L2
theorem binds_d {K : PySem.W.Frag} {fd : FuncData} {ps : List Str} {T : Addr} {o : Obj} {its : List Value} {m n j : Nat} (lT : K.lookup T = some o) (oT : o.data = .seq its.toArray m) (hn : n + (its.drop j).length = ps.length)
    (h : ∀ us : List Value, us.length = n → ∃ k : Option (Array Value) → Sem (List (Str × Value)), bindArgs fd ⟨us, []⟩ = seqItems? (.ref T) >>= k ∧ k (some its.toArray) = pure (ps.zip (us ++ its.drop j))) : Binds K fd ps (its.drop j) := fun s us X hlen => by
  have l2 : us.length = n := by
    rw [List.length_append] at hlen
    omega
  obtain ⟨k, e1, e2⟩ := h us l2
  refine BindsTo.of_looks fun M => ?_
  rw [e1]
  exact looks_items X lT oT (.of_pure e2)
end Sb
namespace Sb
open PySem PySem.Spec PyProof.Rows L2
/-- all but the last two are given by place, the last by its name, the one between by its default -/
theorem kb_mid {K : PySem.W.Frag} {fd : FuncData} {ps : List Str} {x : Str} {T : Addr} {o : Obj} {d0 d1 : Value} {v0 : V} {m n : Nat} (lT : K.lookup T = some o) (oT : o.data = .seq #[d0, d1] m) (rd : RelV v0 d0)
    (h : ∀ (us : List Value) (u : Value), us.length = n → ∃ k : Option (Array Value) → Sem (List (Str × Value)), bindArgs fd ⟨us, [(x, u)]⟩ = seqItems? (.ref T) >>= k ∧ k (some #[d0, d1]) = pure (ps.zip (us ++ [d0, u]))) : KBn K fd ps n [x] (fun us ws => us ++ d0 :: ws) (fun vs zs => vs ++ v0 :: zs) where
  to := fun s us ws X l1 l2 => by
    match ws, l2 with
    | [u], _ =>
      obtain ⟨k, e1, e2⟩ := h us u l1
      refine BindsTo.of_looks fun M => ?_
      show PySem.W.Looks M s.heap (bindArgs fd ⟨us, [(x, u)]⟩) _
      rw [e1]
      exact looks_items X lT oT (.of_pure e2)
  rel := fun r r' => r.append (.cons rd r')
end Sb
namespace Sb
open PySem PySem.Spec PyProof.Rows L2
/-- all but the last two are given by place, the last two by their names -/
theorem kb_two {K : PySem.W.Frag} {fd : FuncData} {ps : List Str} {x y : Str} {T : Addr} {o : Obj} {d0 d1 : Value} {m n : Nat} (lT : K.lookup T = some o) (oT : o.data = .seq #[d0, d1] m)
    (h : ∀ (us : List Value) (u v : Value), us.length = n → ∃ k : Option (Array Value) → Sem (List (Str × Value)), bindArgs fd ⟨us, [(x, u), (y, v)]⟩ = seqItems? (.ref T) >>= k ∧ k (some #[d0, d1]) = pure (ps.zip (us ++ [u, v]))) : KBn K fd ps n [x, y] (fun us ws => us ++ ws) (fun vs zs => vs ++ zs) where
  to := fun s us ws X l1 l2 => by
    match ws, l2 with
    | [u, v], _ =>
      obtain ⟨k, e1, e2⟩ := h us u v l1
      refine BindsTo.of_looks fun M => ?_
      show PySem.W.Looks M s.heap (bindArgs fd ⟨us, [(x, u), (y, v)]⟩) _
      rw [e1]
      exact looks_items X lT oT (.of_pure e2)
  rel := fun r r' => r.append r'
end Sb
set_option Elab.async false
set_option linter.all false
set_option maxRecDepth 100000
set_option maxHeartbeats 4000000
namespace K02
open PySem L2 Xo Lm LamX
abbrev sTold : Stmt := top 35
abbrev NT : List Str := ["call", "found", "e"]
theorem scTold : FnScope NT ["call"] (defScope sTold) := ⟨rfl, rfl, rfl, by decide +kernel, rfl, by decide +kernel, by decide +kernel⟩
/-- the two faults and their family -/
structure Bad (K : PySem.W.Frag) (CF CM CU : Addr) : Prop where
  yf : PySem.W.exmOne K (.ref CF) (.ref CU) = some true
  ym : PySem.W.exmOne K (.ref CM) (.ref CU) = some true
  ef : ExcC K CF
  em : ExcC K CM
  wf : XC K CF
  wm : XC K CM
  nf : PySem.W.findIn K (.ref CF) "label" = some none
  nm : PySem.W.findIn K (.ref CM) "label" = some none
  kff : PySem.W.kitOne K (.ref CF) (.ref CF) = some true
  kmf : PySem.W.kitOne K (.ref CM) (.ref CF) = some false
  kmm : PySem.W.kitOne K (.ref CM) (.ref CM) = some true
structure Nms (mg : Str → Option Value) (CF CM CU : Addr) : Prop where
  u : mg "Fault" = some (.ref CU)
  f : mg "CodeFault" = some (.ref CF)
  m : mg "MatchFault" = some (.ref CM)
def ToldE (CF CM : Addr) (Q : VK) : L2.XK := fun cls d H' => ∃ (dd : Addr) (fs : List (Str × V)) (y : V), d = some dd ∧ H' dd = some (.xd fs) ∧ fs.lookup ("label" : Str) = some y ∧
  ((cls = .ref CF ∧ ∀ L, H' L = none → Q (.ref L) (upd H' L (.lst [.str "code", y]))) ∨ (cls = .ref CM ∧ ∀ L, H' L = none → Q (.ref L) (upd H' L (.lst [.str "matches", y]))))
def TTtold (CF CM : Addr) : (L2.XK → Hp → VK → Prop) → Hp → VK → Prop := fun tl H Q => tl (ToldE CF CM Q) H fun v H' => ∃ v', some (some v) = some (some v') ∧ 1 ≤ sizeLine ∧ ∀ L, H' L = none → Q (.ref L) (upd H' L (.lst [v']))
theorem told_gives {X : Cx} {g CF CM CU : Addr} {cdg : Value} {q : Str} (N : Nms X.mg CF CM CU) (is : X.mg "isinstance" = none) (Bd : Bad X.K CF CM CU) :
    Gives X NT "_law_told" (defScope sTold) g cdg (defBody sTold) "call" q (TTtold CF CM) := by
  intro f c' s H Q tl act hc h
  have nd : NT.Nodup := by decide +kernel
  refine ⟨_, pss_cons (ps_try_as (X := (gCx X NT "_law_told" (defScope sTold) g cdg s H).nox) (i := 2) (c := .ref CU) (tb := fun W D σ H => ∃ Ech : L2.XK, σ[0]? = some (some (.ref f)) ∧ H c' = some (CodeO c' q) ∧ (∀ cls d H', Ech cls d H' → W cls d σ H') ∧ tl Ech H fun v H' => D.nx (σ.set 1 (some v)) H') rfl rfl nd rfl rfl ⟨rfl, by decide, .inl N.u⟩ LamX.takes0 (fun W pn xe tk _ => ?_)
      (fun a oe cls d pn hz hf => pss_cons (ps_if (pt_val (pe_callB (Xo.call_isS hz hf) (by rfl) is (by decide +kernel) (pa_cons (pv 2) (pa_cons (pe_glob (v := .ref CF) rfl N.f rfl) pa_nil)))) (pss_one (ps_ret (pe_lst (pa_cons pe_str (pa_cons (pe_xfS hz hf (pv 2)) pa_nil))))) pss_nil)
        (pss_one (ps_ret (pe_ifExp (pt_val (pe_callB (Xo.call_isS hz hf) (by rfl) is (by decide +kernel) (pa_cons (pv 2) (pa_cons (pe_glob (v := .ref CM) rfl N.m rfl) pa_nil)))) (pe_lst (pa_cons pe_str (pa_cons (pe_xfS hz hf (pv 2)) pa_nil))) (pe_lst (pa_cons pe_str pa_nil)))))))
    (pss_one (ps_ret (pe_lst (pa_cons (pv 1) pa_nil)))), ?_⟩
  · refine ⟨fun pins s' σ H' D I h' => ?_⟩
    obtain ⟨Ech, h1, h2, h3, h4⟩ := h'
    exact (pss_one (ps_set (i := 1) nd rfl (Or.inl rfl) (act W pn xe Ech _ _ tk))).run pins s' σ H' D I ⟨h1, h2, h3, h4⟩
  · refine ⟨ToldE CF CM Q, rfl, hc, fun cls d H' hE => ?_, h⟩
    obtain ⟨dd, fs, y, rfl, hd, hl, ⟨rfl, k⟩ | ⟨rfl, k⟩⟩ := hE
    · refine ⟨true, Bd.yf, fun _ a ha => ?_, fun z => nomatch z⟩
      exact ⟨_, rfl, CF, dd, fs, _, _, _, rfl, rfl, rfl, hd, Bd.ef, .own _, Bd.kff, _, rfl, iteYes rfl ⟨_, rfl, CF, dd, fs, _, rfl, rfl, rfl, hd, Bd.wf, Bd.nf, hl, by show 2 ≤ sizeLine; decide, k⟩⟩
    · refine ⟨true, Bd.ym, fun _ a ha => ?_, fun z => nomatch z⟩
      exact ⟨_, rfl, CM, dd, fs, _, _, _, rfl, rfl, rfl, hd, Bd.em, .own _, Bd.kmf, _, rfl, iteNo (by decide) ⟨_, rfl, CM, dd, fs, _, _, _, rfl, rfl, rfl, hd, Bd.em, .own _, Bd.kmm, _, rfl, iteYes rfl ⟨_, rfl, CM, dd, fs, _, rfl, rfl, rfl, hd, Bd.wm, Bd.nm, hl, by show 2 ≤ sizeLine; decide, k⟩⟩⟩
end K02
set_option Elab.async false
set_option linter.all false
set_option maxRecDepth 100000
set_option maxHeartbeats 4000000
namespace K02
open PySem L2 Xo Lm LamX
abbrev sDue : Stmt := top 36
/-- what the law knows of a key -/
structure Kn where
  way : Nat
  label : Str
  codes : List Nat
  ans : List Bool
  f0 : Nat
  f1 : Nat
structure KnAt (H : Hp) (r : Addr) (k : Kn) : Prop where
  ex : ∃ cd an fl, H r = some (.lst [.int (k.way : Int), .str k.label, .ref cd, .ref an, .ref fl]) ∧ H cd = some (.tup (k.codes.map fun c : Nat => V.int (c : Int))) ∧ H an = some (.tup (k.ans.map V.bl)) ∧ H fl = some (.tup [.int (k.f0 : Int), .int (k.f1 : Int)])
theorem KnAt.same {H H' : Hp} {r : Addr} {k : Kn} (s : Same H H') (h : KnAt H r k) : KnAt H' r k := by
  obtain ⟨cd, an, fl, a, b, c, d⟩ := h.ex
  exact ⟨cd, an, fl, s _ _ a, s _ _ b, s _ _ c, s _ _ d⟩
/-- a key of this kind may be drawn -/
def LabOk (a : Str) : Prop := PyData.strOk a = true ∧ a ∈ ([("a" : Str), "b", "", "key"] : List Str)
structure Kn.Ok (k : Kn) : Prop where
  cd : k.codes ≠ []
  st : LabOk k.label
  cn : ∀ c ∈ k.codes, c < 4294967296
/-- what is due: the turn-th call, of code() (false) or matches -/
def Kn.due (k : Kn) (turn : Nat) (m : Bool) (same : Bool) : List V :=
  if turn = (if m = true then k.f1 else k.f0) then [.str (if m = true then "matches" else "code"), .str k.label]
  else if m = false then [.int ((k.codes.getD ((turn - 1) % k.codes.length) 0 : Nat) : Int)]
  else if k.ans.isEmpty = false then [.bl (k.ans.getD ((turn - 1) % k.ans.length) false)]
  else [.bl same]
section
variable {P : Program} {w : World} {K : PySem.W.Frag} {mg : Str → Option Value} {base : Heap}
abbrev ND : List Str := ["known", "counts", "asked", "other", "way", "label", "codes", "answers", "fails", "turn"]
theorem scDue : FnScope ND ["known", "counts", "asked", "other"] (defScope sDue) := ⟨rfl, rfl, rfl, by decide +kernel, rfl, by decide +kernel, by decide +kernel⟩
theorem bools_lay : ∀ bs : List Bool, PyData.canLayAll0 (bs.map PyData.bool) = true ∧ PyData.depthAll (bs.map PyData.bool) = 0
  | [] => ⟨by simp [PyData.canLayAll0], by simp [PyData.depthAll]⟩
  | b :: bs => by
    obtain ⟨h1, h2⟩ := bools_lay bs
    rw [List.map_cons, PyData.canLayAll0, PyData.depthAll, h1, h2]
    exact ⟨by simp [PyData.canLay0], by simp [PyData.depth]⟩
theorem bools_sh (bs : List Bool) : SeqAt.shaped (.tuple (bs.map PyData.bool)) = true := by
  obtain ⟨h1, h2⟩ := bools_lay bs
  unfold SeqAt.shaped
  rw [PyData.canLay0, h1, PyData.depth, h2]
  rfl
theorem bools_nil (bs : List Bool) : PyData.eqv (.tuple (bs.map PyData.bool)) (.tuple []) = bs.isEmpty := by cases bs <;> simp [PyData.eqv, PyData.eqvAll]
theorem str_sh {a : Str} (h : PyData.strOk a = true) : SeqAt.shaped (.str a) = true := by
  unfold SeqAt.shaped
  rw [PyData.canLay0, h]
  rfl
def spDue : Sp := fun vs H Q _ => ∃ (r c o : Addr) (k : Kn) (a0 a1 : Nat) (m : Bool) (x : V) (lb : Option Str), vs = [.ref r, .ref c, .int (if m = true then 1 else 0), .ref o] ∧ KnAt H r k ∧ k.Ok ∧ H c = some (.lst [.int (a0 : Int), .int (a1 : Int)]) ∧ 0 < (if m = true then a1 else a0) ∧
  H o = some (.lst [.str (if lb.isSome = true then "key" else "plain"), x]) ∧ (∀ b, lb = some b → x = .str b ∧ PyData.strOk b = true) ∧ ∀ L H', Same H H' → H' L = some (.lst (k.due (if m = true then a1 else a0) m (decide (lb = some k.label)))) → Q (.ref L) H'
theorem ok_due {f : Addr} {fd : FuncData} (D : Df K mg "_law_due" "_law_due" sDue ["known", "counts", "asked", "other"] f fd) (B : Bl mg) : FnOk P w K mg base CX0 1 f fd ["known", "counts", "asked", "other"] spDue := by
  refine D.F.ok scDue (fun vs H Q E h => ?_) (fun cdv A outer sh H vs Q E hr h => ?_)
  · obtain ⟨r, c, o, k, a0, a1, m, x, lb, rfl, _⟩ := h
    rfl
  · obtain ⟨r, c, o, k, a0, a1, m, x, lb, rfl, hk, hok, hc, hpos, ho, hlb, q⟩ := h
    have hu64 := hr.units
    obtain ⟨cd, an, fl, e1, e2, e3, e4⟩ := hk.ex
    refine ⟨_, pss_cons (ps_asg (pv 0) (pg_lst rfl (pgs_cons (pg_name (i := 4) scDue.nd rfl (Or.inl rfl)) (pgs_cons (pg_name (i := 5) scDue.nd rfl (Or.inl rfl)) (pgs_cons (pg_name (i := 6) scDue.nd rfl (Or.inl rfl)) (pgs_cons (pg_name (i := 7) scDue.nd rfl (Or.inl rfl)) (pgs_cons (pg_name (i := 8) scDue.nd rfl (Or.inl rfl)) pgs_nil)))))))
      (pss_cons (ps_set (i := 9) scDue.nd rfl (Or.inl rfl) (pe_ix ix_list (pv 1) (pv 2) (fun _ _ => rfl)))
      (pss_cons (ps_if (pt_cmpR op_eq (pv 9) (pe_ix ix_tup (pv 8) (pv 2) (fun _ _ => rfl)) (nomark _)) (pss_one (ps_ret (pe_lst (pa_cons (pe_ix ix_list (pe_lst (pa_cons pe_str (pa_cons pe_str pa_nil))) (pv 2) (fun _ _ => rfl)) (pa_cons (pv 5) pa_nil))))) pss_nil)
      (pss_cons (ps_if (pt_cmpR op_eq (pv 2) pe_int (nomark _)) (pss_one (ps_ret (pe_lst (pa_cons (pe_ix ix_tup (pv 6) (pe_op op_modN (pe_op op_sub (pv 9) pe_int) (pe_callB call_len_seq (by rfl) B.len PySem.boot_len (pa_cons (pv 6) pa_nil))) (fun _ _ => rfl)) pa_nil)))) pss_nil)
      (pss_cons (ps_if (pt_cmpR (op_neD hu64) (pv 7) (pe_tup pa_nil) (nomark _)) (pss_one (ps_ret (pe_lst (pa_cons (pe_ix ix_tup (pv 7) (pe_op op_modN (pe_op op_sub (pv 9) pe_int) (pe_callB call_len_seq (by rfl) B.len PySem.boot_len (pa_cons (pv 7) pa_nil))) (fun _ _ => rfl)) pa_nil)))) pss_nil)
      (pss_one (ps_ret (pe_lst (pa_cons (pe_and (pe_cmpR (op_eqD hu64) (pe_ix ix_list (pv 3) pe_int (fun _ _ => rfl)) pe_str (nomark _)) (pe_one (pe_cmpR (op_eqD hu64) (pe_ix ix_list (pv 3) pe_int (fun _ _ => rfl)) (pv 5) (nomark _)))) pa_nil)))))))), ?_⟩
    refine ⟨_, rfl, r, _, rfl, SqL.of e1, rfl, _, _, rfl, _, _, rfl, _, _, rfl, _, _, rfl, _, _, rfl, rfl, ?_⟩
    cases m with
    | false =>
      have hpos : 0 < a0 := hpos
      have q : ∀ L H', Same H H' → H' L = some (.lst (k.due a0 false (decide (lb = some k.label)))) → Q (.ref L) H' := q
      refine ⟨_, rfl, _, rfl, c, _, (0 : Int), _, rfl, rfl, SqL.of hc, atI_nat (j := 0) rfl, ?_⟩
      refine ⟨_, rfl, _, rfl, _, rfl, fl, _, (0 : Int), _, rfl, rfl, SqT.of e4, atI_nat (j := 0) rfl, rfl, _, rfl, ite2 (fun e => ?_) (fun e => ?_)⟩
      · have e : a0 = k.f0 := by
          have := V.int.inj (of_decide_eq_true e)
          omega
        refine ⟨by show 2 ≤ sizeLine; decide, fun L1 hL1 => ⟨_, rfl, L1, _, (0 : Int), _, rfl, rfl, SqL.of upd_same, atI_nat (j := 0) rfl, _, rfl, by show 2 ≤ sizeLine; decide, fun L hL => ?_⟩⟩
        refine q L _ ((same_new hL1).trans (same_new hL)) ?_
        rw [upd_same]
        unfold Kn.due
        rw [if_pos (show a0 = (if false = true then k.f1 else k.f0) from e)]
        rfl
      have ne : ¬ a0 = k.f0 := fun z => e (decide_eq_true (by rw [z]))
      refine ⟨_, rfl, rfl, _, rfl, iteYes rfl ?_⟩
      have h0 : 0 < k.codes.length := List.length_pos_iff.mpr hok.cd
      refine ⟨_, rfl, _, rfl, _, _, rfl, rfl, _, rfl, cd, _, rfl, .inr (SqT.of e2), _, _, rfl, rfl, (by rw [List.length_map]; omega), ?_⟩
      have e : (((a0 : Nat) : Int) - 1).fmod ((k.codes.map fun c : Nat => V.int (c : Int)).length : Nat) = (((a0 - 1) % k.codes.length : Nat) : Int) := by
        rw [List.length_map, show (((a0 : Nat) : Int) - 1) = ((a0 - 1 : Nat) : Int) by omega, Int.fmod_eq_emod_of_nonneg _ (by omega)]
        rfl
      dsimp only
      rw [e]
      have hlt := Nat.mod_lt (a0 - 1) h0
      have hy : (k.codes.map fun c : Nat => V.int (c : Int))[(a0 - 1) % k.codes.length]? = some (V.int ((k.codes.getD ((a0 - 1) % k.codes.length) 0 : Nat) : Int)) := by
        rw [List.getElem?_map, List.getElem?_eq_getElem hlt, List.getD_eq_getElem?_getD, List.getElem?_eq_getElem hlt]
        rfl
      refine ⟨cd, _, _, _, rfl, rfl, SqT.of e2, atI_nat hy, by show 1 ≤ sizeLine; decide, fun L hL => ?_⟩
      refine q L _ (same_new hL) ?_
      rw [upd_same]
      unfold Kn.due
      rw [if_neg (show ¬ a0 = (if false = true then k.f1 else k.f0) from ne), if_pos rfl]
    | true =>
      have hpos : 0 < a1 := hpos
      have q : ∀ L H', Same H H' → H' L = some (.lst (k.due a1 true (decide (lb = some k.label)))) → Q (.ref L) H' := q
      refine ⟨_, rfl, _, rfl, c, _, (1 : Int), _, rfl, rfl, SqL.of hc, atI_nat (j := 1) rfl, ?_⟩
      refine ⟨_, rfl, _, rfl, _, rfl, fl, _, (1 : Int), _, rfl, rfl, SqT.of e4, atI_nat (j := 1) rfl, rfl, _, rfl, ite2 (fun e => ?_) (fun e => ?_)⟩
      · have e : a1 = k.f1 := by
          have := V.int.inj (of_decide_eq_true e)
          omega
        refine ⟨by show 2 ≤ sizeLine; decide, fun L1 hL1 => ⟨_, rfl, L1, _, (1 : Int), _, rfl, rfl, SqL.of upd_same, atI_nat (j := 1) rfl, _, rfl, by show 2 ≤ sizeLine; decide, fun L hL => ?_⟩⟩
        refine q L _ ((same_new hL1).trans (same_new hL)) ?_
        rw [upd_same]
        unfold Kn.due
        rw [if_pos (show a1 = (if true = true then k.f1 else k.f0) from e)]
        rfl
      have ne : ¬ a1 = k.f1 := fun z => e (decide_eq_true (by rw [z]))
      refine ⟨_, rfl, rfl, _, rfl, iteNo (by decide) ?_⟩
      refine ⟨_, rfl, by show 0 ≤ sizeLine; decide, fun lt hlt => ?_⟩
      have y := same_new (o := .tup []) hlt
      refine ⟨.tuple (k.ans.map PyData.bool), .tuple [], .tup (SqT.of (y _ _ e3)) (dp_bools k.ans), .tup (SqT.of upd_same) .nil, bools_sh k.ans, by decide +kernel, _, rfl, ?_⟩
      rw [bools_nil]
      have dn : ¬ a1 = (if true = true then k.f1 else k.f0) := ne
      cases hem : k.ans.isEmpty with
      | false =>
        refine iteYes rfl ?_
        have h0 : 0 < k.ans.length := List.length_pos_iff.mpr (fun z => by rw [z] at hem; cases hem)
        refine ⟨_, rfl, _, rfl, _, _, rfl, rfl, _, rfl, an, _, rfl, .inr (SqT.of (y _ _ e3)), _, _, rfl, rfl, (by rw [List.length_map]; omega), ?_⟩
        have e : (((a1 : Nat) : Int) - 1).fmod ((k.ans.map V.bl).length : Nat) = (((a1 - 1) % k.ans.length : Nat) : Int) := by
          rw [List.length_map, show (((a1 : Nat) : Int) - 1) = ((a1 - 1 : Nat) : Int) by omega, Int.fmod_eq_emod_of_nonneg _ (by omega)]
          rfl
        dsimp only
        rw [e]
        have hlt2 := Nat.mod_lt (a1 - 1) h0
        have hy : (k.ans.map V.bl)[(a1 - 1) % k.ans.length]? = some (V.bl (k.ans.getD ((a1 - 1) % k.ans.length) false)) := by
          rw [List.getElem?_map, List.getElem?_eq_getElem hlt2, List.getD_eq_getElem?_getD, List.getElem?_eq_getElem hlt2]
          rfl
        refine ⟨an, _, _, _, rfl, rfl, SqT.of (y _ _ e3), atI_nat hy, by show 1 ≤ sizeLine; decide, fun L hL => ?_⟩
        refine q L _ (y.trans (same_new hL)) ?_
        rw [upd_same]
        unfold Kn.due
        rw [if_neg dn, if_neg (by decide), if_pos hem]
      | true =>
        refine iteNo (by decide) ?_
        have fin : ∀ L, (upd H lt (.tup [])) L = none → ∀ b, b = decide (lb = some k.label) → Q (.ref L) (upd (upd H lt (.tup [])) L (.lst [.bl b])) := fun L hL b hb => by
          subst hb
          refine q L _ (y.trans (same_new hL)) ?_
          rw [upd_same]
          unfold Kn.due
          rw [if_neg dn, if_neg (by decide), if_neg (by rw [hem]; decide)]
        cases lb with
        | none =>
          refine ⟨_, rfl, o, _, (0 : Int), _, rfl, rfl, SqL.of (y _ _ ho), atI_nat (j := 0) rfl, .str "plain", .str "key", .str _, .str _, by decide +kernel, by decide +kernel, _, rfl, iteNo (by decide +kernel) ⟨by show 1 ≤ sizeLine; decide, fun L hL => ?_⟩⟩
          exact fin L hL _ (decide_eq_false (fun z => nomatch z)).symm
        | some b =>
          obtain ⟨rfl, hst⟩ := hlb b rfl
          refine ⟨_, rfl, o, _, (0 : Int), _, rfl, rfl, SqL.of (y _ _ ho), atI_nat (j := 0) rfl, .str "key", .str "key", .str _, .str _, by decide +kernel, by decide +kernel, _, rfl, iteYes (by decide +kernel) ?_⟩
          refine ⟨_, rfl, o, _, (1 : Int), _, rfl, rfl, SqL.of (y _ _ ho), atI_nat (j := 1) rfl, _, rfl, .str b, .str k.label, .str _, .str _, str_sh hst, str_sh hok.st.1, by show 1 ≤ sizeLine; decide, fun L hL => ?_⟩
          refine fin L hL _ ?_
          simp [PyData.eqv]
          exact Bool.eq_iff_iff.mpr (by rw [decide_eq_true_iff, beq_iff_eq])
end
end K02
set_option Elab.async false
set_option linter.all false
set_option maxRecDepth 100000
set_option maxHeartbeats 4000000
namespace K02
open PySem L2 Xo Lm LamX
abbrev sLKey : Stmt := top 34
/-- the object of a key of this kind, behind a0 calls of code() and a1 of matches -/
inductive KoAt (C1 C2 C3 C4 CD CL tr : Addr) (H : Hp) : V → Kn → Nat → Nat → Prop
  | key {p dx : Addr} {k : Kn} {a0 a1 : Nat} (hw : k.way = 0) (h : H p = some (.ins C1 dx [("label", .str k.label), ("_code", .int ((k.codes.getD 0 0 : Nat) : Int))])) (h1 : k.codes.length = 1) (h2 : k.ans = []) (h3 : k.f0 = 0 ∧ k.f1 = 0) : KoAt C1 C2 C3 C4 CD CL tr H (.ref p) k a0 a1
  | tr {p dx : Addr} {k : Kn} {a0 a1 : Nat} (hw : k.way = 1) (h : H p = some (.ins C2 dx [("label", .str k.label), ("_code", .int ((k.codes.getD 0 0 : Nat) : Int)), ("_trace", .ref tr)])) (h1 : k.codes.length = 1) (h2 : k.ans = []) (h3 : k.f0 = 0 ∧ k.f1 = 0) : KoAt C1 C2 C3 C4 CD CL tr H (.ref p) k a0 a1
  | fail {p dx : Addr} {k : Kn} {a0 a1 : Nat} (hw : k.way = 2) (h : H p = some (.ins C3 dx [("label", .str k.label), ("_code", .int ((k.codes.getD 0 0 : Nat) : Int)), ("_code_at", .int (k.f0 : Int)), ("_match_at", .int (k.f1 : Int)), ("_code_calls", .int (a0 : Int)), ("_match_calls", .int (a1 : Int))])) (h1 : k.codes.length = 1) (h2 : k.ans = []) : KoAt C1 C2 C3 C4 CD CL tr H (.ref p) k a0 a1
  | tf {p dx : Addr} {k : Kn} {a0 a1 : Nat} (hw : k.way = 3) (h : H p = some (.ins C4 dx [("label", .str k.label), ("_code", .int ((k.codes.getD 0 0 : Nat) : Int)), ("_code_at", .int (k.f0 : Int)), ("_match_at", .int (k.f1 : Int)), ("_code_calls", .int (a0 : Int)), ("_match_calls", .int (a1 : Int)), ("_trace", .ref tr)])) (h1 : k.codes.length = 1) (h2 : k.ans = []) : KoAt C1 C2 C3 C4 CD CL tr H (.ref p) k a0 a1
  | drift {p dx cd : Addr} {k : Kn} {a0 a1 : Nat} {c0 : V} (hw : k.way = 4) (h : H p = some (.ins CD dx [("label", .str k.label), ("_code", c0), ("_codes", .ref cd), ("_turn", .int (a0 : Int))])) (hc : H cd = some (.tup (k.codes.map fun c : Nat => V.int (c : Int)))) (h2 : k.ans = []) (h3 : k.f0 = 0 ∧ k.f1 = 0) : KoAt C1 C2 C3 C4 CD CL tr H (.ref p) k a0 a1
  | lop {p dx an : Addr} {k : Kn} {a0 a1 : Nat} (hw : k.way = 5) (h : H p = some (.ins CL dx [("label", .str k.label), ("_code", .int ((k.codes.getD 0 0 : Nat) : Int)), ("_answers", .ref an), ("_turn", .int (a1 : Int))])) (hc : H an = some (.tup (k.ans.map V.bl))) (h1 : k.codes.length = 1) (h2 : k.ans ≠ []) (h3 : k.f0 = 0 ∧ k.f1 = 0) : KoAt C1 C2 C3 C4 CD CL tr H (.ref p) k a0 a1
theorem KoAt.same {C1 C2 C3 C4 CD CL tr : Addr} {H H' : Hp} {v : V} {k : Kn} {a0 a1 : Nat} (s : Same H H') (h : KoAt C1 C2 C3 C4 CD CL tr H v k a0 a1) : KoAt C1 C2 C3 C4 CD CL tr H' v k a0 a1 := by
  cases h with
  | key hw h h1 h2 h3 => exact .key hw (s _ _ h) h1 h2 h3
  | tr hw h h1 h2 h3 => exact .tr hw (s _ _ h) h1 h2 h3
  | fail hw h h1 h2 => exact .fail hw (s _ _ h) h1 h2
  | tf hw h h1 h2 => exact .tf hw (s _ _ h) h1 h2
  | drift hw h hc h2 h3 => exact .drift hw (s _ _ h) (s _ _ hc) h2 h3
  | lop hw h hc h1 h2 h3 => exact .lop hw (s _ _ h) (s _ _ hc) h1 h2 h3
theorem Src.at {H : Hp} {s : Addr} {n : Nat} (h : Src H s n) : ∃ kvs, H s = some (.dK kvs) := by
  obtain ⟨l, c, t, e, _⟩ := h
  exact ⟨_, e⟩
theorem Src.mono {H : Hp} {s : Addr} {n m : Nat} (h : Src H s n) (hm : n ≤ m) : Src H s m := by
  obtain ⟨l, c, t, h1, h2, h3, h4⟩ := h
  exact ⟨l, c, t, h1, h2, h3, by omega⟩
theorem lab4 {n : Nat} (h : n < 4) : ∃ a : Str, ([V.str "a", .str "b", .str "", .str "key"] : List V)[n]? = some (.str a) ∧ PT.okText (.str a) = true ∧ a.length ≤ 1000 ∧ LabOk a := by
  match n, h with
  | 0, _ => exact ⟨"a", rfl, by decide +kernel, by decide +kernel, by decide +kernel, by decide +kernel⟩
  | 1, _ => exact ⟨"b", rfl, by decide +kernel, by decide +kernel, by decide +kernel, by decide +kernel⟩
  | 2, _ => exact ⟨"", rfl, by decide +kernel, by decide +kernel, by decide +kernel, by decide +kernel⟩
  | 3, _ => exact ⟨"key", rfl, by decide +kernel, by decide +kernel, by decide +kernel, by decide +kernel⟩
theorem code4 {n : Nat} (h : n < 4) : ∃ c : Nat, ([V.int 0, .int 1, .int 4294967295, .int 77] : List V)[n]? = some (V.int (c : Int)) ∧ c < 4294967296 := by
  match n, h with
  | 0, _ => exact ⟨0, rfl, by decide⟩
  | 1, _ => exact ⟨1, rfl, by decide⟩
  | 2, _ => exact ⟨4294967295, rfl, by decide⟩
  | 3, _ => exact ⟨77, rfl, by decide⟩
section
variable {P : Program} {w : World} {K : PySem.W.Frag} {mg : Str → Option Value} {base : Heap}
structure Kc (P : Program) (w : World) (K : PySem.W.Frag) (mg : Str → Option Value) (base : Heap) (name : Str) (C f : Addr) (fd : FuncData) (ps : List Str) (k : Nat) (sp : Sp) : Prop where
  M : Mk K C f
  g : mg name = some (.ref C)
  b : Binds K fd ps []
  G : FnOk P w K mg base (L2.CX P w) k f fd ps sp
abbrev NLK : List Str := ["state", "trace", "way", "label", "codes", "answers", "fails", "found", "j"]
theorem scLKey : FnScope NLK ["state", "trace"] (defScope sLKey) := ⟨rfl, rfl, rfl, by decide +kernel, rfl, by decide +kernel, by decide +kernel⟩
def spLKey (K : PySem.W.Frag) (C1 C2 C3 C4 CD CL : Addr) : Sp := fun vs H Q _ => ∃ (s : Addr) (n : Nat) (tr : Addr), vs = [.ref s, .ref tr] ∧ Src H s n ∧ n + 60 < 2 ^ 40 ∧
  ∀ (p r : Addr) (v : V) (k : Kn) H', H' p = some (.tup [v, .ref r]) → KnAt H' r k → k.Ok → KoAt C1 C2 C3 C4 CD CL tr H' v k 0 0 → (∀ q, v = .ref q → H q = none) → Src H' s (n + 60) → KeptS H H' s → Q (.ref p) H'
/-- the first lines: way, label, codes, answers, fails -/
theorem lkey_read {f f1 : Addr} {fd1 : FuncData} (B : Bl mg) (D1 : Df K mg "_law_digit" "_law_digit" sDigit ["state", "size"] f1 fd1) (G1 : FnOk P w K mg base CX0 2 f1 fd1 ["state", "size"] spDigit) {cdv : Value} {A : Around} {outer : List Env} {sh : Shared} {H9 : Hp} {E9 : L2.XK} {tl : TS}
    (hr : Room 9 (A.deeper (PyProof.Rows.envOfC "_law_key" (defScope sLKey) sh.heap.objs.size f cdv))) (hs : PSs (cxOf CX0 P w K mg base NLK "_law_key" (defScope sLKey) f cdv A outer sh H9 E9).nox ((defBody sLKey).drop 4) tl) :
    ∃ t, PSs (cxOf CX0 P w K mg base NLK "_law_key" (defScope sLKey) f cdv A outer sh H9 E9).nox (defBody sLKey) t ∧ ∀ (D : Ends) (s tr : Addr) (n : Nat) H, Src H s n → n + 60 < 2 ^ 40 →
      (∀ (way : Nat) (lab : Str) (codes : List Nat) (ans : List Bool) (f0 f1 : Nat) (cd an fl : Addr) H', way < 6 → PT.okText (.str lab) = true → lab.length ≤ 1000 → LabOk lab → codes ≠ [] → codes.length ≤ 3 → (∀ c ∈ codes, c < 4294967296) → ans ≠ [] → ans.length ≤ 3 → H' cd = some (.tup (codes.map fun c : Nat => V.int (c : Int))) → H' an = some (.tup (ans.map V.bl)) → H' fl = some (.tup [.int (f0 : Int), .int (f1 : Int)]) →
        Src H' s (n + 48) → KeptS H H' s → tl D [some (.ref s), some (.ref tr), some (.int (way : Int)), some (.str lab), some (.ref cd), some (.ref an), some (.ref fl), none, none] H') →
      t D [some (.ref s), some (.ref tr), none, none, none, none, none, none, none] H := by
  refine ⟨_, pss_cons (ps_par (i := 2) (j := 3) rfl scLKey.nd rfl rfl (by decide) rfl rfl (pa_cons (pe_call G1 (hr.mono (by decide)) rfl D1.g D1.F.kp D1.b .nil pass0 (pa_cons (pv 0) (pa_cons pe_int pa_nil))) (pa_cons (pe_ix ix_list (pe_lst (pa_cons pe_str (pa_cons pe_str (pa_cons pe_str (pa_cons pe_str pa_nil))))) (pe_call G1 (hr.mono (by decide)) rfl D1.g D1.F.kp D1.b .nil pass0 (pa_cons (pv 0) (pa_cons pe_int pa_nil))) (fun _ _ => rfl)) pa_nil)) (by rfl))
    (pss_cons (ps_set (i := 4) scLKey.nd rfl (Or.inl rfl) (pe_callTy call_tuple_of (by rfl) B.tuple (by decide +kernel) (pa_cons (pe_lc (own := [("j", 8)]) (g := gName 8) (tt := tYes) rfl scLKey.nd (pi_range1 rfl B.range (pa_cons (pe_op op_add pe_int (pe_call G1 (hr.mono (by decide)) rfl D1.g D1.F.kp D1.b .nil pass0 (pa_cons (pv 0) (pa_cons pe_int pa_nil)))) pa_nil)) (blkOk_by (own := [("j", 8)]) (N := NLK) (sc := defScope sLKey) (by decide +kernel)) (fun _ _ _ _ _ => pg_name (i := 8) scLKey.nd rfl (Or.inl rfl)) (fun _ _ _ _ _ => pts_nil)
        (fun _ _ _ _ _ => pe_ix (show IxR _ (rIxL K) from ix_list) (pe_lst (pa_cons pe_int (pa_cons pe_int (pa_cons pe_int (pa_cons pe_int pa_nil))))) (pe_call G1 (hr.mono (by decide)) rfl D1.g D1.F.kp D1.b .nil pass0 (pa_cons (pv 0) (pa_cons pe_int pa_nil))) (fun _ _ => rfl))) pa_nil)))
    (pss_cons (ps_set (i := 5) scLKey.nd rfl (Or.inl rfl) (pe_callTy call_tuple_of (by rfl) B.tuple (by decide +kernel) (pa_cons (pe_lc (own := [("j", 8)]) (g := gName 8) (tt := tYes) rfl scLKey.nd (pi_range1 rfl B.range (pa_cons (pe_op op_add pe_int (pe_call G1 (hr.mono (by decide)) rfl D1.g D1.F.kp D1.b .nil pass0 (pa_cons (pv 0) (pa_cons pe_int pa_nil)))) pa_nil)) (blkOk_by (own := [("j", 8)]) (N := NLK) (sc := defScope sLKey) (by decide +kernel)) (fun _ _ _ _ _ => pg_name (i := 8) scLKey.nd rfl (Or.inl rfl)) (fun _ _ _ _ _ => pts_nil)
        (fun _ _ _ _ _ => pe_cmpR op_eq (pe_call G1 (hr.mono (by decide)) rfl D1.g D1.F.kp D1.b .nil pass0 (pa_cons (pv 0) (pa_cons pe_int pa_nil))) pe_int (nomark _))) pa_nil)))
    (pss_cons (ps_set (i := 6) scLKey.nd rfl (Or.inl rfl) (pe_tup (pa_cons (pe_call G1 (hr.mono (by decide)) rfl D1.g D1.F.kp D1.b .nil pass0 (pa_cons (pv 0) (pa_cons pe_int pa_nil))) (pa_cons (pe_call G1 (hr.mono (by decide)) rfl D1.g D1.F.kp D1.b .nil pass0 (pa_cons (pv 0) (pa_cons pe_int pa_nil))) pa_nil)))) hs))), ?_⟩
  intro D s tr n H hs0 hn kk
  refine ⟨_, rfl, s, 6, n, rfl, hs0, by omega, by decide, by decide, fun way H1 hw s1 k1 => ⟨by show 4 ≤ sizeLine; decide, fun L hL => ?_⟩⟩
  have y1 := same_new (o := .lst [.str "a", .str "b", .str "", .str "key"]) hL
  have eL := upd_same (H := H1) (a := L) (o := .lst [.str "a", .str "b", .str "", .str "key"])
  have es1 := y1 _ _ s1.at.choose_spec
  refine ⟨_, rfl, s, 4, n + 4, rfl, s1.same y1, by omega, by decide, by decide, fun m H2 hm s2 k2 => ?_⟩
  obtain ⟨lab, el, g1, g2, g3⟩ := lab4 hm
  refine ⟨L, _, (m : Int), _, rfl, rfl, SqL.of (k2 _ _ eL (ne_of eL es1 (by intro z; cases z))), atI_nat el, _, _, rfl, ?_⟩
  have kk2 : KeptS H H2 s := k1.trans ((KeptS.of y1).trans k2)
  -- codes
  refine ⟨_, rfl, s, 3, n + 4 + 4, rfl, s2, by omega, by decide, by decide, fun c3 H3 hc3 s3 k3 => ?_⟩
  refine ⟨_, _, rfl, rfl, _, rfl, by omega, by omega, fun D1 hD1 => ?_⟩
  have es1 := s3.at.choose_spec
  have nD1 : D1 ≠ s := (ne_of_none es1 hD1).symm
  refine lc_range (lo := 0) (fun i H' => ∃ cs : List Nat, cs.length = i ∧ H' D1 = some (.lst (cs.map fun c : Nat => V.int (c : Int))) ∧ (∀ c ∈ cs, c < 4294967296) ∧ Src H' s (n + 4 + 4 + 4 + i * 4) ∧ KeptS H3 H' s) ?_ ?_ ?_
  · have y := same_new (o := .lst []) hD1
    exact ⟨[], rfl, upd_same, (fun c z => nomatch z), (s3.same y).mono (by omega), KeptS.of y⟩
  · rintro i Hi hi ⟨cs, hl, eD, hcs, si, ki⟩
    have hi : i < 3 := by omega
    refine ⟨rfl, ?_⟩
    refine ⟨by show 4 ≤ sizeLine; decide, fun Le hLe => ?_⟩
    have ye := same_new (o := .lst [.int 0, .int 1, .int 4294967295, .int 77]) hLe
    have ee := upd_same (H := Hi) (a := Le) (o := .lst [.int 0, .int 1, .int 4294967295, .int 77])
    have esi := ye _ _ si.at.choose_spec
    refine ⟨_, rfl, s, 4, n + 4 + 4 + 4 + i * 4, rfl, si.same ye, by omega, by decide, by decide, fun m Hj hm sj kj => ?_⟩
    obtain ⟨c, ec, hc⟩ := code4 hm
    have eD4 := kj _ _ (ye _ _ eD) nD1
    refine ⟨Le, _, (m : Int), _, rfl, rfl, SqL.of (kj _ _ ee (ne_of ee esi (by intro z; cases z))), atI_nat ec, ?_⟩
    refine ⟨_, eD4, by rw [List.length_map, hl]; exact Nat.lt_of_lt_of_le (show i < 100 by omega) (by decide), cs ++ [c], by rw [List.length_append, hl]; rfl, ?_, ?_, ?_, ?_⟩
    · rw [upd_same, List.map_append]
      rfl
    · intro c' hc'
      rcases List.mem_append.mp hc' with z | z
      · exact hcs c' z
      · rw [List.mem_singleton.mp z]
        exact hc
    · obtain ⟨l0, c0, t0, e0, r⟩ := sj
      refine Src.mono (n := n + 4 + 4 + 4 + i * 4 + 4) ⟨l0, c0, t0, by rw [upd_ne nD1.symm]; exact e0, r⟩ ?_
      rw [Nat.add_mul]
      omega
    · intro b o e hb
      rw [upd_ne (ne_of_none e hD1)]
      exact (ki.trans ((KeptS.of ye).trans kj)) b o e hb
  rintro Hc ⟨cs, hl1, eD1, hcs, sc, kc⟩
  have hl1' : cs.length = c3 + 1 := by omega
  refine ⟨D1, _, rfl, .inl ⟨SqL.of eD1, fun cd hcd => ?_⟩⟩
  have ycd := same_new (o := .tup (cs.map fun c : Nat => V.int (c : Int))) hcd
  have ecd := upd_same (H := Hc) (a := cd) (o := .tup (cs.map fun c : Nat => V.int (c : Int)))
  have s4 : Src (upd Hc cd (.tup (cs.map fun c : Nat => V.int (c : Int)))) s (n + 24) := (sc.same ycd).mono (by
    have : (1 + (c3 : Int)).toNat = c3 + 1 := by omega
    omega)
  have kk4 := kk2.trans (k3.trans (kc.trans (KeptS.of ycd)))
  generalize upd Hc cd (.tup (cs.map fun c : Nat => V.int (c : Int))) = H4 at ecd s4 kk4 ⊢
  refine ⟨_, rfl, s, 3, n + 24, rfl, s4, by omega, by decide, by decide, fun a3 H5 ha3 s5 k5 => ?_⟩
  have ecd5 := k5 _ _ ecd (ne_of ecd s4.at.choose_spec (by intro z; cases z))
  refine ⟨_, _, rfl, rfl, _, rfl, by omega, by omega, fun D2 hD2 => ?_⟩
  have es2 := s5.at.choose_spec
  have nD2 : D2 ≠ s := (ne_of_none es2 hD2).symm
  refine lc_range (lo := 0) (fun i H' => ∃ cs : List Bool, cs.length = i ∧ H' D2 = some (.lst (cs.map V.bl)) ∧ (∀ c ∈ cs, True) ∧ Src H' s (n + 28 + i * 4) ∧ KeptS H5 H' s) ?_ ?_ ?_
  · have y := same_new (o := .lst []) hD2
    exact ⟨[], rfl, upd_same, (fun c z => nomatch z), (s5.same y).mono (by omega), KeptS.of y⟩
  · rintro i Hi hi ⟨cs, hl, eD, hcs, si, ki⟩
    have hi : i < 3 := by omega
    refine ⟨rfl, ?_⟩
    refine ⟨_, rfl, s, 2, n + 28 + i * 4, rfl, si, by omega, by decide, by decide, fun m Hj hm sj kj => ?_⟩
    have eD4 := kj _ _ eD nD2
    refine ⟨rfl, _, eD4, by rw [List.length_map, hl]; exact Nat.lt_of_lt_of_le (show i < 100 by omega) (by decide), cs ++ [decide (V.int (m : Int) = V.int 0)], by rw [List.length_append, hl]; rfl, ?_, (fun _ _ => trivial), ?_, ?_⟩
    · rw [upd_same, List.map_append]
      rfl
    · obtain ⟨l0, c0, t0, e0, r⟩ := sj
      refine Src.mono (n := n + 28 + i * 4 + 4) ⟨l0, c0, t0, by rw [upd_ne nD2.symm]; exact e0, r⟩ ?_
      rw [Nat.add_mul]
      omega
    · intro b o e hb
      rw [upd_ne (ne_of_none e hD2)]
      exact (ki.trans kj) b o e hb
  rintro Hd ⟨as, hl2, eD2, _, sd, kd⟩
  have hl2' : as.length = a3 + 1 := by omega
  refine ⟨D2, _, rfl, .inl ⟨SqL.of eD2, fun an han => ?_⟩⟩
  have yan := same_new (o := .tup (as.map V.bl)) han
  have ean := upd_same (H := Hd) (a := an) (o := .tup (as.map V.bl))
  have s6 : Src (upd Hd an (.tup (as.map V.bl))) s (n + 40) := (sd.same yan).mono (by
    have : (1 + (a3 : Int)).toNat = a3 + 1 := by omega
    omega)
  have kk6 := kk4.trans (k5.trans (kd.trans (KeptS.of yan)))
  have ecd6 := yan _ _ (kd _ _ ecd5 (ne_of ecd5 s5.at.choose_spec (by intro z; cases z)))
  generalize upd Hd an (.tup (as.map V.bl)) = H6 at ean s6 kk6 ecd6 ⊢
  refine ⟨_, rfl, s, 4, n + 40, rfl, s6, by omega, by decide, by decide, fun f0 H7 hf0 s7 k7 => ⟨_, rfl, s, 4, n + 40 + 4, rfl, s7, by omega, by decide, by decide, fun f1 H8 hf1 s8 k8 => ⟨by show 2 ≤ sizeLine; decide, fun fl hfl => ?_⟩⟩⟩
  have yfl := same_new (o := .tup [.int (f0 : Int), .int (f1 : Int)]) hfl
  have es6 := s6.at.choose_spec
  have es7 := s7.at.choose_spec
  have up : ∀ {a : Addr} {xs : List V}, H6 a = some (.tup xs) → H8 a = some (.tup xs) := fun e => by
    have e7 := k7 _ _ e (ne_of e es6 (by intro z; cases z))
    exact k8 _ _ e7 (ne_of e7 es7 (by intro z; cases z))
  exact kk way lab cs as f0 f1 cd an fl _ hw g1 g2 g3 (fun z => by rw [z] at hl1'; cases hl1') (by omega) hcs (fun z => by rw [z] at hl2'; cases hl2') (by omega) (yfl _ _ (up ecd6)) (yfl _ _ (up ean)) upd_same (s8.same yfl) (kk6.trans (k7.trans (k8.trans (KeptS.of yfl))))
end
end K02
set_option Elab.async false
set_option linter.all false
set_option maxRecDepth 100000
set_option maxHeartbeats 4000000
namespace K02
open PySem L2 Xo Lm LamX
section
variable {P : Program} {w : World} {K : PySem.W.Frag} {mg : Str → Option Value} {base : Heap}
theorem two_new {H : Hp} {x dx : Addr} {o1 o2 : HO} (hx : H x = none) (hdx : H dx = none) : Same H (upd (upd H dx o1) x o2) := Cm.same_upd (same_new hdx) hx
theorem none_kept {H Hx : Hp} {s x : Addr} {m : Nat} (k : KeptS H Hx s) (h : Src Hx s m) (hx : Hx x = none) : H x = none := by
  cases z : H x with
  | none => rfl
  | some o =>
    by_cases e : x = s
    · subst e
      obtain ⟨kvs, e0⟩ := h.at
      rw [e0] at hx
      cases hx
    · rw [k _ _ z e] at hx
      cases hx
theorem rts_ints {H : Hp} : ∀ cs : List Nat, RTs K H (cs.map fun c : Nat => V.int (c : Int)) (cs.map fun c : Nat => PT.int (c : Int))
  | [] => .nil
  | c :: cs => .cons (.int _) (rts_ints cs)
theorem rts_bools {H : Hp} : ∀ bs : List Bool, RTs K H (bs.map V.bl) (bs.map PT.bl)
  | [] => .nil
  | b :: bs => .cons (.bl _) (rts_bools bs)
theorem cut_whole {c0 : Nat} {rest : List Nat} (w : HT.sIx ((c0 :: rest).map fun c : Nat => V.int (c : Int)).length 0 none = 0 ∧ HT.sIx ((c0 :: rest).map fun c : Nat => V.int (c : Int)).length ((c0 :: rest).map fun c : Nat => V.int (c : Int)).length (some 1) = ((c0 :: rest).map fun c : Nat => V.int (c : Int)).length) : rest = [] := by
  have w2 := w.2
  have h1 : ∀ n : Nat, HT.sIx n n (some 1) = min 1 n := fun n => HT.sIx_nat n n 1
  rw [h1, List.length_map, List.length_cons] at w2
  exact List.eq_nil_of_length_eq_zero (by omega)
theorem cut_one {c0 : Nat} {rest : List Nat} : cutV ((c0 :: rest).map fun c : Nat => V.int (c : Int)) none (some 1) = [V.int (c0 : Int)] := by
  have h1 : ∀ n : Nat, HT.sIx n n (some 1) = min 1 n := fun n => HT.sIx_nat n n 1
  unfold cutV
  rw [h1, List.length_map, List.length_cons, HT.sIx_none, show min 1 (rest.length + 1) - 0 = 1 by omega]
  rfl
theorem lkey_ways {f CK CC C1 C2 C3 C4 CD CL a1 a2 a3 a4 aD aL : Addr} {e1 e2 e3 e4 eD eL : FuncData} (X1 : Kc P w K mg base "Key" C1 a1 e1 ["self", "label", "code"] 5 (spKI K C1 CK CC 0 fKey)) (X2 : Kc P w K mg base "TracedKey" C2 a2 e2 ["self", "label", "code", "trace"] 6 (spKI K C2 CK CC 1 (fTr fKey [])))
    (M3 : Mk K C3 a3) (g3 : mg "FailingKey" = some (.ref C3)) (b3 : KBn K e3 ["self", "label", "code", "code_at", "match_at"] 3 ["code_at", "match_at"] (fun us ws => us ++ ws) (fun vs zs => vs ++ zs)) (G3 : FnOk P w K mg base (L2.CX P w) 6 a3 e3 ["self", "label", "code", "code_at", "match_at"] (spKI K C3 CK CC 2 fFail))
    (M4 : Mk K C4 a4) (g4 : mg "TracedFailingKey" = some (.ref C4)) (b4 : KBn K e4 ["self", "label", "code", "trace", "code_at", "match_at"] 4 ["code_at", "match_at"] (fun us ws => us ++ ws) (fun vs zs => vs ++ zs)) (G4 : FnOk P w K mg base (L2.CX P w) 8 a4 e4 ["self", "label", "code", "trace", "code_at", "match_at"] (spKI K C4 CK CC 3 fTF))
    (XD : Kc P w K mg base "DriftingKey" CD aD eD ["self", "label", "codes"] 6 (spDI K CD CK CC)) (XL : Kc P w K mg base "LopsidedKey" CL aL eL ["self", "label", "code", "answers"] 6 (spLI K CL CK CC))
    {cdv : Value} {A : Around} {outer : List Env} {sh : Shared} {H9 : Hp} {E9 : L2.XK} (hr : Room 9 (A.deeper (PyProof.Rows.envOfC "_law_key" (defScope sLKey) sh.heap.objs.size f cdv))) :
    ∃ t, PSs (cxOf CX0 P w K mg base NLK "_law_key" (defScope sLKey) f cdv A outer sh H9 E9).nox ((defBody sLKey).drop 4) t ∧ ∀ (D : Ends) (s tr : Addr) (way : Nat) (lab : Str) (codes : List Nat) (ans : List Bool) (f0 f1 : Nat) (cd an fl : Addr) H, way < 6 → PT.okText (.str lab) = true → lab.length ≤ 1000 → LabOk lab → codes ≠ [] → (∀ c ∈ codes, c < 4294967296) → codes.length ≤ 3 → ans ≠ [] → ans.length ≤ 3 → H cd = some (.tup (codes.map fun c : Nat => V.int (c : Int))) → H an = some (.tup (ans.map V.bl)) → H fl = some (.tup [.int (f0 : Int), .int (f1 : Int)]) →
      (∀ (p r : Addr) (v : V) (k : Kn) H', Same H H' → H' p = some (.tup [v, .ref r]) → KnAt H' r k → k.Ok → KoAt C1 C2 C3 C4 CD CL tr H' v k 0 0 → (∀ q, v = .ref q → H q = none) → D.rt (.ref p) H') →
      t D [some (.ref s), some (.ref tr), some (.int (way : Int)), some (.str lab), some (.ref cd), some (.ref an), some (.ref fl), none, none] H := by
  refine ⟨_, pss_cons (ps_if (pt_cmpR op_eq (pv 2) pe_int (nomark _)) (pss_one (ps_ret (pe_tup (pa_cons (pe_make (E := fun _ _ _ => False) X1.M X1.G (hr.mono (by decide)) rfl X1.g X1.b .nil passF (pa_cons (pv 3) (pa_cons (pe_ix ix_tup (pv 4) pe_int (fun _ _ => rfl)) pa_nil))) (pa_cons (pe_lst (pa_cons (pv 2) (pa_cons (pv 3) (pa_cons (pe_slice sl_tupA (pv 4) po_none (po_some pe_int)) (pa_cons (pe_tup pa_nil) (pa_cons (pe_tup (pa_cons pe_int (pa_cons pe_int pa_nil))) pa_nil)))))) pa_nil))))) pss_nil)
    (pss_cons (ps_if (pt_cmpR op_eq (pv 2) pe_int (nomark _)) (pss_one (ps_ret (pe_tup (pa_cons (pe_make (E := fun _ _ _ => False) X2.M X2.G (hr.mono (by decide)) rfl X2.g X2.b .nil passF (pa_cons (pv 3) (pa_cons (pe_ix ix_tup (pv 4) pe_int (fun _ _ => rfl)) (pa_cons (pv 1) pa_nil)))) (pa_cons (pe_lst (pa_cons (pv 2) (pa_cons (pv 3) (pa_cons (pe_slice sl_tupA (pv 4) po_none (po_some pe_int)) (pa_cons (pe_tup pa_nil) (pa_cons (pe_tup (pa_cons pe_int (pa_cons pe_int pa_nil))) pa_nil)))))) pa_nil))))) pss_nil)
    (pss_cons (ps_if (pt_cmpR op_eq (pv 2) pe_int (nomark _)) (pss_one (ps_ret (pe_tup (pa_cons (pe_makeN (n := 2) (E := fun _ _ _ => False) (sp := spKI K C3 CK CC 2 fFail) (gV := fun vs zs => vs ++ zs) M3 G3 (hr.mono (by decide)) rfl g3 b3 passF (pa_cons (pv 3) (pa_cons (pe_ix ix_tup (pv 4) pe_int (fun _ _ => rfl)) pa_nil)) (pk_cons (pe_ix ix_tup (pv 6) pe_int (fun _ _ => rfl)) (pk_cons (pe_ix ix_tup (pv 6) pe_int (fun _ _ => rfl)) pk_nil))) (pa_cons (pe_lst (pa_cons (pv 2) (pa_cons (pv 3) (pa_cons (pe_slice sl_tupA (pv 4) po_none (po_some pe_int)) (pa_cons (pe_tup pa_nil) (pa_cons (pv 6) pa_nil)))))) pa_nil))))) pss_nil)
    (pss_cons (ps_if (pt_cmpR op_eq (pv 2) pe_int (nomark _)) (pss_cons (ps_set (i := 7) scLKey.nd rfl (Or.inl rfl) (pe_makeN (n := 3) (E := fun _ _ _ => False) (sp := spKI K C4 CK CC 3 fTF) (gV := fun vs zs => vs ++ zs) M4 G4 (hr.mono (by decide)) rfl g4 b4 passF (pa_cons (pv 3) (pa_cons (pe_ix ix_tup (pv 4) pe_int (fun _ _ => rfl)) (pa_cons (pv 1) pa_nil))) (pk_cons (pe_ix ix_tup (pv 6) pe_int (fun _ _ => rfl)) (pk_cons (pe_ix ix_tup (pv 6) pe_int (fun _ _ => rfl)) pk_nil))))
        (pss_one (ps_ret (pe_tup (pa_cons (pv 7) (pa_cons (pe_lst (pa_cons (pv 2) (pa_cons (pv 3) (pa_cons (pe_slice sl_tupA (pv 4) po_none (po_some pe_int)) (pa_cons (pe_tup pa_nil) (pa_cons (pv 6) pa_nil)))))) pa_nil)))))) pss_nil)
    (pss_cons (ps_if (pt_cmpR op_eq (pv 2) pe_int (nomark _)) (pss_one (ps_ret (pe_tup (pa_cons (pe_make (E := fun _ _ _ => False) XD.M XD.G (hr.mono (by decide)) rfl XD.g XD.b .nil passF (pa_cons (pv 3) (pa_cons (pv 4) pa_nil))) (pa_cons (pe_lst (pa_cons (pv 2) (pa_cons (pv 3) (pa_cons (pv 4) (pa_cons (pe_tup pa_nil) (pa_cons (pe_tup (pa_cons pe_int (pa_cons pe_int pa_nil))) pa_nil)))))) pa_nil))))) pss_nil)
    (pss_one (ps_ret (pe_tup (pa_cons (pe_make (E := fun _ _ _ => False) XL.M XL.G (hr.mono (by decide)) rfl XL.g XL.b .nil passF (pa_cons (pv 3) (pa_cons (pe_ix ix_tup (pv 4) pe_int (fun _ _ => rfl)) (pa_cons (pv 5) pa_nil)))) (pa_cons (pe_lst (pa_cons (pv 2) (pa_cons (pv 3) (pa_cons (pe_slice sl_tupA (pv 4) po_none (po_some pe_int)) (pa_cons (pv 5) (pa_cons (pe_tup (pa_cons pe_int (pa_cons pe_int pa_nil))) pa_nil)))))) pa_nil))))))))), ?_⟩
  intro D s tr way lab codes ans f0 f1 cd an fl H hw hok hl hst hc0 hcs hc3 ha0 ha3 ecd ean efl kk
  obtain ⟨c0, rest, rfl⟩ : ∃ c0 rest, codes = c0 :: rest := by
    cases codes with
    | nil => exact absurd rfl hc0
    | cons a b => exact ⟨a, b, rfl⟩
  have hc1 : ∀ c ∈ [c0], c < 4294967296 := fun c hc => hcs c (by rw [List.mem_singleton.mp hc]; exact List.mem_cons_self ..)
  have hcd : PT.isCode (.int (c0 : Int)) = true := code_nat (hcs c0 (List.mem_cons_self ..))
  have badT : ∀ {X : Prop}, PT.okText (.str lab) = false → X := fun z => by rw [hok] at z; cases z
  have badC : ∀ {X : Prop}, PT.isCode (.int (c0 : Int)) = false → X := fun z => by rw [hcd] at z; cases z
  have wy : ∀ {i : Nat}, decide (V.int (way : Int) = V.int (i : Int)) = true → way = i := fun e => by
    have := V.int.inj (of_decide_eq_true e)
    omega
  refine ⟨_, rfl, rfl, _, rfl, ite2 (fun e => ?_) (fun ne0 => ?_)⟩
  · have hway := wy (i := 0) e
    subst hway
    refine ⟨_, rfl, _, rfl, cd, _, (0 : Int), _, rfl, rfl, SqT.of ecd, atI_nat (j := 0) rfl, fun x dx hx hdx hne => ⟨H, x, dx, .str lab, .int (c0 : Int), .str lab, .int (c0 : Int), [], rfl, rfl, two_new hx hdx, hx, upd_same, .str _ hl, .int _, fun _ _ H1 sm hp => ⟨rfl, _, rfl, _, rfl, _, rfl, _, rfl, cd, _, rfl, SqT.of (sm _ _ ecd), ?_⟩, (fun z => badT z), (fun _ z => badC z)⟩⟩
    have run : ∀ (q : Addr) (H2 : Hp), Same H1 H2 → H2 q = some (.tup [.int (c0 : Int)]) → ∀ te tf r p, H2 te = none → (upd H2 te (.tup [])) tf = none → (upd (upd H2 te (.tup [])) tf (.tup [.int 0, .int 0])) r = none → (upd (upd (upd H2 te (.tup [])) tf (.tup [.int 0, .int 0])) r (.lst [.int ((0 : Nat) : Int), .str lab, .ref q, .ref te, .ref tf])) p = none →
        D.rt (.ref p) (upd (upd (upd (upd H2 te (.tup [])) tf (.tup [.int 0, .int 0])) r (.lst [.int ((0 : Nat) : Int), .str lab, .ref q, .ref te, .ref tf])) p (.tup [.ref x, .ref r])) := fun q H2 s2 eq te tf r p hte htf hr hp2 => by
      have y1 := same_new (o := .tup []) hte
      have y2 := same_new (o := .tup [.int 0, .int 0]) htf
      have y3 := same_new (o := .lst [.int ((0 : Nat) : Int), .str lab, .ref q, .ref te, .ref tf]) hr
      have y4 := same_new (o := .tup [.ref x, .ref r]) hp2
      have up := s2.trans (y1.trans (y2.trans (y3.trans y4)))
      exact kk p r (.ref x) ⟨0, lab, [c0], [], 0, 0⟩ _ (sm.trans up) upd_same ⟨q, te, tf, y4 _ _ upd_same, y4 _ _ (y3 _ _ (y2 _ _ (y1 _ _ eq))), y4 _ _ (y3 _ _ (y2 _ _ upd_same)), y4 _ _ (y3 _ _ upd_same)⟩ ⟨(fun z => nomatch z), hst, hc1⟩ (.key rfl (up _ _ hp) rfl rfl ⟨rfl, rfl⟩) (fun q e => by cases e; exact hx)
    refine ⟨fun w => ?_, fun nw q0 hq0 => ?_⟩
    · have er := cut_whole w
      subst er
      exact ⟨by show 0 ≤ sizeLine; decide, fun te hte => ⟨by show 2 ≤ sizeLine; decide, fun tf htf => ⟨by show 5 ≤ sizeLine; decide, fun r hr => ⟨by show 2 ≤ sizeLine; decide, fun p hp2 => run cd H1 (fun _ _ z => z) (sm _ _ ecd) te tf r p hte htf hr hp2⟩⟩⟩⟩
    · rw [cut_one]
      exact ⟨by show 0 ≤ sizeLine; decide, fun te hte => ⟨by show 2 ≤ sizeLine; decide, fun tf htf => ⟨by show 5 ≤ sizeLine; decide, fun r hr => ⟨by show 2 ≤ sizeLine; decide, fun p hp2 => run q0 _ (same_new hq0) upd_same te tf r p hte htf hr hp2⟩⟩⟩⟩
  refine ⟨_, rfl, rfl, _, rfl, ite2 (fun e => ?_) (fun ne1 => ?_)⟩
  · have hway := wy (i := 1) e
    subst hway
    refine ⟨_, rfl, _, rfl, cd, _, (0 : Int), _, rfl, rfl, SqT.of ecd, atI_nat (j := 0) rfl, _, rfl, fun x dx hx hdx hne => ⟨H, x, dx, .str lab, .int (c0 : Int), .str lab, .int (c0 : Int), [.ref tr], rfl, rfl, two_new hx hdx, hx, upd_same, .str _ hl, .int _, fun _ _ H1 sm hp => ⟨rfl, _, rfl, _, rfl, _, rfl, _, rfl, cd, _, rfl, SqT.of (sm _ _ ecd), ?_⟩, (fun z => badT z), (fun _ z => badC z)⟩⟩
    have run : ∀ (q : Addr) (H2 : Hp), Same H1 H2 → H2 q = some (.tup [.int (c0 : Int)]) → ∀ te tf r p, H2 te = none → (upd H2 te (.tup [])) tf = none → (upd (upd H2 te (.tup [])) tf (.tup [.int 0, .int 0])) r = none → (upd (upd (upd H2 te (.tup [])) tf (.tup [.int 0, .int 0])) r (.lst [.int ((1 : Nat) : Int), .str lab, .ref q, .ref te, .ref tf])) p = none →
        D.rt (.ref p) (upd (upd (upd (upd H2 te (.tup [])) tf (.tup [.int 0, .int 0])) r (.lst [.int ((1 : Nat) : Int), .str lab, .ref q, .ref te, .ref tf])) p (.tup [.ref x, .ref r])) := fun q H2 s2 eq te tf r p hte htf hr hp2 => by
      have y1 := same_new (o := .tup []) hte
      have y2 := same_new (o := .tup [.int 0, .int 0]) htf
      have y3 := same_new (o := .lst [.int ((1 : Nat) : Int), .str lab, .ref q, .ref te, .ref tf]) hr
      have y4 := same_new (o := .tup [.ref x, .ref r]) hp2
      have up := s2.trans (y1.trans (y2.trans (y3.trans y4)))
      exact kk p r (.ref x) ⟨1, lab, [c0], [], 0, 0⟩ _ (sm.trans up) upd_same ⟨q, te, tf, y4 _ _ upd_same, y4 _ _ (y3 _ _ (y2 _ _ (y1 _ _ eq))), y4 _ _ (y3 _ _ (y2 _ _ upd_same)), y4 _ _ (y3 _ _ upd_same)⟩ ⟨(fun z => nomatch z), hst, hc1⟩ (.tr rfl (up _ _ hp) rfl rfl ⟨rfl, rfl⟩) (fun q e => by cases e; exact hx)
    refine ⟨fun w => ?_, fun nw q0 hq0 => ?_⟩
    · have er := cut_whole w
      subst er
      exact ⟨by show 0 ≤ sizeLine; decide, fun te hte => ⟨by show 2 ≤ sizeLine; decide, fun tf htf => ⟨by show 5 ≤ sizeLine; decide, fun r hr => ⟨by show 2 ≤ sizeLine; decide, fun p hp2 => run cd H1 (fun _ _ z => z) (sm _ _ ecd) te tf r p hte htf hr hp2⟩⟩⟩⟩
    · rw [cut_one]
      exact ⟨by show 0 ≤ sizeLine; decide, fun te hte => ⟨by show 2 ≤ sizeLine; decide, fun tf htf => ⟨by show 5 ≤ sizeLine; decide, fun r hr => ⟨by show 2 ≤ sizeLine; decide, fun p hp2 => run q0 _ (same_new hq0) upd_same te tf r p hte htf hr hp2⟩⟩⟩⟩
  refine ⟨_, rfl, rfl, _, rfl, ite2 (fun e => ?_) (fun ne2 => ?_)⟩
  · have hway := wy (i := 2) e
    subst hway
    refine ⟨_, rfl, _, rfl, cd, _, (0 : Int), _, rfl, rfl, SqT.of ecd, atI_nat (j := 0) rfl, _, rfl, fl, _, (0 : Int), _, rfl, rfl, SqT.of efl, atI_nat (j := 0) rfl, _, rfl, fl, _, (1 : Int), _, rfl, rfl, SqT.of efl, atI_nat (j := 1) rfl, rfl, rfl, fun x dx hx hdx hne => ⟨H, x, dx, .str lab, .int (c0 : Int), .str lab, .int (c0 : Int), [.int (f0 : Int), .int (f1 : Int)], rfl, rfl, two_new hx hdx, hx, upd_same, .str _ hl, .int _, fun _ _ H1 sm hp => ⟨rfl, _, rfl, _, rfl, _, rfl, _, rfl, cd, _, rfl, SqT.of (sm _ _ ecd), ?_⟩, (fun z => badT z), (fun _ z => badC z)⟩⟩
    have run : ∀ (q : Addr) (H2 : Hp), Same H1 H2 → H2 q = some (.tup [.int (c0 : Int)]) → ∀ te r p, H2 te = none → (upd H2 te (.tup [])) r = none → (upd (upd H2 te (.tup [])) r (.lst [.int ((2 : Nat) : Int), .str lab, .ref q, .ref te, .ref fl])) p = none →
        D.rt (.ref p) (upd (upd (upd H2 te (.tup [])) r (.lst [.int ((2 : Nat) : Int), .str lab, .ref q, .ref te, .ref fl])) p (.tup [.ref x, .ref r])) := fun q H2 s2 eq te r p hte hr hp2 => by
      have y1 := same_new (o := .tup []) hte
      have y3 := same_new (o := (.lst [.int ((2 : Nat) : Int), .str lab, .ref q, .ref te, .ref fl])) hr
      have y4 := same_new (o := .tup [.ref x, .ref r]) hp2
      have up := s2.trans (y1.trans (y3.trans y4))
      exact kk p r (.ref x) ⟨2, lab, [c0], [], f0, f1⟩ _ (sm.trans up) upd_same ⟨q, te, fl, y4 _ _ upd_same, y4 _ _ (y3 _ _ (y1 _ _ eq)), y4 _ _ (y3 _ _ upd_same), up _ _ (sm _ _ efl)⟩ ⟨(fun z => nomatch z), hst, hc1⟩ (.fail rfl (up _ _ hp) rfl rfl) (fun q e => by cases e; exact hx)
    refine ⟨fun w => ?_, fun nw q0 hq0 => ?_⟩
    · have er := cut_whole w
      subst er
      exact ⟨by show 0 ≤ sizeLine; decide, fun te hte => ⟨_, rfl, by show 5 ≤ sizeLine; decide, fun r hr => ⟨by show 2 ≤ sizeLine; decide, fun p hp2 => run cd H1 (fun _ _ z => z) (sm _ _ ecd) te r p hte hr hp2⟩⟩⟩
    · rw [cut_one]
      exact ⟨by show 0 ≤ sizeLine; decide, fun te hte => ⟨_, rfl, by show 5 ≤ sizeLine; decide, fun r hr => ⟨by show 2 ≤ sizeLine; decide, fun p hp2 => run q0 _ (same_new hq0) upd_same te r p hte hr hp2⟩⟩⟩
  refine ⟨_, rfl, rfl, _, rfl, ite2 (fun e => ?_) (fun ne3 => ?_)⟩
  · have hway := wy (i := 3) e
    subst hway
    refine ⟨_, rfl, _, rfl, cd, _, (0 : Int), _, rfl, rfl, SqT.of ecd, atI_nat (j := 0) rfl, _, rfl, _, rfl, fl, _, (0 : Int), _, rfl, rfl, SqT.of efl, atI_nat (j := 0) rfl, _, rfl, fl, _, (1 : Int), _, rfl, rfl, SqT.of efl, atI_nat (j := 1) rfl, rfl, rfl, fun x dx hx hdx hne => ⟨H, x, dx, .str lab, .int (c0 : Int), .str lab, .int (c0 : Int), [.ref tr, .int (f0 : Int), .int (f1 : Int)], rfl, rfl, two_new hx hdx, hx, upd_same, .str _ hl, .int _, fun _ _ H1 sm hp => ⟨rfl, _, rfl, _, rfl, _, rfl, _, rfl, _, rfl, cd, _, rfl, SqT.of (sm _ _ ecd), ?_⟩, (fun z => badT z), (fun _ z => badC z)⟩⟩
    have run : ∀ (q : Addr) (H2 : Hp), Same H1 H2 → H2 q = some (.tup [.int (c0 : Int)]) → ∀ te r p, H2 te = none → (upd H2 te (.tup [])) r = none → (upd (upd H2 te (.tup [])) r (.lst [.int ((3 : Nat) : Int), .str lab, .ref q, .ref te, .ref fl])) p = none →
        D.rt (.ref p) (upd (upd (upd H2 te (.tup [])) r (.lst [.int ((3 : Nat) : Int), .str lab, .ref q, .ref te, .ref fl])) p (.tup [.ref x, .ref r])) := fun q H2 s2 eq te r p hte hr hp2 => by
      have y1 := same_new (o := .tup []) hte
      have y3 := same_new (o := (.lst [.int ((3 : Nat) : Int), .str lab, .ref q, .ref te, .ref fl])) hr
      have y4 := same_new (o := .tup [.ref x, .ref r]) hp2
      have up := s2.trans (y1.trans (y3.trans y4))
      exact kk p r (.ref x) ⟨3, lab, [c0], [], f0, f1⟩ _ (sm.trans up) upd_same ⟨q, te, fl, y4 _ _ upd_same, y4 _ _ (y3 _ _ (y1 _ _ eq)), y4 _ _ (y3 _ _ upd_same), up _ _ (sm _ _ efl)⟩ ⟨(fun z => nomatch z), hst, hc1⟩ (.tf rfl (up _ _ hp) rfl rfl) (fun q e => by cases e; exact hx)
    refine ⟨fun w => ?_, fun nw q0 hq0 => ?_⟩
    · have er := cut_whole w
      subst er
      exact ⟨by show 0 ≤ sizeLine; decide, fun te hte => ⟨_, rfl, by show 5 ≤ sizeLine; decide, fun r hr => ⟨by show 2 ≤ sizeLine; decide, fun p hp2 => run cd H1 (fun _ _ z => z) (sm _ _ ecd) te r p hte hr hp2⟩⟩⟩
    · rw [cut_one]
      exact ⟨by show 0 ≤ sizeLine; decide, fun te hte => ⟨_, rfl, by show 5 ≤ sizeLine; decide, fun r hr => ⟨by show 2 ≤ sizeLine; decide, fun p hp2 => run q0 _ (same_new hq0) upd_same te r p hte hr hp2⟩⟩⟩
  refine ⟨_, rfl, rfl, _, rfl, ite2 (fun e => ?_) (fun ne4 => ?_)⟩
  · have hway := wy (i := 4) e
    subst hway
    have rcd := rts_ints (K := K) (H := H) (c0 :: rest)
    have lcd : ((c0 :: rest).map fun c : Nat => V.int (c : Int)).length ≤ 1000 := by rw [List.length_map]; omega
    have okc : PT.codesOk (.tup ((c0 :: rest).map fun c : Nat => PT.int (c : Int))) = true := List.all_eq_true.mpr fun t ht => by
      have ht : t ∈ (c0 :: rest).map (fun c : Nat => PT.int (c : Int)) := ht
      obtain ⟨c, hc, rfl⟩ := List.mem_map.mp ht
      exact code_nat (hcs c hc)
    refine ⟨_, rfl, _, rfl, fun x dx hx hdx hne => ⟨H, x, dx, .str lab, .ref cd, .str lab, .tup ((c0 :: rest).map fun c : Nat => PT.int (c : Int)), rfl, two_new hx hdx, hx, upd_same, .str _ hl, .tup ecd rcd lcd, fun _ _ H1 a' c0' r' _ _ sm hp => ⟨rfl, _, rfl, _, rfl, _, rfl, by show 0 ≤ sizeLine; decide, fun te hte => ⟨by show 2 ≤ sizeLine; decide, fun tf htf => ⟨by show 5 ≤ sizeLine; decide, fun r hr => ⟨by show 2 ≤ sizeLine; decide, fun p hp2 => ?_⟩⟩⟩⟩, (fun z => badT z), (fun _ z => by rw [okc] at z; cases z)⟩⟩
    have y1 := same_new (o := .tup []) hte
    have y2 := same_new (o := .tup [.int 0, .int 0]) htf
    have y3 := same_new (o := .lst [.int ((4 : Nat) : Int), .str lab, .ref cd, .ref te, .ref tf]) hr
    have y4 := same_new (o := .tup [.ref x, .ref r]) hp2
    have up := y1.trans (y2.trans (y3.trans y4))
    exact kk p r (.ref x) ⟨4, lab, c0 :: rest, [], 0, 0⟩ _ (sm.trans up) upd_same ⟨cd, te, tf, y4 _ _ upd_same, up _ _ (sm _ _ ecd), y4 _ _ (y3 _ _ (y2 _ _ upd_same)), y4 _ _ (y3 _ _ upd_same)⟩ ⟨(fun z => nomatch z), hst, hcs⟩ (.drift rfl (up _ _ hp) (up _ _ (sm _ _ ecd)) rfl ⟨rfl, rfl⟩) (fun q e => by cases e; exact hx)
  · have hway : way = 5 := by
      have : ∀ i : Nat, ¬ decide (V.int (way : Int) = V.int (i : Int)) = true → way ≠ i := fun i h z => h (decide_eq_true (by rw [z]))
      have q0 := this 0 ne0
      have q1 := this 1 ne1
      have q2 := this 2 ne2
      have q3 := this 3 ne3
      have q4 := this 4 ne4
      omega
    subst hway
    obtain ⟨b0, bs, rfl⟩ : ∃ b0 bs, ans = b0 :: bs := by
      cases ans with
      | nil => exact absurd rfl ha0
      | cons a b => exact ⟨a, b, rfl⟩
    have lan : ((b0 :: bs).map V.bl).length ≤ 1000 := by rw [List.length_map]; omega
    refine ⟨_, rfl, _, rfl, cd, _, (0 : Int), _, rfl, rfl, SqT.of ecd, atI_nat (j := 0) rfl, _, rfl, fun x dx hx hdx hne => ⟨H, x, dx, .str lab, .int (c0 : Int), .ref an, .str lab, .int (c0 : Int), .tup ((b0 :: bs).map PT.bl), rfl, two_new hx hdx, hx, upd_same, .str _ hl, .int _, .tup ean (rts_bools (b0 :: bs)) lan, fun _ _ _ H1 sm hp => ⟨rfl, _, rfl, _, rfl, _, rfl, _, rfl, cd, _, rfl, SqT.of (sm _ _ ecd), ?_⟩, (fun z => badT z), (fun _ z => badC (by rw [Bool.and_eq_false_iff] at z; rcases z with z | z; exact z; cases z))⟩⟩
    have run : ∀ (q : Addr) (H2 : Hp), Same H1 H2 → H2 q = some (.tup [.int (c0 : Int)]) → ∀ tf r p, H2 tf = none → (upd H2 tf (.tup [.int 0, .int 0])) r = none → (upd (upd H2 tf (.tup [.int 0, .int 0])) r (.lst [.int ((5 : Nat) : Int), .str lab, .ref q, .ref an, .ref tf])) p = none →
        D.rt (.ref p) (upd (upd (upd H2 tf (.tup [.int 0, .int 0])) r (.lst [.int ((5 : Nat) : Int), .str lab, .ref q, .ref an, .ref tf])) p (.tup [.ref x, .ref r])) := fun q H2 s2 eq tf r p htf hr hp2 => by
      have y2 := same_new (o := .tup [.int 0, .int 0]) htf
      have y3 := same_new (o := .lst [.int ((5 : Nat) : Int), .str lab, .ref q, .ref an, .ref tf]) hr
      have y4 := same_new (o := .tup [.ref x, .ref r]) hp2
      have up := s2.trans (y2.trans (y3.trans y4))
      exact kk p r (.ref x) ⟨5, lab, [c0], b0 :: bs, 0, 0⟩ _ (sm.trans up) upd_same ⟨q, an, tf, y4 _ _ upd_same, y4 _ _ (y3 _ _ (y2 _ _ eq)), up _ _ (sm _ _ ean), y4 _ _ (y3 _ _ upd_same)⟩ ⟨(fun z => nomatch z), hst, hc1⟩ (.lop rfl (up _ _ hp) (up _ _ (sm _ _ ean)) rfl (fun z => nomatch z) ⟨rfl, rfl⟩) (fun q e => by cases e; exact hx)
    refine ⟨fun w => ?_, fun nw q0 hq0 => ?_⟩
    · have er := cut_whole w
      subst er
      exact ⟨_, rfl, by show 2 ≤ sizeLine; decide, fun tf htf => ⟨by show 5 ≤ sizeLine; decide, fun r hr => ⟨by show 2 ≤ sizeLine; decide, fun p hp2 => run cd H1 (fun _ _ z => z) (sm _ _ ecd) tf r p htf hr hp2⟩⟩⟩
    · rw [cut_one]
      exact ⟨_, rfl, by show 2 ≤ sizeLine; decide, fun tf htf => ⟨by show 5 ≤ sizeLine; decide, fun r hr => ⟨by show 2 ≤ sizeLine; decide, fun p hp2 => run q0 _ (same_new hq0) upd_same tf r p htf hr hp2⟩⟩⟩
end
end K02
set_option Elab.async false
set_option linter.all false
set_option maxRecDepth 100000
set_option maxHeartbeats 4000000
namespace K02
open PySem L2 Xo Lm LamX
section
variable {P : Program} {w : World} {K : PySem.W.Frag} {mg : Str → Option Value} {base : Heap}
theorem ok_lkey {f f1 CK CC C1 C2 C3 C4 CD CL a1 a2 a3 a4 aD aL : Addr} {fd fd1 e1 e2 e3 e4 eD eL : FuncData} (D : Df K mg "_law_key" "_law_key" sLKey ["state", "trace"] f fd) (B : Bl mg) (D1 : Df K mg "_law_digit" "_law_digit" sDigit ["state", "size"] f1 fd1) (G1 : FnOk P w K mg base CX0 2 f1 fd1 ["state", "size"] spDigit)
    (X1 : Kc P w K mg base "Key" C1 a1 e1 ["self", "label", "code"] 5 (spKI K C1 CK CC 0 fKey)) (X2 : Kc P w K mg base "TracedKey" C2 a2 e2 ["self", "label", "code", "trace"] 6 (spKI K C2 CK CC 1 (fTr fKey [])))
    (M3 : Mk K C3 a3) (g3 : mg "FailingKey" = some (.ref C3)) (b3 : KBn K e3 ["self", "label", "code", "code_at", "match_at"] 3 ["code_at", "match_at"] (fun us ws => us ++ ws) (fun vs zs => vs ++ zs)) (G3 : FnOk P w K mg base (L2.CX P w) 6 a3 e3 ["self", "label", "code", "code_at", "match_at"] (spKI K C3 CK CC 2 fFail))
    (M4 : Mk K C4 a4) (g4 : mg "TracedFailingKey" = some (.ref C4)) (b4 : KBn K e4 ["self", "label", "code", "trace", "code_at", "match_at"] 4 ["code_at", "match_at"] (fun us ws => us ++ ws) (fun vs zs => vs ++ zs)) (G4 : FnOk P w K mg base (L2.CX P w) 8 a4 e4 ["self", "label", "code", "trace", "code_at", "match_at"] (spKI K C4 CK CC 3 fTF))
    (XD : Kc P w K mg base "DriftingKey" CD aD eD ["self", "label", "codes"] 6 (spDI K CD CK CC)) (XL : Kc P w K mg base "LopsidedKey" CL aL eL ["self", "label", "code", "answers"] 6 (spLI K CL CK CC)) :
    FnOk P w K mg base CX0 10 f fd ["state", "trace"] (spLKey K C1 C2 C3 C4 CD CL) := by
  refine D.F.ok scLKey (fun vs H Q E h => ?_) (fun cdv A outer sh H vs Q E hr h => ?_)
  · obtain ⟨s, n, tr, rfl, _⟩ := h
    rfl
  · obtain ⟨s, n, tr, rfl, hs, hn, k⟩ := h
    obtain ⟨tl, hw, qW⟩ := lkey_ways (H9 := H) (E9 := E) (sh := sh) (outer := outer) X1 X2 M3 g3 b3 G3 M4 g4 b4 G4 XD XL hr
    obtain ⟨t, ht, q⟩ := lkey_read B D1 G1 hr hw
    refine ⟨t, ht, q _ s tr n H hs hn fun way lab codes ans f0 f1 cd an fl H' c1 c2 c3 c4 c5 c6 c7 c8 c9 d1 d2 d3 d4 d5 => qW _ s tr way lab codes ans f0 f1 cd an fl H' c1 c2 c3 c4 c5 c7 c6 c8 c9 d1 d2 d3 fun p r v kn H2 sm e1 e2 e3 e4 e5 => ?_⟩
    exact k p r v kn H2 e1 e2 e3 e4 (fun x e => none_kept d5 d4 (e5 x e)) ((d4.same sm).mono (by omega)) (d5.trans (KeptS.of sm))
end
end K02
set_option Elab.async false
set_option linter.all false
set_option maxRecDepth 100000
/-! Rp: data that may be shown: how long its text is -/
namespace Rp
open PySem PySem.Spec PyProof.Rows L2
theorem piled_le {b : Nat} : ∀ ts : List Str, (∀ t ∈ ts, t.length ≤ b) → piled ts ≤ (b + 2) * ts.length
  | [], _ => by rw [piled_nil]; exact Nat.zero_le _
  | t :: r, h => by
    have ih := piled_le r fun u hu => h u (List.mem_cons_of_mem _ hu)
    have h1 := h t (List.mem_cons_self ..)
    rw [piled_cons, List.length_cons, Nat.mul_succ]
    omega
theorem listText_le : ∀ ts : List Str, (listText ts).length ≤ piled ts + 2
  | [] => by decide
  | t :: r => by
    have h := textFrom_length_pos r 1 (("[" : Str) ++ (if (0 : Nat) > 0 then ", " else "" : String) ++ t) (Nat.succ_pos 0)
    have e : ((("[" : Str) ++ (if (0 : Nat) > 0 then ", " else "" : String) ++ t)).length = 1 + t.length := by
      rw [strLen_append, strLen_append]; rfl
    have hX : (listText (t :: r)).length = (textFrom 0 "[" (t :: r)).length + 1 := by
      show (textFrom 0 "[" (t :: r) ++ "]").length = _
      rw [strLen_append]; rfl
    have hY : (textFrom 0 "[" (t :: r)).length = (textFrom 1 (("[" : Str) ++ (if (0 : Nat) > 0 then ", " else "" : String) ++ t) r).length := rfl
    rw [hX, hY, h, e, piled_cons]; omega
theorem tupleText_le (ts : List Str) : (tupleText ts).length ≤ piled ts + 3 := by
  unfold tupleText
  rw [strLen_append, strLen_append]
  have e1 : ((("(" : String) : Str)).length = 1 := rfl
  have e3 : (((if ts.length == 1 then ",)" else ")" : String) : Str)).length ≤ 2 := by split <;> decide
  rw [e1]
  by_cases h : ts = []
  · subst h; have : (Str.join ", " ([] : List Str)).length = 0 := rfl
    omega
  · have := join_length_add ts h
    omega
/-- may be shown: at most b signs, nested e deep -/
structure Sh (b e : Nat) (d : PyData) : Prop where
  sh : d.showable = true
  nd : d.hasDict = false
  dp : d.depth ≤ e
  ln : d.shown.length ≤ b
theorem Sh.mono {b e b' e' : Nat} {d : PyData} (h : Sh b e d) (hb : b ≤ b') (he : e ≤ e') : Sh b' e' d := ⟨h.sh, h.nd, Nat.le_trans h.dp he, Nat.le_trans h.ln hb⟩
theorem ofString_len (s : String) : (Str.ofString s).length = s.toList.length := by
  have e := signs_ofString s
  have := congrArg List.length e
  rw [List.length_map, Array.length_toList] at this
  exact this
theorem digits_le {n k : Nat} (hk : 1 ≤ k) (h : n < 10 ^ k) : (Nat.toDigits 10 n).length ≤ k := by
  have := digitsCore_len_pow 10 (by decide) k (n + 1) n [] hk h
  simpa [Nat.toDigits] using this
theorem int_len {z : Int} {k : Nat} (hk : 1 ≤ k) (h : z.natAbs < 10 ^ k) : (Str.ofString (toString z)).length ≤ k + 1 := by
  rw [ofString_len]
  cases z with
  | ofNat m =>
    have e : (toString (Int.ofNat m)).toList = Nat.toDigits 10 m := by
      show (Nat.repr m).toList = _
      rw [Nat.toList_repr]
    rw [e]
    have := digits_le (n := m) hk h
    omega
  | negSucc m =>
    have e : (toString (Int.negSucc m)).toList = '-' :: Nat.toDigits 10 (m + 1) := by
      show ("-" ++ Nat.repr (m + 1)).toList = _
      rw [String.toList_append, Nat.toList_repr]
      rfl
    rw [e]
    have := digits_le (n := m + 1) hk h
    show (Nat.toDigits 10 (m + 1)).length + 1 ≤ _
    omega
theorem log_lt {n k : Nat} (hk : k ≤ 400) (h : n < 10 ^ k) : n.log2 < 1920 := by
  by_cases h0 : n = 0
  · subst h0; decide
  · refine (Nat.log2_lt h0).mpr (Nat.lt_of_lt_of_le h ?_)
    refine Nat.le_trans (Nat.pow_le_pow_left (show 10 ≤ 2 ^ 4 by decide) k) ?_
    rw [← Nat.pow_mul]
    exact Nat.pow_le_pow_right (by decide) (by omega)
theorem Sh.int {z : Int} {k : Nat} (hk : 1 ≤ k) (hk2 : k ≤ 400) (h : z.natAbs < 10 ^ k) : Sh (k + 1) 0 (.int z) := by
  refine ⟨?_, by simp only [PyData.hasDict], by simp only [PyData.depth]; exact Nat.le_refl _, ?_⟩
  · simp only [PyData.showable]
    exact decide_eq_true (log_lt hk2 h)
  · simp only [PyData.shown]
    exact int_len hk h
theorem Sh.none : Sh 4 0 .none := ⟨by simp only [PyData.showable], by simp only [PyData.hasDict], by simp only [PyData.depth]; exact Nat.le_refl _, by simp only [PyData.shown]; decide⟩
theorem Sh.bool {b : Bool} : Sh 5 0 (.bool b) := ⟨by simp only [PyData.showable], by simp only [PyData.hasDict], by simp only [PyData.depth]; exact Nat.le_refl _, by simp only [PyData.shown]; cases b <;> decide⟩
theorem all_sh {b e : Nat} : ∀ xs : List PyData, (∀ x ∈ xs, Sh b e x) → PyData.showableAll xs = true ∧ PyData.hasDictAll xs = false ∧ PyData.depthAll xs ≤ e ∧ (∀ t ∈ PyData.shownAll xs, t.length ≤ b) ∧ (PyData.shownAll xs).length = xs.length
  | [], _ => ⟨by simp only [PyData.showableAll], by simp only [PyData.hasDictAll], by simp only [PyData.depthAll]; exact Nat.zero_le _, by simp only [PyData.shownAll]; exact (fun t ht => absurd ht List.not_mem_nil), by simp only [PyData.shownAll, List.length_nil]⟩
  | x :: xs, h => by
    have hx := h x (List.mem_cons_self ..)
    obtain ⟨h1, h2, h3, h4, h5⟩ := all_sh xs fun u hu => h u (List.mem_cons_of_mem _ hu)
    refine ⟨?_, ?_, ?_, ?_, ?_⟩
    · simp only [PyData.showableAll, hx.sh, h1, Bool.and_self]
    · simp only [PyData.hasDictAll, hx.nd, h2, Bool.or_self]
    · simp only [PyData.depthAll]
      exact Nat.max_le.mpr ⟨hx.dp, h3⟩
    · simp only [PyData.shownAll]
      intro t ht
      rcases List.mem_cons.mp ht with rfl | ht
      · exact hx.ln
      · exact h4 t ht
    · simp only [PyData.shownAll, List.length_cons, h5]
theorem Sh.list {b e : Nat} {xs : List PyData} (h : ∀ x ∈ xs, Sh b e x) : Sh ((b + 2) * xs.length + 2) (e + 1) (.list xs) := by
  obtain ⟨h1, h2, h3, h4, h5⟩ := all_sh xs h
  refine ⟨by simp only [PyData.showable]; exact h1, by simp only [PyData.hasDict]; exact h2, by simp only [PyData.depth]; omega, ?_⟩
  simp only [PyData.shown]
  have := listText_le (PyData.shownAll xs)
  have := piled_le _ h4
  rw [h5] at this
  omega
theorem Sh.tuple {b e : Nat} {xs : List PyData} (h : ∀ x ∈ xs, Sh b e x) : Sh ((b + 2) * xs.length + 3) (e + 1) (.tuple xs) := by
  obtain ⟨h1, h2, h3, h4, h5⟩ := all_sh xs h
  refine ⟨by simp only [PyData.showable]; exact h1, by simp only [PyData.hasDict]; exact h2, by simp only [PyData.depth]; omega, ?_⟩
  simp only [PyData.shown]
  have := tupleText_le (PyData.shownAll xs)
  have := piled_le _ h4
  rw [h5] at this
  omega
theorem Sh.ints {k : Nat} (hk : 1 ≤ k) (hk2 : k ≤ 400) {zs : List Int} (h : ∀ z ∈ zs, z.natAbs < 10 ^ k) : ∀ d ∈ zs.map PyData.int, Sh (k + 1) 0 d := by
  intro d hd
  obtain ⟨z, hz, rfl⟩ := List.mem_map.mp hd
  exact Sh.int hk hk2 (h z hz)
/-- data that may be shown -/
theorem Sh.shw {b e : Nat} {d : PyData} (h : Sh b e d) (he : e ≤ 60) (hb : b ≤ sizeLine) : d.showable = true ∧ d.hasDict = false ∧ d.depth ≤ 60 ∧ d.shown.length ≤ sizeLine := ⟨h.sh, h.nd, Nat.le_trans h.dp he, Nat.le_trans h.ln hb⟩
end Rp
set_option Elab.async false
set_option linter.all false
set_option maxRecDepth 100000
set_option maxHeartbeats 1000000
/-! Gr: repr of any data -/
namespace Gd
open PySem PySem.Spec PyProof.Rows L2 LamX
def rReprD (K : PySem.W.Frag) : List V → Hp → VK → Prop := fun xs H Q => ∃ (v : V) (d : PyData), xs = [v] ∧ Dp K H v d ∧ d.showable = true ∧ d.hasDict = false ∧ d.depth ≤ 60 ∧ d.shown.length ≤ sizeLine ∧ Q (.str d.shown) H
theorem call_reprD {X : Cx} (hgd : X.A.guards = some []) (hu : X.A.units + 64 < cLine) : CallR X (.builtin "repr") (rReprD X.K) := by
  intro pins s σ H xs us Q I r h
  obtain ⟨v, d, rfl, hd, hs, hk, hdp, hz, q⟩ := h
  obtain ⟨u, rfl, ru⟩ := r.one
  obtain ⟨as, rd⟩ := Dp.reads I d _ _ hd ru
  have byRef : ∀ a : Addr, v = .ref a → wpAny (model X.prog X.w) X.A (call (.builtin "repr") [u]) (EP X pins σ Q) X.xe s := fun a e => by
    subst e
    obtain rfl : u = Value.ref a := ru
    exact repr_of_reads' rd hs (fun z => by rw [hk] at z; cases z) hgd (by omega) (fun b o e => e) (fun h' u tk k => ⟨.str d.shown, H, I.kept (t' := tk) k, ⟨u, rfl⟩, q⟩) hz
  cases hd with
  | non =>
    obtain rfl : u = Value.none := ru
    simp only [PyData.shown] at q
    exact PySem.P.repr_of_none ⟨.str _, H, I.tok _, ⟨_, rfl⟩, q⟩
  | bl b =>
    obtain rfl : u = Value.bool b := ru
    simp only [PyData.shown] at q
    exact PySem.P.repr_of_bool ⟨.str _, H, I.tok _, ⟨_, rfl⟩, q⟩
  | int i =>
    obtain ⟨t, rfl⟩ := ru
    simp only [PyData.shown] at q
    simp only [PyData.showable] at hs
    exact PySem.P.repr_of_int (of_decide_eq_true hs) ⟨.str _, H, I.tok _, ⟨_, rfl⟩, q⟩
  | str x =>
    obtain ⟨t, rfl⟩ := ru
    simp only [PyData.shown] at q hz
    exact PySem.P.repr_of_str ⟨.str _, H, I.tok _, ⟨_, rfl⟩, q⟩ hz
  | lst h1 h2 => exact byRef _ rfl
  | tup h1 h2 => exact byRef _ rfl
end Gd
set_option Elab.async false
set_option linter.all false
set_option maxRecDepth 100000
set_option maxHeartbeats 1000000
/-! Mw: o.m(k = v, ..), keywords alone; a ** b of great numbers; one of two readings of a statement -/
namespace Mw
open PySem PySem.Spec PyProof.Rows L2
def tMethK0 (n : Nat) (C : Addr) (m : Str) (sp : Sp) (gV : List V → List V → List V) (E : XK) (ta : TE) (tk : TA) : TE := fun σ H Q => ta σ H fun x H1 => ∃ a dx fs, x = .ref a ∧ H1 a = some (.ins C dx fs) ∧ fs.lookup m = none ∧ tk σ H1 fun zs H2 => zs.length = n ∧ sp (gV [x] zs) H2 Q E
theorem pe_methK0 {X : Cx} {CX : CXT} {k : Nat} {f C : Addr} {fd : FuncData} {ps ks : List Str} {sp : Sp} {E : XK} {m : Str} {o : Expr} {ta : TE} {apos pos : Pos} {kws : List Keyword} {tk : TA} {g : List Value → List Value → List Value} {gV : List V → List V → List V} {pl : Sem Bool}
    (he : PE X o ta) (c : Cls X.K C) (hm : Meth X.K C m f) (F : FnOk X.prog X.w X.K X.mg X.base CX k f fd ps sp) (hr : Room k X.A) (hb : KBn X.K fd ps 1 ks g gV) (hx : Passes CX X E) (hkw : PK X kws tk)
    (hall : (backToKw pos (keywordEach kws X.env)).all (·.1.isSome) = true := by rfl) (hks : (backToKw pos (keywordEach kws X.env)).filterMap (·.1) = ks := by rfl)
    (hpl : ((backTo pos (starEach [] X.env)).any (·.1) || (backToKw pos (keywordEach kws X.env)).any (·.1.isNone)) = false := by rfl)
    (ht : eval (.Call (.Attribute o m apos) [] kws pos) X.env = (do
      let ov ← eval o X.env
      standAt apos.atName
      let (f, first) ← holding [ov] (getMethod ov m pl)
      callWith pos f first (backTo pos (starEach [] X.env)) (backToKw pos (keywordEach kws X.env))) := by rfl) :
    PE X (.Call (.Attribute o m apos) [] kws pos) (tMethK0 ks.length C m sp gV E ta tk) := by
  refine ⟨fun pins s σ H Q I h => ?_⟩
  refine PySem.W.methodCall_KW (pl := pl) (thn (he.run pins s σ H _ I h) fun u s1 ⟨x, H1, I1, rx, a, dx, fs, ex, ea, l, q⟩ => ?_) ht
  subst ex
  obtain rfl : u = Value.ref a := rx
  refine getmeth_ok I1 ea c hm l ?_
  refine PySem.W.callWith_KW0 (first := [.ref a]) (h₀ := X.base) I.ok.mod.kin hm.kp hall (thn (hkw.run pos pins s1 σ H1 _ I1 q) fun ws s2 ⟨zs, H2, I2, rz, l2, q2⟩ => ⟨I2.kIn, ?_⟩) hpl
  rw [hks]
  have r2 := hb.rel (vs := [V.ref a]) (us := [Value.ref a]) (.cons rfl .nil) rz
  refine wpAny_call (codeAny_mono (F.run X.A X.stack s2 H2 ⟨[.ref a], ks.zip ws⟩ (g [.ref a] ws) (gV [.ref a] zs) Q E hr I2.env0 (hb.to s2 [.ref a] ws I2.kIn rfl (rz.length.symm.trans l2)) r2 q2) fun r s' hq => ?_)
  cases r with
  | error e => exact hx pins σ H2 s2 e s' I2 hq
  | ok fl =>
    cases fl with
    | ret u => exact I2.after hq
    | next => exact False.elim hq
    | brk => exact False.elim hq
    | cont => exact False.elim hq
/-- self by place, one parameter by name -/
theorem kbm1 {K : PySem.W.Frag} {fd : FuncData} {s p : Str} (h1 : ∀ a u : Value, bindArgs fd ⟨[a], [(p, u)]⟩ = pure [(s, a), (p, u)]) : KBn K fd [s, p] 1 [p] (fun us ws => us ++ ws) (fun vs zs => vs ++ zs) where
  to := fun sh us ws _ h1' h2' => by
    match us, ws, h1', h2' with
    | [a], [u], _, _ => exact .of_eq (h1 a u)
  rel := fun r r' => r.append r'
/-- self by place, two parameters by name, in their order -/
theorem kbm2 {K : PySem.W.Frag} {fd : FuncData} {s p q : Str} (h1 : ∀ a u v : Value, bindArgs fd ⟨[a], [(p, u), (q, v)]⟩ = pure [(s, a), (p, u), (q, v)]) : KBn K fd [s, p, q] 1 [p, q] (fun us ws => us ++ ws) (fun vs zs => vs ++ zs) where
  to := fun sh us ws _ h1' h2' => by
    match us, ws, h1', h2' with
    | [a], [u, v], _, _ => exact .of_eq (h1 a u v)
  rel := fun r r' => r.append r'
/-- self by place, two parameters by name, the last one first -/
theorem kbm2r {K : PySem.W.Frag} {fd : FuncData} {s p q : Str} (h1 : ∀ a u v : Value, bindArgs fd ⟨[a], [(q, v), (p, u)]⟩ = pure [(s, a), (p, u), (q, v)]) : KBn K fd [s, p, q] 1 [q, p] (fun us ws => us ++ ws.reverse) (fun vs zs => vs ++ zs.reverse) where
  to := fun sh us ws _ h1' h2' => by
    match us, ws, h1', h2' with
    | [a], [v, u], _, _ => exact .of_eq (h1 a u v)
  rel := fun r r' => r.append r'.reverse
/-- a ** b, the base may be great -/
theorem op_powB {X : Cx} : OpR X (binaryOp .Pow) (rI (fun i j => 0 ≤ j ∧ (Builtin.Int.intBits i : Int) * j ≤ 2 ^ 27) fun i j => .int (i ^ j.toNat)) := opI fun _ _ _ _ _ _ _ hc q => pow_int hc.1 hc.2 q
/-- one of two readings of a statement -/
theorem ps_or {X : Cx} {st : Stmt} {t u : TS} (a : PS X st t) (b : PS X st u) : PS X st (fun D σ H => t D σ H ∨ u D σ H) := ⟨fun pins s σ H D I h => h.elim (a.run pins s σ H D I) (b.run pins s σ H D I)⟩
end Mw
set_option Elab.async false
set_option linter.all false
set_option maxRecDepth 100000
set_option maxHeartbeats 4000000
namespace K02
open PySem L2 Xo Lm LamX
/-- one of two readings of an expression -/
theorem pe_orE {X : Cx} {e : Expr} {a b : TE} (ha : PE X e a) (hb : PE X e b) : PE X e (fun σ H Q => a σ H Q ∨ b σ H Q) := ⟨fun pins s σ H Q I h => h.elim (ha.run pins s σ H Q I) (hb.run pins s σ H Q I)⟩
theorem pe_weak {X : Cx} {e : Expr} {a b : TE} (ha : PE X e a) (h : ∀ σ H Q, b σ H Q → a σ H Q) : PE X e b := ⟨fun pins s σ H Q I z => ha.run pins s σ H Q I (h _ _ _ z)⟩
/-! ### the ways of a call -/
section
variable {k : Kn} {a0 a1 : Nat} {sm : Bool}
theorem due_c (h : ¬ a0 + 1 = k.f0) : k.due (a0 + 1) false sm = [.int ((k.codes.getD (a0 % k.codes.length) 0 : Nat) : Int)] := by
  unfold Kn.due
  rw [if_neg (show ¬ a0 + 1 = (if false = true then k.f1 else k.f0) from h), if_pos rfl]
  rfl
theorem due_cf (h : a0 + 1 = k.f0) : k.due (a0 + 1) false sm = [.str "code", .str k.label] := by
  unfold Kn.due
  rw [if_pos (show a0 + 1 = (if false = true then k.f1 else k.f0) from h)]
  rfl
theorem due_mf (h : a1 + 1 = k.f1) : k.due (a1 + 1) true sm = [.str "matches", .str k.label] := by
  unfold Kn.due
  rw [if_pos (show a1 + 1 = (if true = true then k.f1 else k.f0) from h)]
  rfl
theorem due_ms (h : ¬ a1 + 1 = k.f1) (he : k.ans = []) : k.due (a1 + 1) true sm = [.bl sm] := by
  unfold Kn.due
  rw [if_neg (show ¬ a1 + 1 = (if true = true then k.f1 else k.f0) from h), if_neg (by decide), if_neg (by rw [he]; decide)]
theorem due_ma (h : ¬ a1 + 1 = k.f1) (he : k.ans ≠ []) : k.due (a1 + 1) true sm = [.bl (k.ans.getD (a1 % k.ans.length) false)] := by
  unfold Kn.due
  rw [if_neg (show ¬ a1 + 1 = (if true = true then k.f1 else k.f0) from h), if_neg (by decide), if_pos (by cases h2 : k.ans with | nil => exact absurd h2 he | cons a b => rfl)]
  rfl
end
def Kn.traced (k : Kn) : Bool := decide (k.way = 1) || decide (k.way = 3)
section
variable {P : Program} {w : World} {K : PySem.W.Frag} {mg : Str → Option Value} {base : Heap}
theorem RT.updL {H : Hp} {a : Addr} {xs ys : List V} (ha : H a = some (.lst xs)) {v : V} {t : PT} (h : RT K H v t) : RT K (upd H a (.lst ys)) v t := by
  refine RT.rec (motive_1 := fun v t _ => RT K (upd H a (.lst ys)) v t) (motive_2 := fun vs ts _ => RTs K (upd H a (.lst ys)) vs ts) .non .bl .int .str (fun h r hl ih => ?_) (fun {b vs} h => ?_) (fun {b kvs} h => ?_) (fun {b C dx fs} h i => ?_) .nil (fun h r ih1 ih2 => .cons ih1 ih2) h
  · exact .tup (by rw [upd_ne (ne_of h ha (by intro z; cases z))]; exact h) ih hl
  · by_cases z : b = a
    · subst z
      exact .lst upd_same
    · exact .lst (by rw [upd_ne z]; exact h)
  · exact .dk (by rw [upd_ne (ne_of h ha (by intro z; cases z))]; exact h)
  · exact .ins (by rw [upd_ne (ne_of h ha (by intro z; cases z))]; exact h) i
theorem KV.same {C1 : Addr} {H H' : Hp} (s : Same H H') {v : V} {r : Option V} (h : KV K C1 H v r) : KV K C1 H' v r := by
  cases h with
  | key h k l => exact .key (s _ _ h) k l
  | plain r => exact .plain (r.same s)
theorem KV.updL {C1 : Addr} {H : Hp} {a : Addr} {xs ys : List V} (ha : H a = some (.lst xs)) {v : V} {r : Option V} (h : KV K C1 H v r) : KV K C1 (upd H a (.lst ys)) v r := by
  cases h with
  | key h k l => exact .key (by rw [upd_ne (ne_of h ha (by intro z; cases z))]; exact h) k l
  | plain r => exact .plain (r.updL ha)
theorem RT.updI {H : Hp} {p C dx : Addr} {fs fs2 : List (Str × V)} (hp : H p = some (.ins C dx fs)) {v : V} {t : PT} (h : RT K H v t) : RT K (upd H p (.ins C dx fs2)) v t := by
  refine RT.rec (motive_1 := fun v t _ => RT K (upd H p (.ins C dx fs2)) v t) (motive_2 := fun vs ts _ => RTs K (upd H p (.ins C dx fs2)) vs ts) .non .bl .int .str (fun h r hl ih => ?_) (fun {b vs} h => ?_) (fun {b kvs} h => ?_) (fun {b C' dx' fs'} h i => ?_) .nil (fun h r ih1 ih2 => .cons ih1 ih2) h
  · exact .tup (by rw [upd_ne (ne_of h hp (by intro z; cases z))]; exact h) ih hl
  · exact .lst (by rw [upd_ne (ne_of h hp (by intro z; cases z))]; exact h)
  · exact .dk (by rw [upd_ne (ne_of h hp (by intro z; cases z))]; exact h)
  · by_cases z : b = p
    · subst z
      rw [hp] at h
      cases h
      exact .ins upd_same i
    · exact .ins (by rw [upd_ne z]; exact h) i
theorem KV.updI {C1 p C dx : Addr} {H : Hp} {fs fs2 : List (Str × V)} {v : V} {r : Option V} (h : KV K C1 H v r) (hp : H p = some (.ins C dx fs)) (hl : fs2.lookup ("label" : Str) = fs.lookup ("label" : Str)) : KV K C1 (upd H p (.ins C dx fs2)) v r := by
  cases h with
  | @key o C' dx' fs' lb h k l =>
    by_cases z : o = p
    · subst z
      rw [hp] at h
      cases h
      exact .key upd_same k (by rw [hl]; exact l)
    · exact .key (by rw [upd_ne z]; exact h) k l
  | plain r => exact .plain (r.updI hp)
theorem TrAt.same {CT : Addr} {H H' : Hp} {tr l : Addr} {evs : List V} (s : Same H H') (h : TrAt CT H tr l evs) : TrAt CT H' tr l evs := by
  obtain ⟨⟨dx, h1⟩, h2⟩ := h
  exact ⟨⟨dx, s _ _ h1⟩, s _ _ h2⟩
theorem strLab (l : Option Str) : StrLab (l.map V.str) := fun v e => by
  cases l with
  | none => cases e
  | some a => exact ⟨a, (Option.some.inj e).symm⟩
def sameL (a : Option Str) (b : Str) : Bool := decide (a = some b)
theorem same_lab (l : Option Str) (a : Str) : same (l.map V.str) a = sameL l a := by
  cases l with
  | none => rfl
  | some b => exact decide_eq_decide.mpr ⟨fun h => by rw [h], fun h => Option.some.inj h⟩
/-- the heap behind a note, at the next call above -/
theorem noted {H : Hp} {tt l q : Addr} {T o : HO} {evs ys : List V} (htt : H tt = none) (hl : H l = some (.lst evs)) (hq : (upd (upd H tt T) l (.lst ys)) q = none) :
    (∀ b u, H b = some u → b ≠ l → upd (upd (upd H tt T) l (.lst ys)) q o b = some u) ∧ upd (upd (upd H tt T) l (.lst ys)) q o l = some (.lst ys) ∧ upd (upd (upd H tt T) l (.lst ys)) q o tt = some T := by
  have y := same_new (o := T) htt
  have y2 := same_new (o := o) hq
  have n1 : tt ≠ l := (ne_of_none hl htt).symm
  exact ⟨fun b u e hb => y2 _ _ (by rw [upd_ne hb]; exact y _ _ e), y2 _ _ upd_same, y2 _ _ (by rw [upd_ne n1, upd_same])⟩
theorem kv_noted {C1 : Addr} {H : Hp} {tt l q : Addr} {T o : HO} {evs ys : List V} (htt : H tt = none) (hl : H l = some (.lst evs)) (hq : (upd (upd H tt T) l (.lst ys)) q = none) {v : V} {r : Option V} (h : KV K C1 H v r) : KV K C1 (upd (upd (upd H tt T) l (.lst ys)) q o) v r :=
  KV.same (same_new hq) (KV.updL (same_new htt _ _ hl) (KV.same (same_new htt) h))
theorem ne_ins {H : Hp} {a b C D dx dy : Addr} {fs gs : List (Str × V)} (h1 : H a = some (.ins C dx fs)) (h2 : H b = some (.ins D dy gs)) (h : fs.length ≠ gs.length) : a ≠ b := by
  rintro rfl
  rw [h1] at h2
  cases h2
  exact h rfl
/-- all but the events and the key asked stays -/
def FrL (H H' : Hp) (l p : Addr) : Prop := ∀ b o, H b = some o → b ≠ l → b ≠ p → H' b = some o
/-- what asking has done: the event is noted, or none -/
structure Aft (CT : Addr) (H H' : Hp) (tr l p : Addr) (evs : List V) (traced : Bool) (ev : List V) : Prop where
  fr : FrL H H' l p
  at_ : ∃ evs', TrAt CT H' tr l evs' ∧ (traced = false → evs' = evs) ∧ (traced = true → ∃ tt, evs' = evs ++ [.ref tt] ∧ H' tt = some (.tup ev))
/-- the classes and what their methods find above -/
structure Cl6 where
  (C1 C2 C3 C4 CD CL CT CF CM : Addr)
  (g1 g2 g3 g4 g5 g6 m1 m2 m3 m4 m5 m6 : Addr)
def CodeSays (K : PySem.W.Frag) (c : Cl6) (H : Hp) (p C : Addr) (Qn : VK) (E : L2.XK) : Prop :=
  (C = c.C1 ∧ spKC c.C1 [.ref p] H Qn E) ∨ (C = c.C2 ∧ spTC K c.C2 c.CT c.g1 (spKC c.C2) [.ref p] H Qn E) ∨ (C = c.C3 ∧ spFC K c.C3 c.CF c.g2 (spKC c.C3) [.ref p] H Qn E) ∨
  (C = c.C4 ∧ spS1 c.C4 c.g3 (spTC K c.C4 c.CT c.g4 (spFC K c.C4 c.CF c.g5 (spKC c.C4))) [.ref p] H Qn E) ∨ (C = c.CD ∧ spDCo c.CD [.ref p] H Qn E) ∨ (C = c.CL ∧ spS1 c.CL c.g6 (spKC c.CL) [.ref p] H Qn E)
def MatchSays (K : PySem.W.Frag) (c : Cl6) (H : Hp) (p C : Addr) (v : V) (Qn : VK) (E : L2.XK) : Prop :=
  (C = c.C1 ∧ spKM K c.C1 c.C1 [.ref p, v] H Qn E) ∨ (C = c.C2 ∧ spTM K c.C2 c.C1 c.CT c.m1 (spKM K c.C2 c.C1) [.ref p, v] H Qn E) ∨ (C = c.C3 ∧ spFM K c.C3 c.CM c.m2 (spKM K c.C3 c.C1) [.ref p, v] H Qn E) ∨
  (C = c.C4 ∧ spS2 c.C4 c.m3 (spTM K c.C4 c.C1 c.CT c.m4 (spFM K c.C4 c.CM c.m5 (spKM K c.C4 c.C1))) [.ref p, v] H Qn E) ∨ (C = c.CD ∧ spS2 c.CD c.m6 (spKM K c.CD c.C1) [.ref p, v] H Qn E) ∨ (C = c.CL ∧ spLM c.CL [.ref p, v] H Qn E)
abbrev KoC (c : Cl6) (tr : Addr) := KoAt c.C1 c.C2 c.C3 c.C4 c.CD c.CL tr
abbrev fsF (k : Kn) (a0 a1 : Nat) : List (Str × V) := [("label", .str k.label), ("_code", .int ((k.codes.getD 0 0 : Nat) : Int)), ("_code_at", .int (k.f0 : Int)), ("_match_at", .int (k.f1 : Int)), ("_code_calls", .int (a0 : Int)), ("_match_calls", .int (a1 : Int))]
abbrev fsT (k : Kn) (a0 a1 : Nat) (tr : Addr) : List (Str × V) := fsF k a0 a1 ++ [(("_trace" : Str), .ref tr)]
theorem mod_one {n : Nat} {k : Kn} (h : k.codes.length = 1) : n % k.codes.length = 0 := by rw [h]; exact Nat.mod_one n
theorem code_core {c : Cl6} {tr l p : Addr} {H : Hp} {k : Kn} {a0 a1 : Nat} {evs : List V} {sm : Bool} {Qn : VK} {E : L2.XK} (h : KoC c tr H (.ref p) k a0 a1) (ok : k.Ok) (T : TrAt c.CT H tr l evs) (hz : evs.length ≤ 1000)
    (ky : ∀ y H', k.due (a0 + 1) false sm = [y] → KoC c tr H' (.ref p) k (a0 + 1) a1 → Aft c.CT H H' tr l p evs k.traced [.str "code", .str k.label] → Qn y H')
    (kf : ∀ d H', k.due (a0 + 1) false sm = [.str "code", .str k.label] → H' d = some (.xd [("label", .str k.label)]) → KoC c tr H' (.ref p) k (a0 + 1) a1 → Aft c.CT H H' tr l p evs k.traced [.str "code", .str k.label] → E (.ref c.CF) (some d) H') :
    ∃ C dx fs, H p = some (.ins C dx fs) ∧ fs.lookup ("code" : Str) = none ∧ CodeSays K c H p C Qn E := by
  obtain ⟨⟨dt, ho⟩, hl⟩ := T
  have n0 : ∀ {n : Nat}, ¬ n + 1 = 0 := fun z => by omega
  cases h with
  | @key _ dx _ _ _ hw h h1 h2 h3 =>
    refine ⟨_, dx, _, h, rfl, .inl ⟨rfl, p, dx, _, _, rfl, h, rfl, ky _ _ (by rw [due_c (by rw [h3.1]; exact n0), mod_one h1]) (.key hw h h1 h2 h3) ⟨fun b o e _ _ => e, evs, ⟨⟨dt, ho⟩, hl⟩, fun _ => rfl, fun z => by unfold Kn.traced at z; rw [hw] at z; cases z⟩⟩⟩
  | @tr _ dx _ _ _ hw h h1 h2 h3 =>
    refine ⟨_, dx, _, h, rfl, .inr (.inl ⟨rfl, p, dx, _, .str k.label, tr, l, evs, rfl, h, rfl, rfl, ⟨⟨dt, ho⟩, hl⟩, hz, fun tt htt q hq => ?_⟩)⟩
    obtain ⟨fr, e1, e2⟩ := noted (o := .met c.g1 p) htt hl hq
    have np : p ≠ l := ne_of h hl (by intro z; cases z)
    have nt : tr ≠ l := ne_of ho hl (by intro z; cases z)
    exact ⟨p, dx, _, _, rfl, fr _ _ h np, rfl, ky _ _ (by rw [due_c (by rw [h3.1]; exact n0), mod_one h1]) (.tr hw (fr _ _ h np) h1 h2 h3) ⟨fun b o e hb _ => fr _ _ e hb, _, ⟨⟨dt, fr _ _ ho nt⟩, e1⟩, (fun z => by unfold Kn.traced at z; rw [hw] at z; cases z), fun _ => ⟨tt, rfl, e2⟩⟩⟩
  | @fail _ dx _ _ _ hw h h1 h2 =>
    have n1 : tr ≠ p := ne_ins ho h (by intro z; simp at z)
    have n2 : l ≠ p := ne_of hl h (by intro z; cases z)
    refine ⟨_, dx, _, h, rfl, .inr (.inr (.inl ⟨rfl, p, dx, _, (a0 : Int), (k.f0 : Int), .str k.label, rfl, h, by show 6 < 900; decide, rfl, rfl, rfl, fun e d hd => ?_, fun e q hq => ?_⟩))⟩
    · have y := same_new (o := .xd [("label", .str k.label)]) hd
      exact kf d _ (due_cf (by omega)) upd_same (.fail hw (y _ _ upd_same) h1 h2) ⟨fun b o e _ hb => y _ _ (by rw [upd_ne hb]; exact e), evs, ⟨⟨dt, y _ _ (by rw [upd_ne n1]; exact ho)⟩, y _ _ (by rw [upd_ne n2]; exact hl)⟩, fun _ => rfl, fun z => by unfold Kn.traced at z; rw [hw] at z; cases z⟩
    · have npq : q ≠ p := (ne_of_none h hq).symm
      have y : Same _ (upd (upd H p (.ins c.C3 dx (putF "_code_calls" (.int ((a0 : Int) + 1)) (fsF k a0 a1)))) q (.met c.g2 p)) := same_new (o := .met c.g2 p) (by rw [upd_ne npq]; exact hq)
      exact ⟨p, dx, _, .int _, rfl, y _ _ upd_same, (by rw [look_put (by decide +kernel)]; rfl), ky _ _ (by rw [due_c (fun z => e (by omega)), mod_one h1]) (.fail hw (y _ _ upd_same) h1 h2) ⟨fun b o e _ hb => y _ _ (by rw [upd_ne hb]; exact e), evs, ⟨⟨dt, y _ _ (by rw [upd_ne n1]; exact ho)⟩, y _ _ (by rw [upd_ne n2]; exact hl)⟩, fun _ => rfl, fun z => by unfold Kn.traced at z; rw [hw] at z; cases z⟩⟩
  | @tf _ dx _ _ _ hw h h1 h2 =>
    refine ⟨_, dx, _, h, rfl, .inr (.inr (.inr (.inl ⟨rfl, p, dx, _, rfl, h, fun q hq => ?_⟩)))⟩
    have y := same_new (o := .met c.g3 p) hq
    have h' := y _ _ h
    have ho' := y _ _ ho
    have hl' := y _ _ hl
    have np : p ≠ l := ne_of h hl (by intro z; cases z)
    have nt : tr ≠ l := ne_of ho hl (by intro z; cases z)
    have n1 : tr ≠ p := ne_ins ho h (by intro z; simp at z)
    refine ⟨p, dx, _, .str k.label, tr, l, evs, rfl, h', rfl, rfl, ⟨⟨dt, ho'⟩, hl'⟩, hz, fun tt htt q2 hq2 => ?_⟩
    obtain ⟨fr, e1, e2⟩ := noted (o := .met c.g4 p) htt hl' hq2
    have e0 := fr _ _ h' np
    have n3 : tt ≠ p := (ne_of_none h' htt).symm
    refine ⟨p, dx, _, (a0 : Int), (k.f0 : Int), .str k.label, rfl, e0, by show 7 < 900; decide, rfl, rfl, rfl, fun e d hd => ?_, fun e q3 hq3 => ?_⟩
    · have y3 := same_new (o := .xd [("label", .str k.label)]) hd
      exact kf d _ (due_cf (by omega)) upd_same (.tf hw (y3 _ _ upd_same) h1 h2) ⟨fun b o e hb hbp => y3 _ _ (by rw [upd_ne hbp]; exact fr _ _ (y _ _ e) hb), _, ⟨⟨dt, y3 _ _ (by rw [upd_ne n1]; exact fr _ _ ho' nt)⟩, y3 _ _ (by rw [upd_ne np.symm]; exact e1)⟩, (fun z => by unfold Kn.traced at z; rw [hw] at z; cases z), fun _ => ⟨tt, rfl, y3 _ _ (by rw [upd_ne n3]; exact e2)⟩⟩
    · have y3 : Same _ (upd (upd (upd (upd (upd (upd H q (.met c.g3 p)) tt (.tup [.str "code", .str k.label])) l (.lst (evs ++ [.ref tt]))) q2 (.met c.g4 p)) p (.ins c.C4 dx (putF "_code_calls" (.int ((a0 : Int) + 1)) (fsT k a0 a1 tr)))) q3 (.met c.g5 p)) := same_new (o := .met c.g5 p) (by rw [upd_ne (ne_of_none e0 hq3).symm]; exact hq3)
      exact ⟨p, dx, _, .int _, rfl, y3 _ _ upd_same, (by rw [look_put (by decide +kernel)]; rfl), ky _ _ (by rw [due_c (fun z => e (by omega)), mod_one h1]) (.tf hw (y3 _ _ upd_same) h1 h2) ⟨fun b o e hb hbp => y3 _ _ (by rw [upd_ne hbp]; exact fr _ _ (y _ _ e) hb), _, ⟨⟨dt, y3 _ _ (by rw [upd_ne n1]; exact fr _ _ ho' nt)⟩, y3 _ _ (by rw [upd_ne np.symm]; exact e1)⟩, (fun z => by unfold Kn.traced at z; rw [hw] at z; cases z), fun _ => ⟨tt, rfl, y3 _ _ (by rw [upd_ne n3]; exact e2)⟩⟩⟩
  | @drift _ dx cd _ _ _ c0 hw h hc h2 h3 =>
    have n1 : tr ≠ p := ne_ins ho h (by intro z; simp at z)
    have n2 : l ≠ p := ne_of hl h (by intro z; cases z)
    have n3 : cd ≠ p := ne_of hc h (by intro z; cases z)
    have h0 : 0 < k.codes.length := List.length_pos_iff.mpr ok.cd
    have hlt := Nat.mod_lt a0 h0
    have hy : (k.codes.map fun c : Nat => V.int (c : Int))[a0 % (k.codes.map fun c : Nat => V.int (c : Int)).length]? = some (V.int ((k.codes.getD (a0 % k.codes.length) 0 : Nat) : Int)) := by
      rw [List.length_map, List.getElem?_map, List.getElem?_eq_getElem hlt, List.getD_eq_getElem?_getD, List.getElem?_eq_getElem hlt]
      rfl
    refine ⟨_, dx, _, h, rfl, .inr (.inr (.inr (.inr (.inl ⟨rfl, p, dx, _, a0, cd, _, _, rfl, h, by show 4 < 900; decide, rfl, rfl, hc, hy, ?_⟩))))⟩
    exact ky _ _ (due_c (by rw [h3.1]; exact n0)) (.drift hw upd_same (by rw [upd_ne n3]; exact hc) h2 h3) ⟨fun b o e _ hb => by rw [upd_ne hb]; exact e, evs, ⟨⟨dt, by rw [upd_ne n1]; exact ho⟩, by rw [upd_ne n2]; exact hl⟩, fun _ => rfl, fun z => by unfold Kn.traced at z; rw [hw] at z; cases z⟩
  | @lop _ dx an _ _ _ hw h hc h1 h2 h3 =>
    refine ⟨_, dx, _, h, rfl, .inr (.inr (.inr (.inr (.inr ⟨rfl, p, dx, _, rfl, h, fun q' hq' => ?_⟩))))⟩
    have y := same_new (o := .met c.g6 p) hq'
    exact ⟨p, dx, _, _, rfl, y _ _ h, rfl, ky _ _ (by rw [due_c (by rw [h3.1]; exact n0), mod_one h1]) (.lop hw (y _ _ h) (y _ _ hc) h1 h2 h3) ⟨fun b o e _ _ => y _ _ e, evs, ⟨⟨dt, y _ _ ho⟩, y _ _ hl⟩, fun _ => rfl, fun z => by unfold Kn.traced at z; rw [hw] at z; cases z⟩⟩
theorem match_core {c : Cl6} {tr l p : Addr} {H : Hp} {k : Kn} {a0 a1 : Nat} {evs : List V} {v : V} {lb : Option Str} {Qn : VK} {E : L2.XK} (h : KoC c tr H (.ref p) k a0 a1) (kv : KV K c.C1 H v (lb.map V.str)) (T : TrAt c.CT H tr l evs) (hz : evs.length ≤ 1000)
    (ky : ∀ y H', k.due (a1 + 1) true (decide (lb = some k.label)) = [y] → KoC c tr H' (.ref p) k a0 (a1 + 1) → Aft c.CT H H' tr l p evs k.traced [.str "matches", .str k.label, (lb.map V.str).getD v] → Qn y H')
    (kf : ∀ d H', k.due (a1 + 1) true (decide (lb = some k.label)) = [.str "matches", .str k.label] → H' d = some (.xd [("label", .str k.label)]) → KoC c tr H' (.ref p) k a0 (a1 + 1) → Aft c.CT H H' tr l p evs k.traced [.str "matches", .str k.label, (lb.map V.str).getD v] → E (.ref c.CM) (some d) H') :
    ∃ C dx fs, H p = some (.ins C dx fs) ∧ fs.lookup ("matches" : Str) = none ∧ MatchSays K c H p C v Qn E := by
  obtain ⟨⟨dt, ho⟩, hl⟩ := T
  have n0 : ∀ {n : Nat}, ¬ n + 1 = 0 := fun z => by omega
  have sl : ∀ a, same (lb.map V.str) a = decide (lb = some a) := fun a => same_lab lb a
  cases h with
  | @key _ dx _ _ _ hw h h1 h2 h3 =>
    refine ⟨_, dx, _, h, rfl, .inl ⟨rfl, p, dx, _, k.label, v, _, rfl, h, rfl, kv, strLab _, ?_⟩⟩
    rw [sl]
    exact ky _ _ (due_ms (by rw [h3.2]; exact n0) h2) (.key hw h h1 h2 h3) ⟨fun b o e _ _ => e, evs, ⟨⟨dt, ho⟩, hl⟩, fun _ => rfl, fun z => by unfold Kn.traced at z; rw [hw] at z; cases z⟩
  | @tr _ dx _ _ _ hw h h1 h2 h3 =>
    refine ⟨_, dx, _, h, rfl, .inr (.inl ⟨rfl, p, dx, _, .str k.label, tr, l, evs, v, _, rfl, h, rfl, rfl, ⟨⟨dt, ho⟩, hl⟩, hz, kv, fun tt htt q hq => ?_⟩)⟩
    obtain ⟨fr, e1, e2⟩ := noted (o := .met c.m1 p) htt hl hq
    have np : p ≠ l := ne_of h hl (by intro z; cases z)
    have nt : tr ≠ l := ne_of ho hl (by intro z; cases z)
    refine ⟨p, dx, _, k.label, v, _, rfl, fr _ _ h np, rfl, kv_noted htt hl hq kv, strLab _, ?_⟩
    rw [sl]
    exact ky _ _ (due_ms (by rw [h3.2]; exact n0) h2) (.tr hw (fr _ _ h np) h1 h2 h3) ⟨fun b o e hb _ => fr _ _ e hb, _, ⟨⟨dt, fr _ _ ho nt⟩, e1⟩, (fun z => by unfold Kn.traced at z; rw [hw] at z; cases z), fun _ => ⟨tt, rfl, e2⟩⟩
  | @fail _ dx _ _ _ hw h h1 h2 =>
    have n1 : tr ≠ p := ne_ins ho h (by intro z; simp at z)
    have n2 : l ≠ p := ne_of hl h (by intro z; cases z)
    refine ⟨_, dx, _, h, rfl, .inr (.inr (.inl ⟨rfl, p, dx, _, (a1 : Int), (k.f1 : Int), .str k.label, v, rfl, h, by show 6 < 900; decide, rfl, rfl, rfl, fun e d hd => ?_, fun e q hq => ?_⟩))⟩
    · have y := same_new (o := .xd [("label", .str k.label)]) hd
      exact kf d _ (due_mf (by omega)) upd_same (.fail hw (y _ _ upd_same) h1 h2) ⟨fun b o e _ hb => y _ _ (by rw [upd_ne hb]; exact e), evs, ⟨⟨dt, y _ _ (by rw [upd_ne n1]; exact ho)⟩, y _ _ (by rw [upd_ne n2]; exact hl)⟩, fun _ => rfl, fun z => by unfold Kn.traced at z; rw [hw] at z; cases z⟩
    · have npq : q ≠ p := (ne_of_none h hq).symm
      have y : Same _ (upd (upd H p (.ins c.C3 dx (putF "_match_calls" (.int ((a1 : Int) + 1)) (fsF k a0 a1)))) q (.met c.m2 p)) := same_new (o := .met c.m2 p) (by rw [upd_ne npq]; exact hq)
      have kv2 : KV K c.C1 (upd (upd H p (.ins c.C3 dx (putF "_match_calls" (.int ((a1 : Int) + 1)) [("label", .str k.label), ("_code", .int ((k.codes.getD 0 0 : Nat) : Int)), ("_code_at", .int (k.f0 : Int)), ("_match_at", .int (k.f1 : Int)), ("_code_calls", .int (a0 : Int)), ("_match_calls", .int (a1 : Int))]))) q (.met c.m2 p)) v (lb.map V.str) := KV.same y (kv.updI h (by rw [look_put (by decide +kernel)]))
      refine ⟨p, dx, _, k.label, v, _, rfl, y _ _ upd_same, (by rw [look_put (by decide +kernel)]; rfl), kv2, strLab _, ?_⟩
      rw [sl]
      exact ky _ _ (due_ms (fun z => e (by omega)) h2) (.fail hw (y _ _ upd_same) h1 h2) ⟨fun b o e _ hb => y _ _ (by rw [upd_ne hb]; exact e), evs, ⟨⟨dt, y _ _ (by rw [upd_ne n1]; exact ho)⟩, y _ _ (by rw [upd_ne n2]; exact hl)⟩, fun _ => rfl, fun z => by unfold Kn.traced at z; rw [hw] at z; cases z⟩
  | @tf _ dx _ _ _ hw h h1 h2 =>
    refine ⟨_, dx, _, h, rfl, .inr (.inr (.inr (.inl ⟨rfl, p, dx, _, v, rfl, h, fun q hq => ?_⟩)))⟩
    have y := same_new (o := .met c.m3 p) hq
    have h' := y _ _ h
    have ho' := y _ _ ho
    have hl' := y _ _ hl
    have np : p ≠ l := ne_of h hl (by intro z; cases z)
    have nt : tr ≠ l := ne_of ho hl (by intro z; cases z)
    have n1 : tr ≠ p := ne_ins ho h (by intro z; simp at z)
    refine ⟨p, dx, _, .str k.label, tr, l, evs, v, _, rfl, h', rfl, rfl, ⟨⟨dt, ho'⟩, hl'⟩, hz, kv.same y, fun tt htt q2 hq2 => ?_⟩
    obtain ⟨fr, e1, e2⟩ := noted (o := .met c.m4 p) htt hl' hq2
    have kv3 := kv_noted (o := .met c.m4 p) htt hl' hq2 (kv.same y)
    have e0 := fr _ _ h' np
    have n3 : tt ≠ p := (ne_of_none h' htt).symm
    refine ⟨p, dx, _, (a1 : Int), (k.f1 : Int), .str k.label, v, rfl, e0, by show 7 < 900; decide, rfl, rfl, rfl, fun e d hd => ?_, fun e q3 hq3 => ?_⟩
    · have y3 := same_new (o := .xd [("label", .str k.label)]) hd
      exact kf d _ (due_mf (by omega)) upd_same (.tf hw (y3 _ _ upd_same) h1 h2) ⟨fun b o e hb hbp => y3 _ _ (by rw [upd_ne hbp]; exact fr _ _ (y _ _ e) hb), _, ⟨⟨dt, y3 _ _ (by rw [upd_ne n1]; exact fr _ _ ho' nt)⟩, y3 _ _ (by rw [upd_ne np.symm]; exact e1)⟩, (fun z => by unfold Kn.traced at z; rw [hw] at z; cases z), fun _ => ⟨tt, rfl, y3 _ _ (by rw [upd_ne n3]; exact e2)⟩⟩
    · have y3 : Same _ (upd (upd (upd (upd (upd (upd H q (.met c.m3 p)) tt (.tup [.str "matches", .str k.label, (lb.map V.str).getD v])) l (.lst (evs ++ [.ref tt]))) q2 (.met c.m4 p)) p (.ins c.C4 dx (putF "_match_calls" (.int ((a1 : Int) + 1)) (fsT k a0 a1 tr)))) q3 (.met c.m5 p)) := same_new (o := .met c.m5 p) (by rw [upd_ne (ne_of_none e0 hq3).symm]; exact hq3)
      refine ⟨p, dx, _, k.label, v, _, rfl, y3 _ _ upd_same, (by rw [look_put (by decide +kernel)]; rfl), KV.same y3 (kv3.updI e0 (by rw [look_put (by decide +kernel)]; rfl)), strLab _, ?_⟩
      rw [sl]
      exact ky _ _ (due_ms (fun z => e (by omega)) h2) (.tf hw (y3 _ _ upd_same) h1 h2) ⟨fun b o e hb hbp => y3 _ _ (by rw [upd_ne hbp]; exact fr _ _ (y _ _ e) hb), _, ⟨⟨dt, y3 _ _ (by rw [upd_ne n1]; exact fr _ _ ho' nt)⟩, y3 _ _ (by rw [upd_ne np.symm]; exact e1)⟩, (fun z => by unfold Kn.traced at z; rw [hw] at z; cases z), fun _ => ⟨tt, rfl, y3 _ _ (by rw [upd_ne n3]; exact e2)⟩⟩
  | @drift _ dx cd _ _ _ c0 hw h hc h2 h3 =>
    refine ⟨_, dx, _, h, rfl, .inr (.inr (.inr (.inr (.inl ⟨rfl, p, dx, _, v, rfl, h, fun q' hq' => ?_⟩))))⟩
    have y := same_new (o := .met c.m6 p) hq'
    refine ⟨p, dx, _, k.label, v, _, rfl, y _ _ h, rfl, kv.same y, strLab _, ?_⟩
    rw [sl]
    exact ky _ _ (due_ms (by rw [h3.2]; exact n0) h2) (.drift hw (y _ _ h) (y _ _ hc) h2 h3) ⟨fun b o e _ _ => y _ _ e, evs, ⟨⟨dt, y _ _ ho⟩, y _ _ hl⟩, fun _ => rfl, fun z => by unfold Kn.traced at z; rw [hw] at z; cases z⟩
  | @lop _ dx an _ _ _ hw h hc h1 h2 h3 =>
    have n1 : tr ≠ p := ne_ins ho h (by intro z; simp at z)
    have n2 : l ≠ p := ne_of hl h (by intro z; cases z)
    have n3 : an ≠ p := ne_of hc h (by intro z; cases z)
    have h0 : 0 < k.ans.length := List.length_pos_iff.mpr h2
    have hlt := Nat.mod_lt a1 h0
    have hy : (k.ans.map V.bl)[a1 % (k.ans.map V.bl).length]? = some (V.bl (k.ans.getD (a1 % k.ans.length) false)) := by
      rw [List.length_map, List.getElem?_map, List.getElem?_eq_getElem hlt, List.getD_eq_getElem?_getD, List.getElem?_eq_getElem hlt]
      rfl
    refine ⟨_, dx, _, h, rfl, .inr (.inr (.inr (.inr (.inr ⟨rfl, p, dx, _, a1, an, _, v, _, rfl, h, by show 4 < 900; decide, rfl, rfl, hc, hy, ?_⟩))))⟩
    exact ky _ _ (due_ma (by rw [h3.2]; exact n0) h2) (.lop hw upd_same (by rw [upd_ne n3]; exact hc) h1 h2 h3) ⟨fun b o e _ hb => by rw [upd_ne hb]; exact e, evs, ⟨⟨dt, by rw [upd_ne n1]; exact ho⟩, by rw [upd_ne n2]; exact hl⟩, fun _ => rfl, fun z => by unfold Kn.traced at z; rw [hw] at z; cases z⟩
end
end K02
set_option Elab.async false
set_option linter.all false
set_option maxRecDepth 100000
set_option maxHeartbeats 4000000
namespace K02
open PySem L2 Xo Lm LamX
/-! data of flat values and tuples: what keys and events are made of -/
mutual
inductive Dt (H : Hp) : V → PyData → Prop
  | non : Dt H .non .none
  | bl (b : Bool) : Dt H (.bl b) (.bool b)
  | int (z : Int) : Dt H (.int z) (.int z)
  | str (x : Str) : Dt H (.str x) (.str x)
  | tup {a : Addr} {xs : List V} {ds : List PyData} (h : H a = some (.tup xs)) (r : Dts H xs ds) : Dt H (.ref a) (.tuple ds)
inductive Dts (H : Hp) : List V → List PyData → Prop
  | nil : Dts H [] []
  | cons {v : V} {vs : List V} {d : PyData} {ds : List PyData} (h : Dt H v d) (r : Dts H vs ds) : Dts H (v :: vs) (d :: ds)
end
/-- tuples stay -/
def TupK (H H' : Hp) : Prop := ∀ a xs, H a = some (.tup xs) → H' a = some (.tup xs)
theorem TupK.trans {H H1 H2 : Hp} (a : TupK H H1) (b : TupK H1 H2) : TupK H H2 := fun c xs e => b c xs (a c xs e)
theorem TupK.of {H H' : Hp} (s : Same H H') : TupK H H' := fun a xs e => s _ _ e
theorem TupK.ofE {H H' : Hp} (s : ExtN H H') : TupK H H' := fun a xs e => s _ _ e fun ps z => by cases z
theorem TupK.ofK {H H' : Hp} {s : Addr} (hs : ∃ kvs, H s = some (.dK kvs)) (k : KeptS H H' s) : TupK H H' := fun a xs e => by
  obtain ⟨kvs, e0⟩ := hs
  exact k _ _ e (ne_of e e0 (by intro z; cases z))
theorem TupK.upd {H : Hp} {a : Addr} {o o2 : HO} (h : H a = some o) (hn : ∀ xs, o ≠ .tup xs) : TupK H (upd H a o2) := fun b xs e => by
  rw [upd_ne]
  · exact e
  · rintro rfl
    rw [h] at e
    exact hn xs (Option.some.inj e)
mutual
theorem Dt.keep {H H' : Hp} (k : TupK H H') : ∀ {v : V} {d : PyData}, Dt H v d → Dt H' v d
  | _, _, .non => .non
  | _, _, .bl b => .bl b
  | _, _, .int z => .int z
  | _, _, .str x => .str x
  | _, _, .tup h r => .tup (k _ _ h) (r.keep k)
theorem Dts.keep {H H' : Hp} (k : TupK H H') : ∀ {vs : List V} {ds : List PyData}, Dts H vs ds → Dts H' vs ds
  | _, _, .nil => .nil
  | _, _, .cons h r => .cons (h.keep k) (r.keep k)
end
mutual
theorem Dt.dp {K : PySem.W.Frag} {H : Hp} : ∀ {v : V} {d : PyData}, Dt H v d → Dp K H v d
  | _, _, .non => .non
  | _, _, .bl b => .bl b
  | _, _, .int z => .int z
  | _, _, .str x => .str x
  | _, _, .tup h r => .tup (SqT.of h) r.dp
theorem Dts.dp {K : PySem.W.Frag} {H : Hp} : ∀ {vs : List V} {ds : List PyData}, Dts H vs ds → DpAll K H vs ds
  | _, _, .nil => .nil
  | _, _, .cons h r => .cons h.dp r.dp
end
theorem Dts.app {H : Hp} {v : V} {d : PyData} : ∀ {vs : List V} {ds : List PyData}, Dts H vs ds → Dt H v d → Dts H (vs ++ [v]) (ds ++ [d])
  | _, _, .nil, h => .cons h .nil
  | _, _, .cons h0 r, h => .cons h0 (r.app h)
/-- events as data, not deep -/
def EvD (H : Hp) (evs : List V) (ds : List PyData) : Prop := Dts H evs ds ∧ PyData.canLayAll0 ds = true ∧ PyData.depthAll ds ≤ 6 ∧ ∀ v ∈ evs, ∃ a, v = V.ref a
theorem EvD.keep {H H' : Hp} {evs : List V} {ds : List PyData} (k : TupK H H') (h : EvD H evs ds) : EvD H' evs ds := ⟨h.1.keep k, h.2⟩
theorem EvD.shaped {H : Hp} {evs : List V} {ds : List PyData} (h : EvD H evs ds) : SeqAt.shaped (.list ds) = true := by
  unfold SeqAt.shaped
  rw [PyData.canLay0, h.2.1, PyData.depth, Bool.true_and, decide_eq_true_iff]
  have := h.2.2.1
  omega
theorem lay_app : ∀ (ds : List PyData) (d : PyData), PyData.canLayAll0 ds = true → PyData.depthAll ds ≤ 6 → PyData.canLay0 d = true → PyData.depth d ≤ 6 → PyData.canLayAll0 (ds ++ [d]) = true ∧ PyData.depthAll (ds ++ [d]) ≤ 6
  | [], d, _, _, h3, h4 => by
    rw [List.nil_append, PyData.canLayAll0, PyData.depthAll, h3]
    exact ⟨by simp [PyData.canLayAll0], by simp [PyData.depthAll]; exact h4⟩
  | e :: ds, d, h1, h2, h3, h4 => by
    rw [PyData.canLayAll0, Bool.and_eq_true] at h1
    rw [PyData.depthAll] at h2
    obtain ⟨q1, q2⟩ := lay_app ds d h1.2 (by omega) h3 h4
    rw [List.cons_append, PyData.canLayAll0, PyData.depthAll, h1.1, q1]
    exact ⟨rfl, by omega⟩
theorem EvD.app {H : Hp} {evs : List V} {ds : List PyData} {a : Addr} {d : PyData} (h : EvD H evs ds) (hv : Dt H (.ref a) d) (h3 : PyData.canLay0 d = true) (h4 : PyData.depth d ≤ 6) : EvD H (evs ++ [.ref a]) (ds ++ [d]) := by
  obtain ⟨q1, q2⟩ := lay_app ds d h.2.1 h.2.2.1 h3 h4
  refine ⟨h.1.app hv, q1, q2, fun v hv2 => ?_⟩
  rcases List.mem_append.mp hv2 with z | z
  · exact h.2.2.2 v z
  · exact ⟨a, List.mem_singleton.mp z⟩
theorem EvD.lstne {H : Hp} {evs : List V} {ds : List PyData} {r l : Addr} {x : V} {xs : List V} (h : EvD H evs ds) (hl : H l = some (.lst evs)) (hr : H r = some (.lst (x :: xs))) (hx : ∀ a, x ≠ .ref a) : r ≠ l := by
  rintro rfl
  rw [hl] at hr
  have e : evs = x :: xs := HO.lst.inj (Option.some.inj hr)
  obtain ⟨a, ha⟩ := h.2.2.2 x (by rw [e]; exact List.mem_cons_self ..)
  exact hx a ha
theorem lst_ne {H : Hp} {r l : Addr} {xs ys : List V} (hl : H l = some (.lst xs)) (hr : H r = some (.lst ys)) (hx : xs.length ≠ ys.length) : r ≠ l := by
  rintro rfl
  rw [hl] at hr
  have e : xs = ys := HO.lst.inj (Option.some.inj hr)
  exact hx (by rw [e])
/-! ### what the law has drawn -/
structure Ad where
  (s tr l eL sL cL : Addr)
  (p r T c : Nat → Addr)
structure Stat (A : Ad) (ks : Nat → Kn) (H : Hp) : Prop where
  sl : H A.sL = some (.lst [.ref (A.T 0), .ref (A.T 1), .ref (A.T 2)])
  cl : H A.cL = some (.lst [.ref (A.c 0), .ref (A.c 1), .ref (A.c 2)])
  tup : ∀ j, j < 3 → H (A.T j) = some (.tup [.ref (A.p j), .ref (A.r j)])
  kn : ∀ j, j < 3 → KnAt H (A.r j) (ks j)
def Fx (A : Ad) (H H' : Hp) : Prop := ∀ b o, H b = some o → b ≠ A.s → b ≠ A.l → b ≠ A.eL → (∀ j, j < 3 → b ≠ A.p j) → (∀ j, j < 3 → b ≠ A.c j) → (∀ ps, o ≠ .tbl ps) → H' b = some o
theorem Fx.trans {A : Ad} {H H1 H2 : Hp} (a : Fx A H H1) (b : Fx A H1 H2) : Fx A H H2 := fun x o e h1 h2 h3 h4 h5 n => b x o (a x o e h1 h2 h3 h4 h5 n) h1 h2 h3 h4 h5 n
theorem Fx.ofS {A : Ad} {H H1 : Hp} (a : Same H H1) : Fx A H H1 := fun x o e _ _ _ _ _ _ => a x o e
theorem Fx.ofK {A : Ad} {H H1 : Hp} (a : KeptS H H1 A.s) : Fx A H H1 := fun x o e h _ _ _ _ _ => a x o e h
theorem Fx.ofE {A : Ad} {H H1 : Hp} (a : ExtN H H1) : Fx A H H1 := fun x o e _ _ _ _ _ n => a x o e n
/-- nothing but a table was there -/
def Nt (H : Hp) (x : Addr) : Prop := ∀ o, H x = some o → ∃ ps, o = .tbl ps
theorem Nt.ne {H : Hp} {x b : Addr} {o : HO} (h : Nt H x) (e : H b = some o) (n : ∀ ps, o ≠ .tbl ps) : b ≠ x := by
  rintro rfl
  obtain ⟨ps, z⟩ := h _ e
  exact n ps z
theorem Nt.of {H H1 : Hp} {x : Addr} (e : ExtN H H1) (h : H1 x = none) : Nt H x := fun o z => by
  by_cases ht : ∃ ps, o = .tbl ps
  · exact ht
  · rw [e _ _ z fun ps e => ht ⟨ps, e⟩] at h
    cases h
structure Cyc (c : Cl6) (TT : List (Addr × Str)) (Hq : Hp) (A : Ad) (ks : Nat → Kn) (H : Hp) (n m : Nat) : Prop where
  src : Src H A.s n
  new : Nt Hq A.s ∧ Nt Hq A.l ∧ Nt Hq A.eL ∧ ∀ j, j < 3 → Nt Hq (A.p j) ∧ Nt Hq (A.c j)
  ext : ExtN Hq H
  ts : Tabs TT H
  st : Stat A ks H
  ok : ∀ j, j < 3 → (ks j).Ok
  ko : ∀ j, j < 3 → ∃ a0 a1 : Nat, KoC c A.tr H (.ref (A.p j)) (ks j) a0 a1 ∧ H (A.c j) = some (.lst [.int (a0 : Int), .int (a1 : Int)])
  pne : ∀ i j, i < 3 → j < 3 → i ≠ j → A.p i ≠ A.p j
  cne : ∀ i j, i < 3 → j < 3 → i ≠ j → A.c i ≠ A.c j
  ne : A.sL ≠ A.l ∧ A.sL ≠ A.eL ∧ A.cL ≠ A.l ∧ A.cL ≠ A.eL ∧ A.l ≠ A.eL
  ev : ∃ evs evs2 ds, TrAt c.CT H A.tr A.l evs ∧ H A.eL = some (.lst evs2) ∧ EvD H evs ds ∧ EvD H evs2 ds ∧ evs.length ≤ m ∧ evs2.length ≤ m
theorem ko_ins {c : Cl6} {tr : Addr} {H : Hp} {p : Addr} {k : Kn} {a0 a1 : Nat} (h : KoC c tr H (.ref p) k a0 a1) : ∃ C dx fs, H p = some (.ins C dx fs) ∧ fs.lookup ("label" : Str) = some (.str k.label) := by
  cases h with
  | key hw h h1 h2 h3 => exact ⟨_, _, _, h, rfl⟩
  | tr hw h h1 h2 h3 => exact ⟨_, _, _, h, rfl⟩
  | fail hw h h1 h2 => exact ⟨_, _, _, h, rfl⟩
  | tf hw h h1 h2 => exact ⟨_, _, _, h, rfl⟩
  | drift hw h hc h2 h3 => exact ⟨_, _, _, h, rfl⟩
  | lop hw h hc h1 h2 h3 => exact ⟨_, _, _, h, rfl⟩
theorem ko_keep {c : Cl6} {tr : Addr} {H H' : Hp} {p : Addr} {k : Kn} {a0 a1 : Nat} (h : KoC c tr H (.ref p) k a0 a1) (hp : ∀ o, H p = some o → H' p = some o) (ht : TupK H H') : KoC c tr H' (.ref p) k a0 a1 := by
  cases h with
  | key hw h h1 h2 h3 => exact .key hw (hp _ h) h1 h2 h3
  | tr hw h h1 h2 h3 => exact .tr hw (hp _ h) h1 h2 h3
  | fail hw h h1 h2 => exact .fail hw (hp _ h) h1 h2
  | tf hw h h1 h2 => exact .tf hw (hp _ h) h1 h2
  | drift hw h hc h2 h3 => exact .drift hw (hp _ h) (ht _ _ hc) h2 h3
  | lop hw h hc h1 h2 h3 => exact .lop hw (hp _ h) (ht _ _ hc) h1 h2 h3
section
variable {c : Cl6} {TT : List (Addr × Str)} {Hq H H' : Hp} {A : Ad} {ks : Nat → Kn} {n m : Nat}
theorem Cyc.tupk (C : Cyc c TT Hq A ks H n m) (f : Fx A H H') : TupK H H' := fun b xs e => by
  obtain ⟨evs, evs2, ds, h1, h2, _⟩ := C.ev
  obtain ⟨kvs, e0⟩ := C.src.at
  refine f _ _ e (ne_of e e0 (by intro z; cases z)) (ne_of e h1.ls (by intro z; cases z)) (ne_of e h2 (by intro z; cases z)) (fun j hj => ?_) (fun j hj => ?_) (fun ps z => by cases z)
  · obtain ⟨a0, a1, k1, k2⟩ := C.ko j hj
    obtain ⟨C', dx, fs, hp, _⟩ := ko_ins k1
    exact ne_of e hp (by intro z; cases z)
  · obtain ⟨a0, a1, k1, k2⟩ := C.ko j hj
    exact ne_of e k2 (by intro z; cases z)
/-- a list of the law's that stays -/
theorem Cyc.lst (C : Cyc c TT Hq A ks H n m) (f : Fx A H H') {b : Addr} {xs : List V} (e : H b = some (.lst xs)) (h1 : b ≠ A.l) (h2 : b ≠ A.eL) (h3 : ∀ j, j < 3 → b ≠ A.c j) : H' b = some (.lst xs) := by
  obtain ⟨kvs, e0⟩ := C.src.at
  refine f _ _ e (ne_of e e0 (by intro z; cases z)) h1 h2 (fun j hj => ?_) h3 (fun ps z => by cases z)
  obtain ⟨a0, a1, k1, k2⟩ := C.ko j hj
  obtain ⟨C', dx, fs, hp, _⟩ := ko_ins k1
  exact ne_of e hp (by intro z; cases z)
theorem Cyc.stat (C : Cyc c TT Hq A ks H n m) (f : Fx A H H') : Stat A ks H' := by
  obtain ⟨evs, evs2, ds, h1, h2, h3, h4, _⟩ := C.ev
  have cj : ∀ {b : Addr} {xs : List V}, H b = some (.lst xs) → xs.length ≠ 2 → ∀ j, j < 3 → b ≠ A.c j := fun e hx j hj => by
    obtain ⟨a0, a1, k1, k2⟩ := C.ko j hj
    exact lst_ne k2 e (fun z => hx z.symm)
  refine ⟨C.lst f C.st.sl C.ne.1 C.ne.2.1 (cj C.st.sl (by intro z; simp at z)), C.lst f C.st.cl C.ne.2.2.1 C.ne.2.2.2.1 (cj C.st.cl (by intro z; simp at z)), fun j hj => C.tupk f _ _ (C.st.tup j hj), fun j hj => ?_⟩
  obtain ⟨cd, an, fl, e1, e2, e3, e4⟩ := (C.st.kn j hj).ex
  exact ⟨cd, an, fl, C.lst f e1 (h3.lstne h1.ls e1 (fun a z => by cases z)) (h4.lstne h2 e1 (fun a z => by cases z)) (cj e1 (by intro z; simp at z)), C.tupk f _ _ e2, C.tupk f _ _ e3, C.tupk f _ _ e4⟩
theorem Cyc.tr_ne (C : Cyc c TT Hq A ks H n m) : ∃ dx evs, H A.tr = some (.ins c.CT dx [("_events", .ref A.l)]) ∧ H A.l = some (.lst evs) ∧ ∀ j, j < 3 → A.tr ≠ A.p j := by
  obtain ⟨evs, evs2, ds, ⟨⟨dx, ho⟩, hl⟩, _⟩ := C.ev
  refine ⟨dx, evs, ho, hl, fun j hj => ?_⟩
  obtain ⟨a0, a1, k1, k2⟩ := C.ko j hj
  cases k1 with
  | key hw h h1 h2 h3 => exact ne_ins ho h (by intro z; simp at z)
  | tr hw h h1 h2 h3 => exact ne_ins ho h (by intro z; simp at z)
  | fail hw h h1 h2 => exact ne_ins ho h (by intro z; simp at z)
  | tf hw h h1 h2 => exact ne_ins ho h (by intro z; simp at z)
  | drift hw h hc h2 h3 => exact ne_ins ho h (by intro z; simp at z)
  | lop hw h hc h1 h2 h3 => exact ne_ins ho h (by intro z; simp at z)
theorem Cyc.c_ne (C : Cyc c TT Hq A ks H n m) {i : Nat} (hi : i < 3) : A.c i ≠ A.l ∧ A.c i ≠ A.eL ∧ A.c i ≠ A.s := by
  obtain ⟨evs, evs2, ds, h1, h2, h3, h4, h5, h6⟩ := C.ev
  obtain ⟨a0, a1, k1, k2⟩ := C.ko i hi
  obtain ⟨kvs, e0⟩ := C.src.at
  exact ⟨h3.lstne h1.ls k2 (fun a z => by cases z), h4.lstne h2 k2 (fun a z => by cases z), ne_of k2 e0 (by intro z; cases z)⟩
theorem Cyc.p_ne (C : Cyc c TT Hq A ks H n m) {i : Nat} (hi : i < 3) : A.p i ≠ A.l ∧ A.p i ≠ A.eL ∧ A.p i ≠ A.s ∧ ∀ j, j < 3 → A.p i ≠ A.c j := by
  obtain ⟨evs, evs2, ds, h1, h2, h3, h4, h5, h6⟩ := C.ev
  obtain ⟨a0, a1, k1, k2⟩ := C.ko i hi
  obtain ⟨Cp, dx, fs, hp, _⟩ := ko_ins k1
  obtain ⟨kvs, e0⟩ := C.src.at
  refine ⟨ne_of hp h1.ls (by intro z; cases z), ne_of hp h2 (by intro z; cases z), ne_of hp e0 (by intro z; cases z), fun j hj => ?_⟩
  obtain ⟨b0, b1, q1, q2⟩ := C.ko j hj
  exact ne_of hp q2 (by intro z; cases z)
/-- behind a step that changes none of the keys' objects, lists and the events -/
theorem Cyc.same (C : Cyc c TT Hq A ks H n m) (y : Same H H') : Cyc c TT Hq A ks H' n m := by
  obtain ⟨evs, evs2, ds, h1, h2, h3, h4, h5, h6⟩ := C.ev
  refine ⟨C.src.same y, C.new, fun b o e z => y _ _ (C.ext b o e z), C.ts.ext y, C.stat (.ofS y), C.ok, fun j hj => ?_, C.pne, C.cne, C.ne, evs, evs2, ds, h1.same y, y _ _ h2, h3.keep (.of y), h4.keep (.of y), h5, h6⟩
  obtain ⟨a0, a1, k1, k2⟩ := C.ko j hj
  exact ⟨a0, a1, k1.same y, y _ _ k2⟩
theorem Cyc.extN (C : Cyc c TT Hq A ks H n m) (y : ExtN H H') (ht : Tabs TT H') : Cyc c TT Hq A ks H' n m := by
  obtain ⟨evs, evs2, ds, h1, h2, h3, h4, h5, h6⟩ := C.ev
  have tk : TupK H H' := C.tupk (.ofE y)
  refine ⟨C.src.ext y, C.new, fun b o e z => y _ _ (C.ext b o e z) z, ht, C.stat (.ofE y), C.ok, fun j hj => ?_, C.pne, C.cne, C.ne, evs, evs2, ds, ⟨⟨h1.ob.choose, y _ _ h1.ob.choose_spec fun ps z => by cases z⟩, y _ _ h1.ls (fun ps z => by cases z)⟩, y _ _ h2 (fun ps z => by cases z), h3.keep tk, h4.keep tk, h5, h6⟩
  obtain ⟨a0, a1, k1, k2⟩ := C.ko j hj
  obtain ⟨C', dx, fs, hp, _⟩ := ko_ins k1
  exact ⟨a0, a1, ko_keep k1 (fun o e => y _ _ e fun ps z => by rw [hp] at e; rw [z] at e; cases e) tk, y _ _ k2 fun ps z => by cases z⟩
theorem Cyc.kept {n2 : Nat} (C : Cyc c TT Hq A ks H n m) (y : KeptS H H' A.s) (hs : Src H' A.s n2) : Cyc c TT Hq A ks H' n2 m := by
  obtain ⟨evs, evs2, ds, h1, h2, h3, h4, h5, h6⟩ := C.ev
  obtain ⟨kvs, e0⟩ := C.src.at
  have tk : TupK H H' := C.tupk (.ofK y)
  refine ⟨hs, C.new, fun b o e z => y _ _ (C.ext b o e z) (C.new.1.ne e z), tabS C.src C.ts y, C.stat (.ofK y), C.ok, fun j hj => ?_, C.pne, C.cne, C.ne, evs, evs2, ds, ⟨⟨h1.ob.choose, y _ _ h1.ob.choose_spec (ne_of h1.ob.choose_spec e0 (by intro z; cases z))⟩, y _ _ h1.ls (ne_of h1.ls e0 (by intro z; cases z))⟩, y _ _ h2 (ne_of h2 e0 (by intro z; cases z)), h3.keep tk, h4.keep tk, h5, h6⟩
  obtain ⟨a0, a1, k1, k2⟩ := C.ko j hj
  obtain ⟨C', dx, fs, hp, _⟩ := ko_ins k1
  exact ⟨a0, a1, ko_keep k1 (fun o e => y _ _ e (ne_of hp e0 (by intro z; cases z))) tk, y _ _ k2 (ne_of k2 e0 (by intro z; cases z))⟩
end
end K02
set_option Elab.async false
set_option linter.all false
set_option maxRecDepth 100000
set_option maxHeartbeats 4000000
namespace K02
open PySem L2 Xo Lm LamX
abbrev sLaw : Stmt := top 37
abbrev NL : List Str := ["script", "k", "cell", "state", "trace", "events", "some", "counts", "turn", "number", "far", "asked", "key", "known", "other", "facts", "told", "found", "j"]
theorem scLaw : FnScope NL ["script"] (defScope sLaw) := ⟨rfl, rfl, rfl, by decide +kernel, rfl, by decide +kernel, by decide +kernel⟩
abbrev bLaw : List Stmt := forBody ((defBody sLaw).getD 0 (.Pass ⟨0, 0, 0, 0⟩))
abbrev bIn : List Stmt := forBody (bLaw.getD 3 (.Pass ⟨0, 0, 0, 0⟩))
abbrev bFin : List Stmt := forBody (bLaw.getD 5 (.Pass ⟨0, 0, 0, 0⟩))
section
variable {P : Program} {w : World} {K : PySem.W.Frag} {mg : Str → Option Value} {base : Heap}
/-- a class of keys with its two methods -/
structure KMs (P : Program) (w : World) (K : PySem.W.Frag) (mg : Str → Option Value) (base : Heap) (C C1 : Addr) (k : Nat) (spc spm : Sp) : Prop where
  ki : KIns K C C1
  cd : ∃ f fd, Meth K C "code" f ∧ Binds K fd ["self"] [] ∧ FnOk P w K mg base (L2.CX P w) k f fd ["self"] spc
  mt : ∃ f fd, Meth K C "matches" f ∧ Binds K fd ["self", "other"] [] ∧ FnOk P w K mg base (L2.CX P w) k f fd ["self", "other"] spm
structure Ks6 (P : Program) (w : World) (K : PySem.W.Frag) (mg : Str → Option Value) (base : Heap) (c : Cl6) : Prop where
  M1 : KMs P w K mg base c.C1 c.C1 7 (spKC c.C1) (spKM K c.C1 c.C1)
  M2 : KMs P w K mg base c.C2 c.C1 7 (spTC K c.C2 c.CT c.g1 (spKC c.C2)) (spTM K c.C2 c.C1 c.CT c.m1 (spKM K c.C2 c.C1))
  M3 : KMs P w K mg base c.C3 c.C1 7 (spFC K c.C3 c.CF c.g2 (spKC c.C3)) (spFM K c.C3 c.CM c.m2 (spKM K c.C3 c.C1))
  M4 : KMs P w K mg base c.C4 c.C1 7 (spS1 c.C4 c.g3 (spTC K c.C4 c.CT c.g4 (spFC K c.C4 c.CF c.g5 (spKC c.C4)))) (spS2 c.C4 c.m3 (spTM K c.C4 c.C1 c.CT c.m4 (spFM K c.C4 c.CM c.m5 (spKM K c.C4 c.C1))))
  MD : KMs P w K mg base c.CD c.C1 7 (spDCo c.CD) (spS2 c.CD c.m6 (spKM K c.CD c.C1))
  ML : KMs P w K mg base c.CL c.C1 7 (spS1 c.CL c.g6 (spKC c.CL)) (spLM c.CL)
theorem ko_kv {c : Cl6} {tr : Addr} {H : Hp} {p : Addr} {k : Kn} {a0 a1 : Nat} (M : Ks6 P w K mg base c) (h : KoC c tr H (.ref p) k a0 a1) : KV K c.C1 H (.ref p) (some (.str k.label)) := by
  cases h with
  | key hw h h1 h2 h3 => exact .key h M.M1.ki rfl
  | tr hw h h1 h2 h3 => exact .key h M.M2.ki rfl
  | fail hw h h1 h2 => exact .key h M.M3.ki rfl
  | tf hw h h1 h2 => exact .key h M.M4.ki rfl
  | drift hw h hc h2 h3 => exact .key h M.MD.ki rfl
  | lop hw h hc h1 h2 h3 => exact .key h M.ML.ki rfl
theorem ko_cls {c : Cl6} {tr : Addr} {H : Hp} {p : Addr} {k : Kn} {a0 a1 : Nat} (M : Ks6 P w K mg base c) (h : KoC c tr H (.ref p) k a0 a1) : ∃ C dx fs, H p = some (.ins C dx fs) ∧ fs.lookup ("label" : Str) = some (.str k.label) ∧ KIns K C c.C1 := by
  cases h with
  | key hw h h1 h2 h3 => exact ⟨_, _, _, h, rfl, M.M1.ki⟩
  | tr hw h h1 h2 h3 => exact ⟨_, _, _, h, rfl, M.M2.ki⟩
  | fail hw h h1 h2 => exact ⟨_, _, _, h, rfl, M.M3.ki⟩
  | tf hw h h1 h2 => exact ⟨_, _, _, h, rfl, M.M4.ki⟩
  | drift hw h hc h2 h3 => exact ⟨_, _, _, h, rfl, M.MD.ki⟩
  | lop hw h hc h1 h2 h3 => exact ⟨_, _, _, h, rfl, M.ML.ki⟩
/-- within a turn -/
structure Mid (c : Cl6) (TT : List (Addr × Str)) (Hq : Hp) (A : Ad) (ks : Nat → Kn) (H0 : Hp) (n m j k0 k1 c0 c1 : Nat) (evs evs2 : List V) (H : Hp) : Prop where
  C : Cyc c TT Hq A ks H0 n m
  hj : j < 3
  fx : Fx A H0 H
  src : Src H A.s n
  ts : Tabs TT H
  kj : KoC c A.tr H (.ref (A.p j)) (ks j) k0 k1
  cj : H (A.c j) = some (.lst [.int (c0 : Int), .int (c1 : Int)])
  oth : ∀ i, i < 3 → i ≠ j → (∀ o, H0 (A.p i) = some o → H (A.p i) = some o) ∧ (∀ o, H0 (A.c i) = some o → H (A.c i) = some o)
  tr : TrAt c.CT H A.tr A.l evs
  el : H A.eL = some (.lst evs2)
section
variable {c : Cl6} {TT : List (Addr × Str)} {Hq H0 H H' : Hp} {A : Ad} {ks : Nat → Kn} {n m j k0 k1 c0 c1 : Nat} {evs evs2 : List V}
theorem Mid.ko (M : Mid c TT Hq A ks H0 n m j k0 k1 c0 c1 evs evs2 H) : ∀ i, i < 3 → ∃ a0 a1 : Nat, KoC c A.tr H (.ref (A.p i)) (ks i) a0 a1 ∧ (i ≠ j → H (A.c i) = some (.lst [.int (a0 : Int), .int (a1 : Int)])) := fun i hi => by
  by_cases e : i = j
  · subst e
    exact ⟨k0, k1, M.kj, fun z => absurd rfl z⟩
  · obtain ⟨a0, a1, h1, h2⟩ := M.C.ko i hi
    obtain ⟨q1, q2⟩ := M.oth i hi e
    exact ⟨a0, a1, ko_keep h1 q1 (M.C.tupk M.fx), fun _ => q2 _ h2⟩
theorem Mid.extN (M : Mid c TT Hq A ks H0 n m j k0 k1 c0 c1 evs evs2 H) (y : ExtN H H') (ht : Tabs TT H') : Mid c TT Hq A ks H0 n m j k0 k1 c0 c1 evs evs2 H' := by
  obtain ⟨C', dx, fs, hp, _⟩ := ko_ins M.kj
  refine ⟨M.C, M.hj, M.fx.trans (.ofE y), M.src.ext y, ht, ko_keep M.kj (fun o e => y _ _ e fun ps z => by rw [hp] at e; rw [z] at e; cases e) (.ofE y), y _ _ M.cj (fun ps z => by cases z), fun i hi hne => ?_, ⟨⟨M.tr.ob.choose, y _ _ M.tr.ob.choose_spec fun ps z => by cases z⟩, y _ _ M.tr.ls fun ps z => by cases z⟩, y _ _ M.el fun ps z => by cases z⟩
  obtain ⟨q1, q2⟩ := M.oth i hi hne
  obtain ⟨a0, a1, h1, h2⟩ := M.C.ko i hi
  obtain ⟨C2, dx2, fs2, hp2, _⟩ := ko_ins h1
  exact ⟨fun o e => y _ _ (q1 _ e) (fun ps z => by rw [hp2, z] at e; cases e), fun o e => y _ _ (q2 _ e) (fun ps z => by rw [h2, z] at e; cases e)⟩
theorem Mid.same (M : Mid c TT Hq A ks H0 n m j k0 k1 c0 c1 evs evs2 H) (y : Same H H') : Mid c TT Hq A ks H0 n m j k0 k1 c0 c1 evs evs2 H' := M.extN (.of y) (M.ts.ext y)
/-- the turn's end -/
theorem Mid.done (M : Mid c TT Hq A ks H0 n m j k0 k1 k0 k1 evs evs2 H) {ds : List PyData} (h1 : EvD H evs ds) (h2 : EvD H evs2 ds) (h3 : evs.length ≤ m + 1) (h4 : evs2.length ≤ m + 1) : Cyc c TT Hq A ks H n (m + 1) := by
  refine ⟨M.src, M.C.new, fun b o e z => ?_, M.ts, M.C.stat M.fx, M.C.ok, fun i hi => ?_, M.C.pne, M.C.cne, M.C.ne, evs, evs2, ds, M.tr, M.el, h1, h2, h3, h4⟩
  · obtain ⟨n1, n2, n3, n4⟩ := M.C.new
    exact M.fx b o (M.C.ext b o e z) (n1.ne e z) (n2.ne e z) (n3.ne e z) (fun i hi => (n4 i hi).1.ne e z) (fun i hi => (n4 i hi).2.ne e z) z
  · by_cases e : i = j
    · subst e
      exact ⟨k0, k1, M.kj, M.cj⟩
    · obtain ⟨a0, a1, q1, q2⟩ := M.ko i hi
      exact ⟨a0, a1, q1, q2 e⟩
end
/-- the other one that is asked about -/
def Oth (A : Ad) (ks : Nat → Kn) (vo : V) (lb : Option Str) (x : V) : Prop := (∃ i, i < 3 ∧ vo = .ref (A.p i) ∧ lb = some (ks i).label ∧ x = .str (ks i).label) ∨ (lb = none ∧ x = vo ∧ (vo = .str "a" ∨ vo = .int 5))
theorem Oth.x {A : Ad} {ks : Nat → Kn} {vo x : V} {lb : Option Str} (h : Oth A ks vo lb x) : (lb.map V.str).getD vo = x := by
  rcases h with ⟨i, _, rfl, rfl, rfl⟩ | ⟨rfl, rfl, _⟩ <;> rfl
theorem Oth.dt {A : Ad} {ks : Nat → Kn} {vo x : V} {lb : Option Str} (h : Oth A ks vo lb x) (ok : ∀ j, j < 3 → (ks j).Ok) : ∃ d, (∀ H, Dt H x d) ∧ PyData.canLay0 d = true ∧ PyData.depth d = 0 := by
  rcases h with ⟨i, hi, rfl, rfl, rfl⟩ | ⟨rfl, rfl, rfl | rfl⟩
  · exact ⟨.str (ks i).label, fun _ => .str _, by simp [PyData.canLay0, (ok i hi).st.1], by simp [PyData.depth]⟩
  · exact ⟨.str "a", fun _ => .str _, by decide +kernel, by simp [PyData.depth]⟩
  · exact ⟨.int 5, fun _ => .int _, by decide +kernel, by simp [PyData.depth]⟩
theorem Oth.kv {c : Cl6} {A : Ad} {ks : Nat → Kn} {H : Hp} {vo x : V} {lb : Option Str} (h : Oth A ks vo lb x) (M : Ks6 P w K mg base c) (ko : ∀ i, i < 3 → ∃ a0 a1 : Nat, KoC c A.tr H (.ref (A.p i)) (ks i) a0 a1) : KV K c.C1 H vo (lb.map V.str) := by
  rcases h with ⟨i, hi, rfl, rfl, rfl⟩ | ⟨rfl, rfl, rfl | rfl⟩
  · obtain ⟨a0, a1, k⟩ := ko i hi
    exact ko_kv M k
  · exact .plain (.str _ (by decide +kernel))
  · exact .plain (.int _)
/-- the event of a call -/
def evL (k : Kn) (m : Bool) (x : V) : List V := if m = true then [.str "matches", .str k.label, x] else [.str "code", .str k.label]
theorem ev_dt {A : Ad} {ks : Nat → Kn} {vo x : V} {lb : Option Str} {k : Kn} (h : Oth A ks vo lb x) (ok : ∀ j, j < 3 → (ks j).Ok) (hk : k.Ok) (m : Bool) : ∃ d, (∀ H t, H t = some (.tup (evL k m x)) → Dt H (.ref t) d) ∧ PyData.canLay0 d = true ∧ PyData.depth d ≤ 6 := by
  obtain ⟨dx, q1, q2, q3⟩ := h.dt ok
  have hs := hk.st.1
  cases m with
  | false => exact ⟨.tuple [.str "code", .str k.label], fun H t e => .tup e (.cons (.str _) (.cons (.str _) .nil)), by simp [PyData.canLay0, PyData.canLayAll0, hs]; decide +kernel, by simp [PyData.depth, PyData.depthAll]⟩
  | true => exact ⟨.tuple [.str "matches", .str k.label, dx], fun H t e => .tup e (.cons (.str _) (.cons (.str _) (.cons (q1 _) .nil))), by simp [PyData.canLay0, PyData.canLayAll0, hs, q2]; decide +kernel, by simp [PyData.depth, PyData.depthAll, q3]⟩
/-- what is due, as data -/
def Kn.dueD (k : Kn) (turn : Nat) (m : Bool) (same : Bool) : List PyData :=
  if turn = (if m = true then k.f1 else k.f0) then [.str (if m = true then "matches" else "code"), .str k.label]
  else if m = false then [.int ((k.codes.getD ((turn - 1) % k.codes.length) 0 : Nat) : Int)]
  else if k.ans.isEmpty = false then [.bool (k.ans.getD ((turn - 1) % k.ans.length) false)]
  else [.bool same]
theorem sh_lab {a : Str} (h : LabOk a) : Rp.Sh 20 0 (.str a) := by
  rcases List.mem_cons.mp h.2 with rfl | h2
  · exact ⟨by decide +kernel, by decide +kernel, by decide +kernel, by decide +kernel⟩
  rcases List.mem_cons.mp h2 with rfl | h2
  · exact ⟨by decide +kernel, by decide +kernel, by decide +kernel, by decide +kernel⟩
  rcases List.mem_cons.mp h2 with rfl | h2
  · exact ⟨by decide +kernel, by decide +kernel, by decide +kernel, by decide +kernel⟩
  rw [List.mem_singleton.mp h2]
  exact ⟨by decide +kernel, by decide +kernel, by decide +kernel, by decide +kernel⟩
theorem due_sh {k : Kn} (ok : k.Ok) (turn : Nat) (m sm : Bool) : (∀ H, DpAll K H (k.due turn m sm) (k.dueD turn m sm)) ∧ Rp.Sh 200 1 (.list (k.dueD turn m sm)) := by
  unfold Kn.due Kn.dueD
  by_cases h1 : turn = (if m = true then k.f1 else k.f0)
  · rw [if_pos h1, if_pos h1]
    refine ⟨fun H => .cons (.str _) (.cons (.str _) .nil), (Rp.Sh.list (b := 20) (e := 0) fun x hx => ?_).mono (by show (20 + 2) * 2 + 2 ≤ 200; decide) (Nat.le_refl _)⟩
    rcases List.mem_cons.mp hx with rfl | hx
    · cases m <;> exact ⟨by decide +kernel, by decide +kernel, by decide +kernel, by decide +kernel⟩
    · rw [List.mem_singleton.mp hx]
      exact sh_lab ok.st
  · rw [if_neg h1, if_neg h1]
    by_cases h2 : m = false
    · rw [if_pos h2, if_pos h2]
      refine ⟨fun H => .cons (.int _) .nil, (Rp.Sh.list (b := 20) (e := 0) fun x hx => ?_).mono (by show (20 + 2) * 1 + 2 ≤ 200; decide) (Nat.le_refl _)⟩
      rw [List.mem_singleton.mp hx]
      refine (Rp.Sh.int (k := 12) (by decide) (by decide) ?_).mono (by decide) (Nat.le_refl _)
      have : k.codes.getD ((turn - 1) % k.codes.length) 0 < 4294967296 := by
        rw [List.getD_eq_getElem?_getD]
        cases e : k.codes[(turn - 1) % k.codes.length]? with
        | none => decide
        | some y => exact ok.cn y (List.mem_of_getElem? e)
      omega
    · rw [if_neg h2, if_neg h2]
      by_cases h3 : k.ans.isEmpty = false
      · rw [if_pos h3, if_pos h3]
        refine ⟨fun H => .cons (.bl _) .nil, (Rp.Sh.list (b := 20) (e := 0) fun x hx => ?_).mono (by show (20 + 2) * 1 + 2 ≤ 200; decide) (Nat.le_refl _)⟩
        rw [List.mem_singleton.mp hx]
        exact Rp.Sh.bool.mono (by decide) (Nat.le_refl _)
      · rw [if_neg h3, if_neg h3]
        refine ⟨fun H => .cons (.bl _) .nil, (Rp.Sh.list (b := 20) (e := 0) fun x hx => ?_).mono (by show (20 + 2) * 1 + 2 ≤ 200; decide) (Nat.le_refl _)⟩
        rw [List.mem_singleton.mp hx]
        exact Rp.Sh.bool.mono (by decide) (Nat.le_refl _)
theorem way_of {n i : Nat} (h : decide (V.int (n : Int) = V.int (i : Int)) = true) : n = i := by
  have := V.int.inj (of_decide_eq_true h)
  omega
/-- the event is kept -/
theorem ok_d {f cA : Addr} {Ar : Around} {outer : List Env} {sh : Shared} {H9 : Hp} {E9 : L2.XK} :
    ∃ t, PSs (cxOf C8.CX0 P w K mg base NL "law" (defScope sLaw) f (.ref cA) Ar outer sh H9 E9).nox (bIn.drop 7) t ∧ ∀ (D : Ends) x0 x1 x2 x3 x4 (eL r o : Addr) x6 x7 x8 x9 x10 x12 x14 x16 x17 x18 (k : Kn) (m : Bool) (x y : V) evs2 H, KnAt H r k → H o = some (.lst [y, x]) → H eL = some (.lst evs2) → evs2.length ≤ 1000 →
      (k.traced = false → D.nx [x0, x1, x2, x3, x4, some (.ref eL), x6, x7, x8, x9, x10, some (.int (if m = true then 1 else 0)), x12, some (.ref r), x14, some (.ref o), x16, x17, x18] H) →
      (k.traced = true → ∀ t, H t = none → D.nx [x0, x1, x2, x3, x4, some (.ref eL), x6, x7, x8, x9, x10, some (.int (if m = true then 1 else 0)), x12, some (.ref r), x14, some (.ref o), x16, x17, x18] (upd (upd H t (.tup (evL k m x))) eL (.lst (evs2 ++ [.ref t])))) →
      t D [x0, x1, x2, x3, x4, some (.ref eL), x6, x7, x8, x9, x10, some (.int (if m = true then 1 else 0)), x12, some (.ref r), x14, some (.ref o), x16, x17, x18] H := by
  refine ⟨_, pss_one (ps_if (PW.pt (pw_or (pt_cmpR op_eq (pe_ix ix_list (pv 13) pe_int (fun _ _ => rfl)) pe_int (nomark _)) (pw_or1 (pt_cmpR op_eq (pe_ix ix_list (pv 13) pe_int (fun _ _ => rfl)) pe_int (nomark _)))))
    (pss_one (ps_expr (pe_bm PySem.F.plainAttrs_list PySem.F.slot_list_append PySem.F.type_list_append mt_append (pv 5) (pa_cons (pe_ifExp (pt_cmpR op_eq (pv 11) pe_int (nomark _)) (pe_tup (pa_cons pe_str (pa_cons (pe_ix ix_list (pv 13) pe_int (fun _ _ => rfl)) pa_nil))) (pe_tup (pa_cons pe_str (pa_cons (pe_ix ix_list (pv 13) pe_int (fun _ _ => rfl)) (pa_cons (pe_ix ix_list (pv 15) pe_int (fun _ _ => rfl)) pa_nil))))) pa_nil)))) pss_nil), ?_⟩
  intro D x0 x1 x2 x3 x4 eL r o x6 x7 x8 x9 x10 x12 x14 x16 x17 x18 k m x y evs2 H hk ho he hz k1 k2
  obtain ⟨cd, an, fl, e1, _⟩ := hk.ex
  refine ⟨_, rfl, r, _, (0 : Int), _, rfl, rfl, SqL.of e1, atI_nat (j := 0) rfl, rfl, _, rfl, ?_⟩
  refine ite2 (fun e => ?_) (fun e => ?_)
  · have hw : k.way = 1 := way_of (i := 1) e
    have htr : k.traced = true := by unfold Kn.traced; rw [hw]; rfl
    refine ⟨_, rfl, .inl ⟨rfl, _, SqL.of he⟩, _, rfl, rfl, _, rfl, ?_⟩
    cases m with
    | false =>
      refine iteYes rfl ⟨_, rfl, r, _, (1 : Int), _, rfl, rfl, SqL.of e1, atI_nat (j := 1) rfl, by show 2 ≤ sizeLine; decide, fun t ht => ⟨eL, _, _, rfl, rfl, same_new ht _ _ he, Nat.lt_of_le_of_lt hz (by decide), ?_⟩⟩
      exact k2 htr t ht
    | true =>
      refine iteNo (by decide) ⟨_, rfl, r, _, (1 : Int), _, rfl, rfl, SqL.of e1, atI_nat (j := 1) rfl, _, rfl, o, _, (1 : Int), _, rfl, rfl, SqL.of ho, atI_nat (j := 1) rfl, by show 3 ≤ sizeLine; decide, fun t ht => ⟨eL, _, _, rfl, rfl, same_new ht _ _ he, Nat.lt_of_le_of_lt hz (by decide), ?_⟩⟩
      exact k2 htr t ht
  · have hw : ¬ k.way = 1 := fun z => e (by rw [z]; rfl)
    refine ⟨_, rfl, r, _, (0 : Int), _, rfl, rfl, SqL.of e1, atI_nat (j := 0) rfl, rfl, _, rfl, ?_⟩
    refine ite2 (fun e => ?_) (fun e => ?_)
    · have hw : k.way = 3 := way_of (i := 3) e
      have htr : k.traced = true := by unfold Kn.traced; rw [hw]; rfl
      refine ⟨_, rfl, .inl ⟨rfl, _, SqL.of he⟩, _, rfl, rfl, _, rfl, ?_⟩
      cases m with
      | false =>
        refine iteYes rfl ⟨_, rfl, r, _, (1 : Int), _, rfl, rfl, SqL.of e1, atI_nat (j := 1) rfl, by show 2 ≤ sizeLine; decide, fun t ht => ⟨eL, _, _, rfl, rfl, same_new ht _ _ he, Nat.lt_of_le_of_lt hz (by decide), ?_⟩⟩
        exact k2 htr t ht
      | true =>
        refine iteNo (by decide) ⟨_, rfl, r, _, (1 : Int), _, rfl, rfl, SqL.of e1, atI_nat (j := 1) rfl, _, rfl, o, _, (1 : Int), _, rfl, rfl, SqL.of ho, atI_nat (j := 1) rfl, by show 3 ≤ sizeLine; decide, fun t ht => ⟨eL, _, _, rfl, rfl, same_new ht _ _ he, Nat.lt_of_le_of_lt hz (by decide), ?_⟩⟩
        exact k2 htr t ht
    · have hw2 : ¬ k.way = 3 := fun z => e (by rw [z]; rfl)
      exact k1 (by unfold Kn.traced; rw [decide_eq_false hw, decide_eq_false hw2]; rfl)
end
end K02
set_option Elab.async false
set_option linter.all false
set_option maxRecDepth 100000
set_option maxHeartbeats 4000000
namespace K02
open PySem L2 Xo Lm LamX
section
variable {P : Program} {w : World} {K : PySem.W.Frag} {mg : Str → Option Value} {base : Heap}
/-- what was told is what is due -/
theorem ok_c {f cA fD C1 : Addr} {fdD : FuncData} (B : Bl mg) (DD : Df K mg "_law_due" "_law_due" sDue ["known", "counts", "asked", "other"] fD fdD) (GD : FnOk P w K mg base CX0 1 fD fdD ["known", "counts", "asked", "other"] spDue)
    {Ar : Around} {outer : List Env} {sh : Shared} {H9 : Hp} {E9 : L2.XK} {tl : TS} (hr : Room 13 (Ar.deeper (PyProof.Rows.envOfC "law" (defScope sLaw) sh.heap.objs.size f (.ref cA)))) (hgd : (Ar.deeper (PyProof.Rows.envOfC "law" (defScope sLaw) sh.heap.objs.size f (.ref cA))).guards = some [])
    (hs : PSs (cxOf C8.CX0 P w K mg base NL "law" (defScope sLaw) f (.ref cA) Ar outer sh H9 E9).nox (bIn.drop 7) tl) :
    ∃ t, PSs (cxOf C8.CX0 P w K mg base NL "law" (defScope sLaw) f (.ref cA) Ar outer sh H9 E9).nox (bIn.drop 6) t ∧ ∀ (D : Ends) x0 x1 x2 x3 x4 x5 x6 (cL cj r o p L : Addr) (j : Nat) x8 x10 x14 x17 x18 (k : Kn) (m : Bool) (x : V) (lb : Option Str) (cs : List V) (c0 c1 : Nat) C dx fs H, H cL = some (.lst cs) → cs[j]? = some (.ref cj) → H cj = some (.lst [.int (c0 : Int), .int (c1 : Int)]) → KnAt H r k → k.Ok →
      H o = some (.lst [.str (if lb.isSome = true then "key" else "plain"), x]) → (∀ b, lb = some b → x = .str b ∧ PyData.strOk b = true) → H L = some (.lst (k.due (if m = true then c1 else c0) m (decide (lb = some k.label)))) → 0 < (if m = true then c1 else c0) → H p = some (.ins C dx fs) → fs.lookup ("label" : Str) = some (.str k.label) → KIns K C C1 →
      (∀ H', Same H H' → tl D [x0, x1, x2, x3, x4, x5, x6, some (.ref cL), x8, some (.int (j : Int)), x10, some (.int (if m = true then 1 else 0)), some (.ref p), some (.ref r), x14, some (.ref o), some (.ref L), x17, x18] H') →
      t D [x0, x1, x2, x3, x4, x5, x6, some (.ref cL), x8, some (.int (j : Int)), x10, some (.int (if m = true then 1 else 0)), some (.ref p), some (.ref r), x14, some (.ref o), some (.ref L), x17, x18] H := by
  have hu64 := hr.units
  refine ⟨_, pss_cons (ps_if (PW.pt (pw_or (pt_cmpR op_ne (pe_callB (Gd.call_reprD hgd hu64) (by rfl) B.repr (by decide +kernel) (pa_cons (pv 16) pa_nil)) (pe_callB (Gd.call_reprD hgd hu64) (by rfl) B.repr (by decide +kernel) (pa_cons (pe_call GD (hr.mono (by decide)) rfl DD.g DD.F.kp DD.b .nil pass0 (pa_cons (pv 13) (pa_cons (pe_ix ix_list (pv 7) (pv 9) (fun _ _ => rfl)) (pa_cons (pv 11) (pa_cons (pv 15) pa_nil))))) pa_nil)) (nomark _))
    (pw_or1 (pt_cmpR op_ne (pe_fld (pv 12) rfl) (pe_ix ix_list (pv 13) pe_int (fun _ _ => rfl)) (nomark _))))) (pss_one (ps_ret pe_bl)) pss_nil) hs, ?_⟩
  intro D x0 x1 x2 x3 x4 x5 x6 cL cj r o p L j x8 x10 x14 x17 x18 k m x lb cs c0 c1 C dx fs H hcL hcj hc hk ok ho hlb hL hpos hp hlab ki kk
  have sh := due_sh (K := K) ok (if m = true then c1 else c0) m (decide (lb = some k.label))
  have shw := sh.2.shw (by decide) (by decide)
  refine ⟨_, rfl, _, _, rfl, .lst (SqL.of hL) (sh.1 _), shw.1, shw.2.1, shw.2.2.1, shw.2.2.2, _, rfl, _, rfl, _, rfl, cL, _, (j : Int), _, rfl, rfl, SqL.of hcL, atI_nat hcj, _, rfl, _, rfl, ?_⟩
  refine ⟨r, cj, o, k, c0, c1, m, x, lb, rfl, hk, ok, hc, hpos, ho, hlb, fun L2 H1 s1 e2 => ⟨_, _, rfl, .lst (SqL.of e2) (sh.1 _), shw.1, shw.2.1, shw.2.2.1, shw.2.2.2, rfl, _, rfl, iteNo ?_ ?_⟩⟩
  · rw [decide_eq_true rfl]
    rfl
  obtain ⟨cd, an, fl, e1, _⟩ := (hk.same s1).ex
  refine ⟨_, rfl, p, C, dx, fs, _, rfl, s1 _ _ hp, ki.cl, ki.nl, hlab, _, rfl, r, _, (1 : Int), _, rfl, rfl, SqL.of e1, atI_nat (j := 1) rfl, rfl, _, rfl, iteNo ?_ (kk _ s1)⟩
  rw [decide_eq_true rfl]
  rfl
end
end K02
set_option Elab.async false
set_option linter.all false
set_option maxRecDepth 100000
set_option maxHeartbeats 4000000
namespace K02
open PySem L2 Xo Lm LamX
abbrev tabs (P1 : Addr) : List (Addr × Str) := [(P1, qOf "law")]
section
variable {P : Program} {w : World} {K : PySem.W.Frag} {mg : Str → Option Value} {base : Heap}
def tAskC (K : PySem.W.Frag) (c : Cl6) (E : L2.XK) : TE := fun σ H Q => ∃ p, σ[12]? = some (some (.ref p)) ∧ ∃ C dx fs, H p = some (.ins C dx fs) ∧ fs.lookup ("code" : Str) = none ∧ CodeSays K c H p C Q E
def tAskM (K : PySem.W.Frag) (c : Cl6) (E : L2.XK) : TE := fun σ H Q => ∃ p vo, σ[12]? = some (some (.ref p)) ∧ σ[14]? = some (some vo) ∧ ∃ C dx fs, H p = some (.ins C dx fs) ∧ fs.lookup ("matches" : Str) = none ∧ MatchSays K c H p C vo Q E
/-- the call -/
theorem ok_b {f cA gs P1 CU : Addr} {c : Cl6} (B : Bl mg) (S : Dz K mg "_law_told" sTold "call" gs) (N : Nms mg c.CF c.CM CU) (Bd : Bad K c.CF c.CM CU) (TB : TabB base mg cA P1) (M : Ks6 P w K mg base c)
    {Ar : Around} {outer : List Env} {sh : Shared} {H9 : Hp} {E9 : L2.XK} {tl : TS} (hr : Room 13 (Ar.deeper (PyProof.Rows.envOfC "law" (defScope sLaw) sh.heap.objs.size f (.ref cA))))
    (hs : PSs (cxOf C8.CX0 P w K mg base NL "law" (defScope sLaw) f (.ref cA) Ar outer sh H9 E9).nox (bIn.drop 6) tl) :
    ∃ t, PSs (cxOf C8.CX0 P w K mg base NL "law" (defScope sLaw) f (.ref cA) Ar outer sh H9 E9).nox (bIn.drop 5) t ∧ ∀ (D : Ends) x0 x1 x2 x3 x4 x5 x6 x7 x8 x9 x10 x13 x15 x16 x17 x18 (A : Ad) (ks : Nat → Kn) Hq H0 n mm j a0 a1 c0 c1 (m : Bool) evs evs2 vo lb x H, Mid c (tabs P1) Hq A ks H0 n mm j a0 a1 c0 c1 evs evs2 H → evs.length ≤ 1000 → Oth A ks vo lb x →
      (∀ L H', (∃ b0 b1 evs', (m = false → b0 = a0 + 1 ∧ b1 = a1) ∧ (m = true → b0 = a0 ∧ b1 = a1 + 1) ∧ H' L = some (.lst ((ks j).due (if m = true then a1 + 1 else a0 + 1) m (decide (lb = some (ks j).label)))) ∧ Mid c (tabs P1) Hq A ks H0 n mm j b0 b1 c0 c1 evs' evs2 H' ∧ ((ks j).traced = false → evs' = evs) ∧ ((ks j).traced = true → ∃ tt, evs' = evs ++ [.ref tt] ∧ H' tt = some (.tup (evL (ks j) m x)))) → (∀ b o, H b = some o → b ≠ A.l → b ≠ A.p j → (∀ ps, o ≠ .tbl ps) → H' b = some o) →
        tl D [x0, x1, x2, x3, x4, x5, x6, x7, x8, x9, x10, some (.int (if m = true then 1 else 0)), some (.ref (A.p j)), x13, some vo, x15, some (.ref L), x17, x18] H') →
      t D [x0, x1, x2, x3, x4, x5, x6, x7, x8, x9, x10, some (.int (if m = true then 1 else 0)), some (.ref (A.p j)), x13, some vo, x15, x16, x17, x18] H := by
  obtain ⟨oc, od, dV, kV, doc, pmm, an, cdv, ct, osl, lk, hcg, hb⟩ := S.ex
  have hmT : (P1, qOf "law") ∈ tabs P1 := List.mem_cons_self ..
  have huT : ∀ p ∈ tabs P1, p.1 = P1 → p.2 = qOf "law" := fun p hp e => by rw [List.mem_singleton.mp hp]
  obtain ⟨fcM1, fdcM1, mcM1, bcM1, gcM1⟩ := M.M1.cd
  obtain ⟨fmM1, fdmM1, mmM1, bmM1, gmM1⟩ := M.M1.mt
  obtain ⟨fcM2, fdcM2, mcM2, bcM2, gcM2⟩ := M.M2.cd
  obtain ⟨fmM2, fdmM2, mmM2, bmM2, gmM2⟩ := M.M2.mt
  obtain ⟨fcM3, fdcM3, mcM3, bcM3, gcM3⟩ := M.M3.cd
  obtain ⟨fmM3, fdmM3, mmM3, bmM3, gmM3⟩ := M.M3.mt
  obtain ⟨fcM4, fdcM4, mcM4, bcM4, gcM4⟩ := M.M4.cd
  obtain ⟨fmM4, fdmM4, mmM4, bmM4, gmM4⟩ := M.M4.mt
  obtain ⟨fcMD, fdcMD, mcMD, bcMD, gcMD⟩ := M.MD.cd
  obtain ⟨fmMD, fdmMD, mmMD, bmMD, gmMD⟩ := M.MD.mt
  obtain ⟨fcML, fdcML, mcML, bcML, gcML⟩ := M.ML.cd
  obtain ⟨fmML, fdmML, mmML, bmML, gmML⟩ := M.ML.mt
  refine ⟨_, pss_cons (ps_if (pt_cmpR op_eq (pv 11) pe_int (nomark _)) (pss_one (ps_set (i := 16) scLaw.nd rfl (Or.inl rfl) (pe_lamD (k := 9) (T := tabs P1) (own := []) (t := tAskC K c) rfl S.g S.kp lk hcg hb scTold rfl (Or.inl rfl) (told_gives N B.isinstance Bd) (hr.mono (by decide)) (lm_by (N := NL) (sc := defScope sLaw) (by decide +kernel))
          (fun pins σ H s E Q I hT h => lm_make0 I TB rfl hmT huT hT (lm_by (N := NL) (sc := defScope sLaw) (by decide +kernel)) rfl (fun _ _ _ _ _ _ => rfl) h) (fun A outer s H E f c' hr2 => pe_weak (pe_orE (pe_meth0 (E := E) (pv 12) M.M1.ki.cl mcM1 gcM1 (hr2.mono (by decide)) bcM1 .nil (passes_call (takes_of rfl rfl rfl rfl) fun _ _ _ _ z => z)) (pe_orE (pe_meth0 (E := E) (pv 12) M.M2.ki.cl mcM2 gcM2 (hr2.mono (by decide)) bcM2 .nil (passes_call (takes_of rfl rfl rfl rfl) fun _ _ _ _ z => z)) (pe_orE (pe_meth0 (E := E) (pv 12) M.M3.ki.cl mcM3 gcM3 (hr2.mono (by decide)) bcM3 .nil (passes_call (takes_of rfl rfl rfl rfl) fun _ _ _ _ z => z)) (pe_orE (pe_meth0 (E := E) (pv 12) M.M4.ki.cl mcM4 gcM4 (hr2.mono (by decide)) bcM4 .nil (passes_call (takes_of rfl rfl rfl rfl) fun _ _ _ _ z => z)) (pe_orE (pe_meth0 (E := E) (pv 12) M.MD.ki.cl mcMD gcMD (hr2.mono (by decide)) bcMD .nil (passes_call (takes_of rfl rfl rfl rfl) fun _ _ _ _ z => z)) (pe_meth0 (E := E) (pv 12) M.ML.ki.cl mcML gcML (hr2.mono (by decide)) bcML .nil (passes_call (takes_of rfl rfl rfl rfl) fun _ _ _ _ z => z))))))) (fun σ H Q h => by
          obtain ⟨p, hp, C, dx, fs, e, l, h⟩ := h
          rcases h with ⟨rfl, z⟩ | ⟨rfl, z⟩ | ⟨rfl, z⟩ | ⟨rfl, z⟩ | ⟨rfl, z⟩ | ⟨rfl, z⟩
          · exact .inl (⟨_, hp, p, dx, fs, rfl, e, l, z⟩)
          · exact .inr (.inl (⟨_, hp, p, dx, fs, rfl, e, l, z⟩))
          · exact .inr (.inr (.inl (⟨_, hp, p, dx, fs, rfl, e, l, z⟩)))
          · exact .inr (.inr (.inr (.inl (⟨_, hp, p, dx, fs, rfl, e, l, z⟩))))
          · exact .inr (.inr (.inr (.inr (.inl (⟨_, hp, p, dx, fs, rfl, e, l, z⟩)))))
          · exact .inr (.inr (.inr (.inr (.inr (⟨_, hp, p, dx, fs, rfl, e, l, z⟩)))))
)))))
      (pss_one (ps_set (i := 16) scLaw.nd rfl (Or.inl rfl) (pe_lamD (k := 9) (T := tabs P1) (own := []) (t := tAskM K c) rfl S.g S.kp lk hcg hb scTold rfl (Or.inl rfl) (told_gives N B.isinstance Bd) (hr.mono (by decide)) (lm_by (N := NL) (sc := defScope sLaw) (by decide +kernel))
          (fun pins σ H s E Q I hT h => lm_make0 I TB rfl hmT huT hT (lm_by (N := NL) (sc := defScope sLaw) (by decide +kernel)) rfl (fun _ _ _ _ _ _ => rfl) h) (fun A outer s H E f c' hr2 => pe_weak (pe_orE (pe_meth (E := E) (pv 12) M.M1.ki.cl mmM1 gmM1 (hr2.mono (by decide)) bmM1 .nil (passes_call (takes_of rfl rfl rfl rfl) fun _ _ _ _ z => z) (pa_cons (pv 14) pa_nil)) (pe_orE (pe_meth (E := E) (pv 12) M.M2.ki.cl mmM2 gmM2 (hr2.mono (by decide)) bmM2 .nil (passes_call (takes_of rfl rfl rfl rfl) fun _ _ _ _ z => z) (pa_cons (pv 14) pa_nil)) (pe_orE (pe_meth (E := E) (pv 12) M.M3.ki.cl mmM3 gmM3 (hr2.mono (by decide)) bmM3 .nil (passes_call (takes_of rfl rfl rfl rfl) fun _ _ _ _ z => z) (pa_cons (pv 14) pa_nil)) (pe_orE (pe_meth (E := E) (pv 12) M.M4.ki.cl mmM4 gmM4 (hr2.mono (by decide)) bmM4 .nil (passes_call (takes_of rfl rfl rfl rfl) fun _ _ _ _ z => z) (pa_cons (pv 14) pa_nil)) (pe_orE (pe_meth (E := E) (pv 12) M.MD.ki.cl mmMD gmMD (hr2.mono (by decide)) bmMD .nil (passes_call (takes_of rfl rfl rfl rfl) fun _ _ _ _ z => z) (pa_cons (pv 14) pa_nil)) (pe_meth (E := E) (pv 12) M.ML.ki.cl mmML gmML (hr2.mono (by decide)) bmML .nil (passes_call (takes_of rfl rfl rfl rfl) fun _ _ _ _ z => z) (pa_cons (pv 14) pa_nil))))))) (fun σ H Q h => by
          obtain ⟨p, vo, hp, hv, C, dx, fs, e, l, h⟩ := h
          rcases h with ⟨rfl, z⟩ | ⟨rfl, z⟩ | ⟨rfl, z⟩ | ⟨rfl, z⟩ | ⟨rfl, z⟩ | ⟨rfl, z⟩
          · exact .inl (⟨_, hp, p, dx, fs, rfl, e, l, _, hv, z⟩)
          · exact .inr (.inl (⟨_, hp, p, dx, fs, rfl, e, l, _, hv, z⟩))
          · exact .inr (.inr (.inl (⟨_, hp, p, dx, fs, rfl, e, l, _, hv, z⟩)))
          · exact .inr (.inr (.inr (.inl (⟨_, hp, p, dx, fs, rfl, e, l, _, hv, z⟩))))
          · exact .inr (.inr (.inr (.inr (.inl (⟨_, hp, p, dx, fs, rfl, e, l, _, hv, z⟩)))))
          · exact .inr (.inr (.inr (.inr (.inr (⟨_, hp, p, dx, fs, rfl, e, l, _, hv, z⟩)))))
)))))) hs, ?_⟩
  intro D x0 x1 x2 x3 x4 x5 x6 x7 x8 x9 x10 x13 x15 x16 x17 x18 A ks Hq H0 n mm j a0 a1 c0 c1 m evs evs2 vo lb x H Mi hz ho kk
  refine ⟨_, rfl, rfl, _, rfl, ?_⟩
  have ok := Mi.C.ok j Mi.hj
  -- behind the asking
  have mid : ∀ (H1 Hx : Hp) (b0 b1 : Nat) (ev : List V), Mid c (tabs P1) Hq A ks H0 n mm j a0 a1 c0 c1 evs evs2 H1 → ExtN H H1 → KoC c A.tr Hx (.ref (A.p j)) (ks j) b0 b1 → Aft c.CT H1 Hx A.tr A.l (A.p j) evs (ks j).traced ev →
      (∃ evs', Mid c (tabs P1) Hq A ks H0 n mm j b0 b1 c0 c1 evs' evs2 Hx ∧ ((ks j).traced = false → evs' = evs) ∧ ((ks j).traced = true → ∃ tt, evs' = evs ++ [.ref tt] ∧ Hx tt = some (.tup ev))) ∧ (∀ b o, H b = some o → b ≠ A.l → b ≠ A.p j → (∀ ps, o ≠ .tbl ps) → Hx b = some o) := fun H1 Hx b0 b1 ev M1 x1 kx af => by
    obtain ⟨evs', t1, t2, t3⟩ := af.at_
    obtain ⟨Cp, dxp, fsp, hp, _⟩ := ko_ins M1.kj
    have nl : ∀ {b o}, H1 b = some o → (∀ xs, o ≠ .lst xs) → b ≠ A.l := fun e h => ne_of e M1.tr.ls (h _)
    have np : ∀ {b o}, H1 b = some o → (∀ C dx fs, o ≠ .ins C dx fs) → b ≠ A.p j := fun e h => ne_of e hp (h _ _ _)
    refine ⟨⟨evs', ⟨M1.C, M1.hj, M1.fx.trans (fun b o e h1 h2 h3 h4 h5 n => af.fr b o e h2 (h4 j M1.hj)), ?_, ?_, kx, ?_, fun i hi hne => ?_, t1, ?_⟩, t2, t3⟩, fun b o e h1 h2 n => af.fr _ _ (x1 _ _ e n) h1 h2⟩
    · obtain ⟨l0, c0', t0, e0, r⟩ := M1.src
      exact ⟨l0, c0', t0, af.fr _ _ e0 (nl e0 (fun _ z => by cases z)) (np e0 (fun _ _ _ z => by cases z)), r⟩
    · intro q hq
      obtain ⟨ps, e, tr, fq⟩ := M1.ts q hq
      refine ⟨ps, af.fr _ _ e (nl e (fun _ z => by cases z)) (np e (fun _ _ _ z => by cases z)), tr, fun pos cv hc => ?_⟩
      obtain ⟨cq, rfl, hc2⟩ := fq pos cv hc
      exact ⟨cq, rfl, af.fr _ _ hc2 (nl hc2 (fun _ z => by cases z)) (np hc2 (fun _ _ _ z => by cases z))⟩
    · exact af.fr _ _ M1.cj (M1.C.c_ne M1.hj).1 ((M1.C.p_ne M1.hj).2.2.2 j M1.hj).symm
    · obtain ⟨q1, q2⟩ := M1.oth i hi hne
      exact ⟨fun o e => af.fr _ _ (q1 o e) (M1.C.p_ne hi).1 (M1.C.pne i j hi M1.hj hne), fun o e => af.fr _ _ (q2 o e) (M1.C.c_ne hi).1 ((M1.C.p_ne M1.hj).2.2.2 i hi).symm⟩
    · exact af.fr _ _ M1.el (fun z => M1.C.ne.2.2.2.2 z.symm) (M1.C.p_ne M1.hj).2.1.symm
  -- the told one stands in a new list
  have fin : ∀ (H1 Hx : Hp) (b0 b1 : Nat), (m = false → b0 = a0 + 1 ∧ b1 = a1) → (m = true → b0 = a0 ∧ b1 = a1 + 1) → Mid c (tabs P1) Hq A ks H0 n mm j a0 a1 c0 c1 evs evs2 H1 → ExtN H H1 → KoC c A.tr Hx (.ref (A.p j)) (ks j) b0 b1 → Aft c.CT H1 Hx A.tr A.l (A.p j) evs (ks j).traced (evL (ks j) m x) →
      ∀ L, Hx L = none → ∀ vs, (ks j).due (if m = true then a1 + 1 else a0 + 1) m (decide (lb = some (ks j).label)) = vs → tl D [x0, x1, x2, x3, x4, x5, x6, x7, x8, x9, x10, some (.int (if m = true then 1 else 0)), some (.ref (A.p j)), x13, some vo, x15, some (.ref L), x17, x18] (upd Hx L (.lst vs)) := fun H1 Hx b0 b1 hf ht M1 x1 kx af L hL vs hv => by
    obtain ⟨⟨evs', q1, q2, q3⟩, q4⟩ := mid H1 Hx b0 b1 _ M1 x1 kx af
    have y := same_new (o := .lst vs) hL
    refine kk L _ ⟨b0, b1, evs', hf, ht, by rw [upd_same, hv], q1.same y, q2, fun z => ?_⟩ (fun b o e h1 h2 h3 => y _ _ (q4 b o e h1 h2 h3))
    obtain ⟨tt, e1, e2⟩ := q3 z
    exact ⟨tt, e1, y _ _ e2⟩
  cases m with
  | false =>
    refine iteYes rfl ⟨Mi.ts, fun H1 x1 T1 => ?_⟩
    have M1 := Mi.extN x1 T1
    refine ⟨_, rfl, code_core (sm := decide (lb = some (ks j).label)) M1.kj ok M1.tr hz (fun y H' hd kx af => ?_) (fun d H' hd hx kx af => ?_)⟩
    · exact ⟨y, rfl, by show 1 ≤ sizeLine; decide, fun L hL => fin H1 H' _ _ (fun _ => ⟨rfl, rfl⟩) (fun z => nomatch z) M1 x1 kx af L hL _ hd⟩
    · exact ⟨d, _, _, rfl, hx, rfl, .inl ⟨rfl, fun L hL => fin H1 H' _ _ (fun _ => ⟨rfl, rfl⟩) (fun z => nomatch z) M1 x1 kx af L hL _ hd⟩⟩
  | true =>
    refine iteNo (by decide) ⟨Mi.ts, fun H1 x1 T1 => ?_⟩
    have M1 := Mi.extN x1 T1
    refine ⟨_, _, rfl, rfl, match_core M1.kj (ho.kv M (fun i hi => ?_)) M1.tr hz (fun y H' hd kx af => ?_) (fun d H' hd hx kx af => ?_)⟩
    · obtain ⟨b0, b1, q, _⟩ := M1.ko i hi
      exact ⟨b0, b1, q⟩
    · rw [ho.x] at af
      exact ⟨y, rfl, by show 1 ≤ sizeLine; decide, fun L hL => fin H1 H' _ _ (fun z => nomatch z) (fun _ => ⟨rfl, rfl⟩) M1 x1 kx af L hL _ hd⟩
    · rw [ho.x] at af
      exact ⟨d, _, _, rfl, hx, rfl, .inr ⟨rfl, fun L hL => fin H1 H' _ _ (fun z => nomatch z) (fun _ => ⟨rfl, rfl⟩) M1 x1 kx af L hL _ hd⟩⟩
end
end K02
set_option Elab.async false
set_option linter.all false
set_option maxRecDepth 100000
set_option maxHeartbeats 4000000
namespace K02
open PySem L2 Xo Lm LamX
section
variable {P : Program} {w : World} {K : PySem.W.Frag} {mg : Str → Option Value} {base : Heap}
theorem three_at {f : Nat → Addr} {j : Nat} (h : j < 3) : ([V.ref (f 0), .ref (f 1), .ref (f 2)] : List V)[j]? = some (.ref (f j)) := by
  match j, h with
  | 0, _ => rfl
  | 1, _ => rfl
  | 2, _ => rfl
theorem bit {d : Nat} (h : d < 2) : ∃ m : Bool, V.int (d : Int) = V.int (if m = true then 1 else 0) := by
  match d, h with
  | 0, _ => exact ⟨false, rfl⟩
  | 1, _ => exact ⟨true, rfl⟩
theorem plain2 {d : Nat} (h : d < 2) : ∃ v, ([V.str "a", .int 5] : List V)[d]? = some v ∧ (v = .str "a" ∨ v = .int 5) := by
  match d, h with
  | 0, _ => exact ⟨_, rfl, .inl rfl⟩
  | 1, _ => exact ⟨_, rfl, .inr rfl⟩
/-- the first lines of a turn, up to the other one and what the law knows of it -/
theorem ok_a {f cA fd_ : Addr} {fdd : FuncData} {c : Cl6} (B : Bl mg) (Dd : Df K mg "_law_digit" "_law_digit" sDigit ["state", "size"] fd_ fdd) (Gdg : FnOk P w K mg base CX0 2 fd_ fdd ["state", "size"] spDigit)
    {Ar : Around} {outer : List Env} {sh : Shared} {H9 : Hp} {E9 : L2.XK} {tl : TS} (hr : Room 13 (Ar.deeper (PyProof.Rows.envOfC "law" (defScope sLaw) sh.heap.objs.size f (.ref cA))))
    (hs : PSs (cxOf C8.CX0 P w K mg base NL "law" (defScope sLaw) f (.ref cA) Ar outer sh H9 E9).nox (bIn.drop 4) tl) :
    ∃ t, PSs (cxOf C8.CX0 P w K mg base NL "law" (defScope sLaw) f (.ref cA) Ar outer sh H9 E9).nox bIn t ∧ ∀ (D : Ends) x0 x1 x2 x8 x9 x10 x11 x12 x13 x14 x15 x16 x17 x18 (A : Ad) (ks : Nat → Kn) TT Hq n m H, Cyc c TT Hq A ks H n m → n + 100 < 2 ^ 40 →
      (∀ j far (b : Bool) vo lb x o H', Cyc c TT Hq A ks H' (n + 12) m → j < 3 → Oth A ks vo lb x → H' o = some (.lst [.str (if lb.isSome = true then "key" else "plain"), x]) → (∀ i, i < 3 → o ≠ A.c i) → o ≠ A.l → o ≠ A.eL → tl D [x0, x1, x2, some (.ref A.s), some (.ref A.tr), some (.ref A.eL), some (.ref A.sL), some (.ref A.cL), x8, some (.int ((j : Nat) : Int)), some (.int ((far : Nat) : Int)), some (.int (if b = true then 1 else 0)), some (.ref (A.p j)), some (.ref (A.r j)), some vo, some (.ref o), x16, x17, x18] H') →
      t D [x0, x1, x2, some (.ref A.s), some (.ref A.tr), some (.ref A.eL), some (.ref A.sL), some (.ref A.cL), x8, x9, x10, x11, x12, x13, x14, x15, x16, x17, x18] H := by
  refine ⟨_, pss_cons (ps_par3 (i := 9) (j := 10) (l := 11) rfl scLaw.nd rfl rfl rfl (by decide) (by decide) (by decide) rfl rfl rfl (pa_cons (pe_call Gdg (hr.mono (by decide)) rfl Dd.g Dd.F.kp Dd.b .nil pass0 (pa_cons (pv 3) (pa_cons pe_int pa_nil))) (pa_cons (pe_call Gdg (hr.mono (by decide)) rfl Dd.g Dd.F.kp Dd.b .nil pass0 (pa_cons (pv 3) (pa_cons pe_int pa_nil))) (pa_cons (pe_call Gdg (hr.mono (by decide)) rfl Dd.g Dd.F.kp Dd.b .nil pass0 (pa_cons (pv 3) (pa_cons pe_int pa_nil))) pa_nil))) rfl)
    (pss_cons (ps_asg (pe_ix ix_list (pv 6) (pv 9) (fun _ _ => rfl)) (pg_tup rfl (pgs_cons (pg_name (i := 12) scLaw.nd rfl (Or.inr rfl)) (pgs_cons (pg_name (i := 13) scLaw.nd rfl (Or.inl rfl)) pgs_nil))))
    (pss_cons (ps_set (i := 14) scLaw.nd rfl (Or.inr rfl) (pe_ifExp (pt_cmpR op_lt (pv 10) pe_int (nomark _)) (pe_ix ix_tup (pe_ix ix_list (pv 6) (pv 10) (fun _ _ => rfl)) pe_int (fun _ _ => rfl)) (pe_ix ix_list (pe_lst (pa_cons pe_str (pa_cons pe_int pa_nil))) (pe_op op_sub (pv 10) pe_int) (fun _ _ => rfl))))
    (pss_cons (ps_set (i := 15) scLaw.nd rfl (Or.inl rfl) (pe_ifExp (pt_cmpR op_lt (pv 10) pe_int (nomark _)) (pe_lst (pa_cons pe_str (pa_cons (pe_ix ix_list (pe_ix ix_tup (pe_ix ix_list (pv 6) (pv 10) (fun _ _ => rfl)) pe_int (fun _ _ => rfl)) pe_int (fun _ _ => rfl)) pa_nil))) (pe_lst (pa_cons pe_str (pa_cons (pv 14) pa_nil)))))
    hs))), ?_⟩
  intro D x0 x1 x2 x8 x9 x10 x11 x12 x13 x14 x15 x16 x17 x18 A ks TT Hq n m H C hn kk
  refine ⟨_, rfl, A.s, 3, n, rfl, C.src, by omega, by decide, by decide, fun j H1 hj s1 k1 => ⟨_, rfl, A.s, 5, n + 4, rfl, s1, by omega, by decide, by decide, fun far H2 hfar s2 k2 => ⟨_, rfl, A.s, 2, n + 4 + 4, rfl, s2, by omega, by decide, by decide, fun d H3 hd s3 k3 => ⟨_, _, _, rfl, ?_⟩⟩⟩⟩
  have C3 : Cyc c TT Hq A ks H3 (n + 12) m := ((C.kept k1 s1).kept k2 s2).kept k3 s3
  obtain ⟨b, hb⟩ := bit hd
  rw [hb]
  refine ⟨_, rfl, _, rfl, A.sL, _, (j : Int), _, rfl, rfl, SqL.of C3.st.sl, atI_nat (three_at hj), A.T j, _, rfl, SqT.of (C3.st.tup j hj), rfl, _, _, rfl, _, _, rfl, rfl, ?_⟩
  refine ⟨_, rfl, _, _, rfl, rfl, _, rfl, ?_⟩
  have fact : ∀ (vo : V) (lb : Option Str) (x : V) (H4 : Hp), Same H3 H4 → Oth A ks vo lb x → ∀ o, H4 o = none → tl D [x0, x1, x2, some (.ref A.s), some (.ref A.tr), some (.ref A.eL), some (.ref A.sL), some (.ref A.cL), x8, some (.int ((j : Nat) : Int)), some (.int ((far : Nat) : Int)), some (.int (if b = true then 1 else 0)), some (.ref (A.p j)), some (.ref (A.r j)), some vo, some (.ref o), x16, x17, x18] (upd H4 o (.lst [.str (if lb.isSome = true then "key" else "plain"), x])) := fun vo lb x H4 sm ho o hno => by
    have C4 := C3.same sm
    obtain ⟨evs, evs2, ds, h1, h2, _⟩ := C4.ev
    refine kk j far b vo lb x o _ (C4.same (same_new hno)) hj ho upd_same (fun i hi => ?_) (ne_of_none h1.ls hno).symm (ne_of_none h2 hno).symm
    obtain ⟨a0, a1, q1, q2⟩ := C4.ko i hi
    exact (ne_of_none q2 hno).symm
  by_cases hf : far < 3
  · have e3 : decide (((far : Nat) : Int) < 3) = true := decide_eq_true (by omega)
    obtain ⟨cd, an, fl, e1, _⟩ := (C3.st.kn far hf).ex
    refine iteYes e3 ⟨_, rfl, _, rfl, A.sL, _, (far : Int), _, rfl, rfl, SqL.of C3.st.sl, atI_nat (three_at hf), A.T far, _, (0 : Int), _, rfl, rfl, SqT.of (C3.st.tup far hf), atI_nat (j := 0) rfl, ?_⟩
    refine ⟨_, rfl, _, _, rfl, rfl, _, rfl, iteYes e3 ⟨_, rfl, _, rfl, A.sL, _, (far : Int), _, rfl, rfl, SqL.of C3.st.sl, atI_nat (three_at hf), A.T far, _, (1 : Int), _, rfl, rfl, SqT.of (C3.st.tup far hf), atI_nat (j := 1) rfl, A.r far, _, (1 : Int), _, rfl, rfl, SqL.of e1, atI_nat (j := 1) rfl, by show 2 ≤ sizeLine; decide, fun o ho => ?_⟩⟩
    exact fact _ (some (ks far).label) _ H3 (fun _ _ z => z) (.inl ⟨far, hf, rfl, rfl, rfl⟩) o ho
  · have e3 : decide (((far : Nat) : Int) < 3) = false := decide_eq_false (by omega)
    refine iteNo e3 ⟨by show 2 ≤ sizeLine; decide, fun L hL => ?_⟩
    have y := same_new (o := .lst [.str "a", .int 5]) hL
    obtain ⟨v, ev, hv⟩ := plain2 (d := far - 3) (by omega)
    refine ⟨_, rfl, _, _, rfl, rfl, L, _, ((far : Int) - 3), v, rfl, rfl, SqL.of upd_same, ?_, ?_⟩
    · rw [show ((far : Int) - 3) = ((far - 3 : Nat) : Int) by omega]
      exact atI_nat ev
    refine ⟨_, rfl, _, _, rfl, rfl, _, rfl, iteNo e3 ⟨_, rfl, by show 2 ≤ sizeLine; decide, fun o ho => ?_⟩⟩
    exact fact v none v _ y (.inr ⟨rfl, rfl, hv⟩) o ho
theorem Mid.setE {c : Cl6} {TT : List (Addr × Str)} {Hq H0 H : Hp} {A : Ad} {ks : Nat → Kn} {n m j k0 k1 c0 c1 : Nat} {evs evs2 : List V} (M : Mid c TT Hq A ks H0 n m j k0 k1 c0 c1 evs evs2 H) (ys : List V) : Mid c TT Hq A ks H0 n m j k0 k1 c0 c1 evs ys (upd H A.eL (.lst ys)) := by
  have up : ∀ {x : Addr} {u : HO}, H x = some u → x ≠ A.eL → upd H A.eL (.lst ys) x = some u := fun e h => by rw [upd_ne h]; exact e
  obtain ⟨l0, cx0, tx0, e0, r0⟩ := M.src
  exact ⟨M.C, M.hj, M.fx.trans (fun x u e h1 h2 h3 h4 h5 h6 => up e h3), ⟨l0, cx0, tx0, up e0 (ne_of e0 M.el (by intro z; cases z)), r0⟩, tabs_updL M.ts M.el, ko_keep M.kj (fun u e => up e (M.C.p_ne M.hj).2.1) (TupK.upd M.el fun xs z => by cases z), up M.cj (M.C.c_ne M.hj).2.1,
    fun i hi hne => ⟨fun u e => up ((M.oth i hi hne).1 u e) (M.C.p_ne hi).2.1, fun u e => up ((M.oth i hi hne).2 u e) (M.C.c_ne hi).2.1⟩, ⟨⟨_, up M.tr.ob.choose_spec (ne_of M.tr.ob.choose_spec M.el (by intro z; cases z))⟩, up M.tr.ls M.C.ne.2.2.2.2⟩, upd_same⟩
/-- the count, and the way from there to the turn's end -/
theorem ok_turn {f cA fd_ gs P1 CU fD : Addr} {fdd fdD : FuncData} {c : Cl6} (B : Bl mg) (S : Dz K mg "_law_told" sTold "call" gs) (N : Nms mg c.CF c.CM CU) (Bd : Bad K c.CF c.CM CU) (TB : TabB base mg cA P1) (M : Ks6 P w K mg base c)
    (DD : Df K mg "_law_due" "_law_due" sDue ["known", "counts", "asked", "other"] fD fdD) (GD : FnOk P w K mg base CX0 1 fD fdD ["known", "counts", "asked", "other"] spDue)
    (Dd : Df K mg "_law_digit" "_law_digit" sDigit ["state", "size"] fd_ fdd) (Gdg : FnOk P w K mg base CX0 2 fd_ fdd ["state", "size"] spDigit)
    {Ar : Around} {outer : List Env} {sh : Shared} {H9 : Hp} {E9 : L2.XK} (hr : Room 13 (Ar.deeper (PyProof.Rows.envOfC "law" (defScope sLaw) sh.heap.objs.size f (.ref cA)))) (hgd : (Ar.deeper (PyProof.Rows.envOfC "law" (defScope sLaw) sh.heap.objs.size f (.ref cA))).guards = some []) :
    ∃ t, PSs (cxOf C8.CX0 P w K mg base NL "law" (defScope sLaw) f (.ref cA) Ar outer sh H9 E9).nox bIn t ∧ ∀ (D : Ends) x0 x1 x2 x8 x9 x10 x11 x12 x13 x14 x15 x16 x17 x18 (A : Ad) (ks : Nat → Kn) Hq n m H, Cyc c (tabs P1) Hq A ks H n m → n + 100 < 2 ^ 40 → m ≤ 500 →
      (∀ y9 y10 y11 y12 y13 y14 y15 y16 H', Cyc c (tabs P1) Hq A ks H' (n + 12) (m + 1) → D.nx [x0, x1, x2, some (.ref A.s), some (.ref A.tr), some (.ref A.eL), some (.ref A.sL), some (.ref A.cL), x8, y9, y10, y11, y12, y13, y14, y15, y16, x17, x18] H') →
      t D [x0, x1, x2, some (.ref A.s), some (.ref A.tr), some (.ref A.eL), some (.ref A.sL), some (.ref A.cL), x8, x9, x10, x11, x12, x13, x14, x15, x16, x17, x18] H := by
  obtain ⟨td, hsd, qd⟩ := ok_d (P := P) (w := w) (K := K) (mg := mg) (base := base) (f := f) (cA := cA) (Ar := Ar) (outer := outer) (sh := sh) (H9 := H9) (E9 := E9)
  obtain ⟨tc, hsc, qc⟩ := ok_c (C1 := c.C1) B DD GD hr hgd hsd
  obtain ⟨tb, hsb, qb⟩ := ok_b B S N Bd TB M hr hsc
  obtain ⟨ta, hsa, qa⟩ := ok_a (c := c) B Dd Gdg hr (pss_cons (ps_asg (pe_op op_add (pe_ix ix_list (pe_ix ix_list (pv 7) (pv 9) (fun _ _ => rfl)) (pv 11) (fun _ _ => rfl)) pe_int) (pg_sub (pe_ix ix_list (pv 7) (pv 9) (fun _ _ => rfl)) (pv 11) set_list)) hsb)
  refine ⟨ta, hsa, ?_⟩
  intro D x0 x1 x2 x8 x9 x10 x11 x12 x13 x14 x15 x16 x17 x18 A ks Hq n m H C hn hm kk
  refine qa D _ _ _ _ _ _ _ _ _ _ _ _ _ _ A ks (tabs P1) Hq n m H C hn fun j far b vo lb x o H1 C1 hj ho hfo no1 no2 no3 => ?_
  obtain ⟨a0, a1, hko, hcj⟩ := C1.ko j hj
  obtain ⟨evs, evs2, ds, t1, t2, t3, t4, t5, t6⟩ := C1.ev
  have main : ∀ (c0 c1 : Nat), (b = false → c0 = a0 + 1 ∧ c1 = a1) → (b = true → c0 = a0 ∧ c1 = a1 + 1) → tb D [x0, x1, x2, some (.ref A.s), some (.ref A.tr), some (.ref A.eL), some (.ref A.sL), some (.ref A.cL), x8, some (.int ((j : Nat) : Int)), some (.int ((far : Nat) : Int)), some (.int (if b = true then 1 else 0)), some (.ref (A.p j)), some (.ref (A.r j)), some vo, some (.ref o), x16, x17, x18] (upd H1 (A.c j) (.lst [.int (c0 : Int), .int (c1 : Int)])) := fun c0 c1 hc0 hc1 => by
    have pn := C1.p_ne hj
    have cn := C1.c_ne hj
    have up : ∀ {x : Addr} {u : HO}, H1 x = some u → x ≠ A.c j → upd H1 (A.c j) (.lst [.int (c0 : Int), .int (c1 : Int)]) x = some u := fun e h => by rw [upd_ne h]; exact e
    have fx1 : Fx A H1 (upd H1 (A.c j) (.lst [.int (c0 : Int), .int (c1 : Int)])) := fun x u e h1 h2 h3 h4 h5 h6 => up e (h5 j hj)
    have tk1 := C1.tupk fx1
    obtain ⟨dx, evs0, q1, q2, q3⟩ := C1.tr_ne
    have trc : A.tr ≠ A.c j := ne_of q1 hcj (by intro z; cases z)
    obtain ⟨l0, cx0, tx0, e0, r0⟩ := C1.src
    have M1 : Mid c (tabs P1) Hq A ks H1 (n + 12) m j a0 a1 c0 c1 evs evs2 (upd H1 (A.c j) (.lst [.int (c0 : Int), .int (c1 : Int)])) :=
      ⟨C1, hj, fx1, ⟨l0, cx0, tx0, up e0 cn.2.2.symm, r0⟩, tabs_updL C1.ts hcj, ko_keep hko (fun u e => up e (pn.2.2.2 j hj)) tk1, upd_same, fun i hi hne => ⟨fun u e => up e ((C1.p_ne hi).2.2.2 j hj), fun u e => up e (C1.cne i j hi hj hne)⟩, ⟨⟨_, up t1.ob.choose_spec trc⟩, up t1.ls cn.1.symm⟩, up t2 cn.2.1.symm⟩
    refine qb D _ _ _ _ _ _ _ _ _ _ _ _ _ _ _ _ A ks Hq H1 (n + 12) m j a0 a1 c0 c1 b evs evs2 vo lb x _ M1 (by omega) ho fun L H2 ⟨b0, b1, evs', hf, ht, hL, M2, e1, e2⟩ fr2 => ?_
    have hc : b0 = c0 ∧ b1 = c1 := by
      cases b with
      | false => exact ⟨(hf rfl).1.trans (hc0 rfl).1.symm, (hf rfl).2.trans (hc0 rfl).2.symm⟩
      | true => exact ⟨(ht rfl).1.trans (hc1 rfl).1.symm, (ht rfl).2.trans (hc1 rfl).2.symm⟩
    obtain ⟨rfl, rfl⟩ := hc
    have S2 := M2.C.stat M2.fx
    have turn : (if b = true then a1 + 1 else a0 + 1) = (if b = true then b1 else b0) := by
      cases b with
      | false => exact (hf rfl).1.symm
      | true => exact (ht rfl).2.symm
    rw [turn] at hL
    obtain ⟨Cp, dxp, fsp, hp, hlab, ki⟩ := ko_cls M M2.kj
    obtain ⟨Cq, dxq, fsq, hpq, _⟩ := ko_ins hko
    have o2 : H2 o = some (.lst [.str (if lb.isSome = true then "key" else "plain"), x]) := fr2 _ _ (up hfo (no1 j hj)) no2 (ne_of hfo hpq (by intro z; cases z)) (fun ps z => by cases z)
    refine qc D _ _ _ _ _ _ _ A.cL (A.c j) (A.r j) o (A.p j) L j _ _ _ _ _ (ks j) b x lb _ b0 b1 _ _ _ H2 S2.cl (three_at hj) M2.cj (S2.kn j hj) (M2.C.ok j hj) o2 (fun y hy => ?_) hL ?_ hp hlab ki fun H3 s3 => ?_
    · rcases ho with ⟨i, hi, rfl, rfl, rfl⟩ | ⟨rfl, rfl, _⟩
      · cases hy
        exact ⟨rfl, (M2.C.ok i hi).st.1⟩
      · cases hy
    · rw [← turn]
      cases b <;> simp
    have M3 := M2.same s3
    have hl2 : evs'.length ≤ m + 1 := by
      cases htr : (ks j).traced with
      | false => rw [e1 htr]; omega
      | true =>
        obtain ⟨tt, e3, _⟩ := e2 htr
        rw [e3, List.length_append]
        show evs.length + 1 ≤ m + 1
        omega
    obtain ⟨d, w1, w2, w3⟩ := ev_dt ho C1.ok (C1.ok j hj) b
    have tkx := (C1.tupk M3.fx)
    have st3 := M3.C.stat M3.fx
    refine qd D _ _ _ _ _ A.eL (A.r j) o _ _ _ _ _ _ _ _ _ _ (ks j) b x _ evs2 H3 (st3.kn j hj) (s3 _ _ o2) M3.el (by omega) (fun htr => ?_) (fun htr t hnt => ?_)
    · rw [e1 htr] at M3
      exact kk _ _ _ _ _ _ _ _ _ (M3.done (t3.keep tkx) (t4.keep tkx) (by omega) (by omega))
    · obtain ⟨tt, e3, e4⟩ := e2 htr
      have y := same_new (o := .tup (evL (ks j) b x)) hnt
      have M4 := M3.same y
      have M5 := M4.setE (evs2 ++ [.ref t])
      have tk5 := C1.tupk M5.fx
      have tk35 : TupK H3 (upd (upd H3 t (.tup (evL (ks j) b x))) A.eL (.lst (evs2 ++ [.ref t]))) := (TupK.of y).trans (TupK.upd M4.el fun xs z => by cases z)
      have et : upd (upd H3 t (.tup (evL (ks j) b x))) A.eL (.lst (evs2 ++ [.ref t])) t = some (.tup (evL (ks j) b x)) := TupK.upd M4.el (fun xs z => by cases z) _ _ upd_same
      rw [e3] at M5
      exact kk _ _ _ _ _ _ _ _ _ (M5.done ((t3.keep tk5).app (w1 _ _ (tk35 _ _ (s3 _ _ e4))) w2 w3) ((t4.keep tk5).app (w1 _ _ et) w2 w3) (by rw [List.length_append]; show evs.length + 1 ≤ m + 1; omega) (by rw [List.length_append]; show evs2.length + 1 ≤ m + 1; omega))
  cases b with
  | false =>
    refine ⟨_, rfl, _, rfl, A.cL, _, (j : Int), _, rfl, rfl, SqL.of C1.st.cl, atI_nat (three_at hj), _, rfl, A.c j, _, (0 : Int), _, rfl, rfl, SqL.of hcj, atI_nat (j := 0) rfl, _, _, rfl, rfl, _, rfl, _, rfl, A.cL, _, (j : Int), _, rfl, rfl, SqL.of C1.st.cl, atI_nat (three_at hj), _, rfl, A.c j, _, (0 : Int), 0, rfl, rfl, hcj, rfl, ?_⟩
    exact main (a0 + 1) a1 (fun _ => ⟨rfl, rfl⟩) (fun z => nomatch z)
  | true =>
    refine ⟨_, rfl, _, rfl, A.cL, _, (j : Int), _, rfl, rfl, SqL.of C1.st.cl, atI_nat (three_at hj), _, rfl, A.c j, _, (1 : Int), _, rfl, rfl, SqL.of hcj, atI_nat (j := 1) rfl, _, _, rfl, rfl, _, rfl, _, rfl, A.cL, _, (j : Int), _, rfl, rfl, SqL.of C1.st.cl, atI_nat (three_at hj), _, rfl, A.c j, _, (1 : Int), 1, rfl, rfl, hcj, rfl, ?_⟩
    exact main a0 (a1 + 1) (fun z => nomatch z) (fun _ => ⟨rfl, rfl⟩)
end
end K02
set_option Elab.async false
set_option linter.all false
set_option maxRecDepth 100000
set_option maxHeartbeats 4000000
namespace K02
open PySem L2 Xo Lm LamX
/-- which class is of which kind -/
structure Kit (K : PySem.W.Frag) (c : Cl6) : Prop where
  t1 : PySem.W.kitOne K (.ref c.C1) (.ref c.C2) = some false
  t2 : PySem.W.kitOne K (.ref c.C2) (.ref c.C2) = some true
  t3 : PySem.W.kitOne K (.ref c.C3) (.ref c.C2) = some false
  t4 : PySem.W.kitOne K (.ref c.C4) (.ref c.C2) = some true
  tD : PySem.W.kitOne K (.ref c.CD) (.ref c.C2) = some false
  tL : PySem.W.kitOne K (.ref c.CL) (.ref c.C2) = some false
  f1 : PySem.W.kitOne K (.ref c.C1) (.ref c.C3) = some false
  f2 : PySem.W.kitOne K (.ref c.C2) (.ref c.C3) = some false
  f3 : PySem.W.kitOne K (.ref c.C3) (.ref c.C3) = some true
  f4 : PySem.W.kitOne K (.ref c.C4) (.ref c.C3) = some true
  fD : PySem.W.kitOne K (.ref c.CD) (.ref c.C3) = some false
  fL : PySem.W.kitOne K (.ref c.CL) (.ref c.C3) = some false
section
variable {P : Program} {w : World} {K : PySem.W.Frag} {mg : Str → Option Value} {base : Heap}
theorem ko_kit {c : Cl6} {tr : Addr} {H : Hp} {p : Addr} {k : Kn} {a0 a1 : Nat} (M : Ks6 P w K mg base c) (T : Kit K c) (h : KoC c tr H (.ref p) k a0 a1) : ∃ C dx fs, H p = some (.ins C dx fs) ∧ KIns K C c.C1 ∧ PySem.W.kitOne K (.ref C) (.ref c.C2) = some (inV (.int (k.way : Int)) [.int 1, .int 3]) ∧ PySem.W.kitOne K (.ref C) (.ref c.C3) = some (inV (.int (k.way : Int)) [.int 2, .int 3]) := by
  cases h with
  | key hw h h1 h2 h3 => rw [hw]; exact ⟨_, _, _, h, M.M1.ki, T.t1, T.f1⟩
  | tr hw h h1 h2 h3 => rw [hw]; exact ⟨_, _, _, h, M.M2.ki, T.t2, T.f2⟩
  | fail hw h h1 h2 => rw [hw]; exact ⟨_, _, _, h, M.M3.ki, T.t3, T.f3⟩
  | tf hw h h1 h2 => rw [hw]; exact ⟨_, _, _, h, M.M4.ki, T.t4, T.f4⟩
  | drift hw h hc h2 h3 => rw [hw]; exact ⟨_, _, _, h, M.MD.ki, T.tD, T.fD⟩
  | lop hw h hc h1 h2 h3 => rw [hw]; exact ⟨_, _, _, h, M.ML.ki, T.tL, T.fL⟩
theorem ev_eq {ds : List PyData} (h : PyData.canLayAll0 ds = true) : PyData.eqv (.list ds) (.list ds) = true := PySem.SeqAt.eqv_refl _ (by rw [PyData.canLay0, h])
theorem ok_tail {f cA fE fN P1 : Addr} {fdE fdN : FuncData} {c : Cl6} (B : Bl mg) (M : Ks6 P w K mg base c) (T : Kit K c) (g1 : mg "Key" = some (.ref c.C1)) (g2 : mg "TracedKey" = some (.ref c.C2)) (g3 : mg "FailingKey" = some (.ref c.C3)) (clT : Cls K c.CT) (ME : Meth K c.CT "events" fE) (GE : FnOk P w K mg base CX0 1 fE fdE ["self"] (spTrE c.CT)) (bE : Binds K fdE ["self"] [])
    (MN : Meth K c.CT "note" fN) (GN : FnOk P w K mg base CX0 1 fN fdN ["self", "event"] (spTrN c.CT)) (bN : Binds K fdN ["self", "event"] [])
    {Ar : Around} {outer : List Env} {sh : Shared} {H9 : Hp} {E9 : L2.XK} (hr : Room 13 (Ar.deeper (PyProof.Rows.envOfC "law" (defScope sLaw) sh.heap.objs.size f (.ref cA)))) :
    ∃ t, PSs (cxOf C8.CX0 P w K mg base NL "law" (defScope sLaw) f (.ref cA) Ar outer sh H9 E9).nox (bLaw.drop 4) t ∧ ∀ (D : Ends) x0 x1 x2 x8 x9 x10 x11 x12 x13 x14 x15 x16 x17 x18 (A : Ad) (ks : Nat → Kn) Hq n m H, Cyc c (tabs P1) Hq A ks H n m → m ≤ 500 →
      (∀ y12 y13 y17 H', ExtN Hq H' → Tabs (tabs P1) H' → D.nx [x0, x1, x2, some (.ref A.s), some (.ref A.tr), some (.ref A.eL), some (.ref A.sL), some (.ref A.cL), x8, x9, x10, x11, y12, y13, x14, x15, x16, y17, x18] H') →
      t D [x0, x1, x2, some (.ref A.s), some (.ref A.tr), some (.ref A.eL), some (.ref A.sL), some (.ref A.cL), x8, x9, x10, x11, x12, x13, x14, x15, x16, x17, x18] H := by
  have hu64 := hr.units
  refine ⟨_, pss_cons (ps_if (pt_cmpR (op_neD hu64) (pe_meth0 (pv 4) clT ME GE (hr.mono (by decide)) bE .nil pass0) (pv 5) (nomark _)) (pss_one (ps_ret pe_bl)) pss_nil)
    (pss_cons (ps_for PassesOwn.never rfl (pi_list (pv 6)) (pg_tup rfl (pgs_cons (pg_name (i := 12) scLaw.nd rfl (Or.inr rfl)) (pgs_cons (pg_name (i := 13) scLaw.nd rfl (Or.inl rfl)) pgs_nil)))
      (pss_cons (ps_set (i := 17) scLaw.nd rfl (Or.inl rfl) (pe_lst (pa_cons (pe_callB call_isi (by rfl) B.isinstance (by decide +kernel) (pa_cons (pv 12) (pa_cons (pe_glob (v := .ref c.C1) rfl g1 rfl) pa_nil))) (pa_cons (pe_callB call_isi (by rfl) B.isinstance (by decide +kernel) (pa_cons (pv 12) (pa_cons (pe_glob (v := .ref c.C2) rfl g2 rfl) pa_nil))) (pa_cons (pe_callB call_isi (by rfl) B.isinstance (by decide +kernel) (pa_cons (pv 12) (pa_cons (pe_glob (v := .ref c.C3) rfl g3 rfl) pa_nil))) pa_nil)))))
      (pss_one (ps_if (pt_cmpR (op_neD hu64) (pv 17) (pe_lst (pa_cons pe_bl (pa_cons (pe_cmpR op_in_seq (pe_ix ix_list (pv 13) pe_int (fun _ _ => rfl)) (pe_tup (pa_cons pe_int (pa_cons pe_int pa_nil))) (by rfl)) (pa_cons (pe_cmpR op_in_seq (pe_ix ix_list (pv 13) pe_int (fun _ _ => rfl)) (pe_tup (pa_cons pe_int (pa_cons pe_int pa_nil))) (by rfl)) pa_nil)))) (nomark _)) (pss_one (ps_ret pe_bl)) pss_nil))))
    (pss_cons (ps_expr (pe_bm PySem.F.plainAttrs_list PySem.F.slot_list_append PySem.F.type_list_append mt_append (pe_meth0 (pv 4) clT ME GE (hr.mono (by decide)) bE .nil pass0) (pa_cons pe_str pa_nil)))
    (pss_cons (ps_expr (pe_meth (pv 4) clT MN GN (hr.mono (by decide)) bN .nil pass0 (pa_cons pe_str pa_nil)))
    (pss_one (ps_if (pt_cmpR (op_neD hu64) (pe_meth0 (pv 4) clT ME GE (hr.mono (by decide)) bE .nil pass0) (pe_op op_cat (pv 5) (pe_lst (pa_cons pe_str pa_nil))) (nomark _)) (pss_one (ps_ret pe_bl)) pss_nil))))), ?_⟩
  intro D x0 x1 x2 x8 x9 x10 x11 x12 x13 x14 x15 x16 x17 x18 A ks Hq n m H C hm kk
  obtain ⟨evs, evs2, ds, t1, t2, t3, t4, t5, t6⟩ := C.ev
  obtain ⟨dt, ho⟩ := t1.ob
  refine ⟨_, rfl, A.tr, dt, _, rfl, ho, rfl, A.tr, A.l, evs, rfl, t1, fun q hq => ⟨_, rfl, .list ds, .list ds, .lst (SqL.of upd_same) (t3.keep (.of (same_new hq))).1.dp, .lst (SqL.of (same_new hq _ _ t2)) (t4.keep (.of (same_new hq))).1.dp, t3.shaped, t4.shaped, _, rfl, iteNo (by rw [ev_eq t3.2.1]; rfl) ?_⟩⟩
  have C1 := C.same (same_new (o := .lst evs) hq)
  generalize upd H q (.lst evs) = H1 at C1 ⊢
  clear t1 t2 t3 t4 t5 t6 ho dt evs evs2 ds hq
  refine ⟨_, rfl, A.sL, rfl, ⟨_, SqL.of C1.st.sl⟩, for_list (K := K) (a := A.sL) (xs := [.ref (A.T 0), .ref (A.T 1), .ref (A.T 2)]) (fun i σ H' => (∃ y12 y13 y17, σ = [x0, x1, x2, some (.ref A.s), some (.ref A.tr), some (.ref A.eL), some (.ref A.sL), some (.ref A.cL), x8, x9, x10, x11, y12, y13, x14, x15, x16, y17, x18]) ∧ Cyc c (tabs P1) Hq A ks H' n m) ⟨⟨_, _, _, rfl⟩, C1⟩ (fun i σ H' _ h => SqL.of h.2.st.sl) ?_ ?_⟩
  · rintro i x σ H' hx ⟨⟨y12, y13, y17, rfl⟩, C2⟩
    have hi : i < 3 := (List.getElem?_eq_some_iff.mp hx).1
    rw [three_at hi] at hx
    obtain rfl := Option.some.inj hx
    obtain ⟨a0, a1, k1, k2⟩ := C2.ko i hi
    obtain ⟨Cp, dx, fs, hp, ki, kt, kf⟩ := ko_kit M T k1
    obtain ⟨cd, an, fl, e1, _⟩ := (C2.st.kn i hi).ex
    refine ⟨A.T i, _, rfl, SqT.of (C2.st.tup i hi), rfl, _, _, rfl, _, _, rfl, rfl, ?_⟩
    refine ⟨_, rfl, _, _, _, _, _, rfl, .own _, .base (.ins hp ki.cl ki.ha ki.hn ki.htk ki.hm), ki.kk, _, rfl, _, _, _, _, _, rfl, .own _, .base (.ins hp ki.cl ki.ha ki.hn ki.htk ki.hm), kt, _, rfl, _, _, _, _, _, rfl, .own _, .base (.ins hp ki.cl ki.ha ki.hn ki.htk ki.hm), kf, by show 3 ≤ sizeLine; decide, fun L hL => ?_⟩
    have y := same_new (o := .lst [.bl true, .bl (inV (.int ((ks i).way : Int)) [.int 1, .int 3]), .bl (inV (.int ((ks i).way : Int)) [.int 2, .int 3])]) hL
    have C3 := C2.same y
    have eL := upd_same (H := H') (a := L) (o := .lst [.bl true, .bl (inV (.int ((ks i).way : Int)) [.int 1, .int 3]), .bl (inV (.int ((ks i).way : Int)) [.int 2, .int 3])])
    have e2 := y _ _ e1
    generalize upd H' L (.lst [.bl true, .bl (inV (.int ((ks i).way : Int)) [.int 1, .int 3]), .bl (inV (.int ((ks i).way : Int)) [.int 2, .int 3])]) = H3 at C3 eL e2 ⊢
    refine ⟨_, rfl, _, rfl, A.r i, _, (0 : Int), _, rfl, rfl, SqL.of e2, atI_nat (j := 0) rfl, by show 2 ≤ sizeLine; decide, fun t ht => ?_⟩
    have z1 := same_new (o := .tup [.int 1, .int 3]) ht
    refine ⟨t, _, rfl, .inr (SqT.of upd_same), rfl, rfl, ?_⟩
    refine ⟨_, rfl, A.r i, _, (0 : Int), _, rfl, rfl, SqL.of (z1 _ _ e2), atI_nat (j := 0) rfl, by show 2 ≤ sizeLine; decide, fun t' ht' => ?_⟩
    have z2 := same_new (o := .tup [.int 2, .int 3]) ht'
    refine ⟨t', _, rfl, .inr (SqT.of upd_same), rfl, rfl, by show 3 ≤ sizeLine; decide, fun L2 hL2 => ?_⟩
    have z3 := same_new (o := .lst [.bl true, .bl (inV (.int ((ks i).way : Int)) [.int 1, .int 3]), .bl (inV (.int ((ks i).way : Int)) [.int 2, .int 3])]) hL2
    have sy := (z1.trans z2).trans z3
    refine ⟨.list [.bool true, .bool (inV (.int ((ks i).way : Int)) [.int 1, .int 3]), .bool (inV (.int ((ks i).way : Int)) [.int 2, .int 3])], .list [.bool true, .bool (inV (.int ((ks i).way : Int)) [.int 1, .int 3]), .bool (inV (.int ((ks i).way : Int)) [.int 2, .int 3])],
      .lst (SqL.of (sy _ _ eL)) (.cons (.bl _) (.cons (.bl _) (.cons (.bl _) .nil))), .lst (SqL.of upd_same) (.cons (.bl _) (.cons (.bl _) (.cons (.bl _) .nil))), ?_, ?_, _, rfl, iteNo ?_ ⟨⟨_, _, _, rfl⟩, C3.same sy⟩⟩
    · generalize inV (.int ((ks i).way : Int)) [.int 1, .int 3] = b1
      generalize inV (.int ((ks i).way : Int)) [.int 2, .int 3] = b2
      cases b1 <;> cases b2 <;> decide +kernel
    · generalize inV (.int ((ks i).way : Int)) [.int 1, .int 3] = b1
      generalize inV (.int ((ks i).way : Int)) [.int 2, .int 3] = b2
      cases b1 <;> cases b2 <;> decide +kernel
    · generalize inV (.int ((ks i).way : Int)) [.int 1, .int 3] = b1
      generalize inV (.int ((ks i).way : Int)) [.int 2, .int 3] = b2
      cases b1 <;> cases b2 <;> decide +kernel
  · rintro σ H2 ⟨⟨y12, y13, y17, rfl⟩, C2⟩
    obtain ⟨evs, evs2, ds, t1, t2, t3, t4, t5, t6⟩ := C2.ev
    obtain ⟨dt, ho⟩ := t1.ob
    refine ⟨_, rfl, A.tr, dt, _, rfl, ho, rfl, A.tr, A.l, evs, rfl, t1, fun q hq => ⟨.inl ⟨rfl, _, SqL.of upd_same⟩, q, _, _, rfl, rfl, upd_same, Nat.lt_of_le_of_lt (show evs.length ≤ 600 by omega) (by decide), ?_⟩⟩
    have y := Cm.same_upd (o := .lst (evs ++ [.str "more"])) (same_new (o := .lst evs) hq) hq
    have C3 := C2.same y
    have t1' := t1.same y
    have t2' := y _ _ t2
    have t3' := t3.keep (.of y)
    have t4' := t4.keep (.of y)
    have ho' := y _ _ ho
    show tSeq _ _ _ _ (upd (upd H2 q (.lst evs)) q (.lst (evs ++ [.str "more"])))
    generalize upd (upd H2 q (.lst evs)) q (.lst (evs ++ [.str "more"])) = H3 at C3 t1' t2' t3' t4' ho' ⊢
    refine ⟨_, rfl, A.tr, dt, _, rfl, ho', rfl, A.tr, A.l, evs, .str "last", rfl, t1', by omega, ?_⟩
    have up : ∀ {x : Addr} {u : HO}, H3 x = some u → x ≠ A.l → upd H3 A.l (.lst (evs ++ [.str "last"])) x = some u := fun e h => by rw [upd_ne h]; exact e
    have ho4 := up ho' (ne_of ho' t1'.ls (by intro z; cases z))
    have t4e := up t2' C3.ne.2.2.2.2.symm
    have tk : TupK H3 (upd H3 A.l (.lst (evs ++ [.str "last"]))) := TupK.upd t1'.ls fun xs z => by cases z
    have ex4 : ExtN Hq (upd H3 A.l (.lst (evs ++ [.str "last"]))) := fun b o e z => up (C3.ext b o e z) (C3.new.2.1.ne e z)
    have ts4 := tabs_updL (o := .lst (evs ++ [.str "last"])) C3.ts t1'.ls
    have t5' := t3'.keep tk
    have t6' := t4'.keep tk
    have l4 := upd_same (H := H3) (a := A.l) (o := .lst (evs ++ [.str "last"]))
    generalize upd H3 A.l (.lst (evs ++ [.str "last"])) = H4 at ho4 t4e tk ex4 ts4 t5' t6' l4 ⊢
    refine ⟨_, rfl, A.tr, dt, _, rfl, ho4, rfl, A.tr, A.l, evs ++ [.str "last"], rfl, ⟨⟨dt, ho4⟩, l4⟩, fun q3 hq3 => ?_⟩
    have z1 := same_new (o := .lst (evs ++ [.str "last"])) hq3
    refine ⟨_, rfl, by show 1 ≤ sizeLine; decide, fun u hu => ?_⟩
    have z2 := same_new (o := .lst [.str "last"]) hu
    refine ⟨A.eL, u, _, _, rfl, rfl, z2 _ _ (z1 _ _ t4e), upd_same, Nat.le_trans (show evs2.length + 1 ≤ 600 by omega) (by decide), fun v hv => ?_⟩
    have z3 := same_new (o := .lst (evs2 ++ [.str "last"])) hv
    have sz := (z1.trans z2).trans z3
    obtain ⟨la, lb⟩ := lay_app ds (.str "last") t5'.2.1 t5'.2.2.1 (by decide +kernel) (by simp [PyData.depth])
    have shp : SeqAt.shaped (.list (ds ++ [.str "last"])) = true := by
      unfold SeqAt.shaped
      rw [PyData.canLay0, la, PyData.depth, Bool.true_and, decide_eq_true_iff]
      omega
    refine ⟨.list (ds ++ [.str "last"]), .list (ds ++ [.str "last"]), .lst (SqL.of ((z2.trans z3) _ _ upd_same)) ((t5'.keep (.of sz)).1.app (.str _)).dp, .lst (SqL.of upd_same) ((t6'.keep (.of sz)).1.app (.str _)).dp, shp, shp, _, rfl, iteNo (by rw [ev_eq la]; rfl) ?_⟩
    exact kk _ _ _ _ (fun b o e z => sz _ _ (ex4 b o e z)) (ts4.ext sz)
end
end K02
set_option Elab.async false
set_option linter.all false
set_option maxRecDepth 100000
set_option maxHeartbeats 4000000
namespace K02
open PySem L2 Xo Lm LamX
theorem none_of_same {H H1 : Hp} {a : Addr} (s : Same H H1) (h : H1 a = none) : H a = none := by
  cases z : H a with
  | none => rfl
  | some o => rw [s _ _ z] at h; cases h
def setAt {α : Type} (f : Nat → α) (i : Nat) (x : α) : Nat → α := fun j => if j = i then x else f j
theorem setAt_same {α : Type} {f : Nat → α} {i : Nat} {x : α} : setAt f i x i = x := if_pos rfl
theorem setAt_ne {α : Type} {f : Nat → α} {i j : Nat} {x : α} (h : j ≠ i) : setAt f i x j = f j := if_neg h
theorem map_set {f : Nat → Addr} {i : Nat} {x : Addr} : ((List.range (i + 1)).map fun j => V.ref (setAt f i x j)) = ((List.range i).map fun j => V.ref (f j)) ++ [V.ref x] := by
  rw [List.range_succ, List.map_append]
  congr 1
  · refine List.map_congr_left fun j hj => ?_
    rw [setAt_ne (Nat.ne_of_lt (List.mem_range.mp hj))]
  · show [V.ref (setAt f i x i)] = _
    rw [setAt_same]
section
variable {P : Program} {w : World} {K : PySem.W.Frag} {mg : Str → Option Value} {base : Heap}
/-- the keys that are drawn so far -/
structure Ks (c : Cl6) (H1 H' : Hp) (s tr D : Addr) (n i : Nat) (T p r : Nat → Addr) (ks : Nat → Kn) : Prop where
  at_ : H' D = some (.lst ((List.range i).map fun j => V.ref (T j)))
  tup : ∀ j, j < i → H' (T j) = some (.tup [.ref (p j), .ref (r j)])
  kn : ∀ j, j < i → KnAt H' (r j) (ks j)
  ok : ∀ j, j < i → (ks j).Ok
  ko : ∀ j, j < i → KoC c tr H' (.ref (p j)) (ks j) 0 0
  new : ∀ j, j < i → H1 (p j) = none
  ne : ∀ a b, a < i → b < i → a ≠ b → p a ≠ p b
  src : Src H' s (n + i * 60)
  kp : KeptS H1 H' s
theorem ok_head {f cA fd_ fk P1 : Addr} {fdd fdk : FuncData} {c : Cl6} (B : Bl mg) (Dd : Df K mg "_law_digit" "_law_digit" sDigit ["state", "size"] fd_ fdd) (Gdg : FnOk P w K mg base CX0 2 fd_ fdd ["state", "size"] spDigit)
    (Dk : Df K mg "_law_key" "_law_key" sLKey ["state", "trace"] fk fdk) (Gk : FnOk P w K mg base CX0 10 fk fdk ["state", "trace"] (spLKey K c.C1 c.C2 c.C3 c.C4 c.CD c.CL))
    {Ar : Around} {outer : List Env} {sh : Shared} {H9 : Hp} {E9 : L2.XK} {tl : TS} (hr : Room 13 (Ar.deeper (PyProof.Rows.envOfC "law" (defScope sLaw) sh.heap.objs.size f (.ref cA))))
    (hs : PSs (cxOf C8.CX0 P w K mg base NL "law" (defScope sLaw) f (.ref cA) Ar outer sh H9 E9).nox (bLaw.drop 3) tl) :
    ∃ t, PSs (cxOf C8.CX0 P w K mg base NL "law" (defScope sLaw) f (.ref cA) Ar outer sh H9 E9).nox (bLaw.drop 1) t ∧ ∀ (D : Ends) x0 x1 x2 x6 x7 x8 x9 x10 x11 x12 x13 x14 x15 x16 x17 x18 (s tr l eL : Addr) n Hq H, ExtN Hq H → Tabs (tabs P1) H → Src H s n → n + 500 < 2 ^ 40 → TrAt c.CT H tr l [] → H eL = some (.lst []) → l ≠ eL → Nt Hq s → Nt Hq l → Nt Hq eL → (∀ a, H a = none → Nt Hq a) →
      (∀ (A : Ad) ks H', A.s = s → A.tr = tr → A.l = l → A.eL = eL → Cyc c (tabs P1) Hq A ks H' (n + 180) 0 → tl D [x0, x1, x2, some (.ref A.s), some (.ref A.tr), some (.ref A.eL), some (.ref A.sL), some (.ref A.cL), x8, x9, x10, x11, x12, x13, x14, x15, x16, x17, x18] H') →
      t D [x0, x1, x2, some (.ref s), some (.ref tr), some (.ref eL), x6, x7, x8, x9, x10, x11, x12, x13, x14, x15, x16, x17, x18] H := by
  refine ⟨_, pss_cons (ps_setLc (i := 6) (own := [("j", 18)]) (g := gName 18) (tt := tYes) rfl scLaw.nd rfl rfl (sw_true rfl rfl rfl (by decide +kernel)) (pi_range1 rfl B.range (pa_cons pe_int pa_nil)) (blkOk_by (own := [("j", 18)]) (N := NL) (sc := defScope sLaw) (by decide +kernel)) (fun _ _ _ _ _ => pg_name (i := 18) scLaw.nd rfl (Or.inl rfl)) (fun _ _ _ _ _ => pts_nil)
      (fun _ _ _ _ _ => pe_call Gk (hr.mono (by decide)) rfl Dk.g Dk.F.kp Dk.b .nil pass0 (pa_cons (pv 3) (pa_cons (pv 4) pa_nil))))
    (pss_cons (ps_setLc (i := 7) (own := [("j", 18)]) (g := gName 18) (tt := tYes) rfl scLaw.nd rfl rfl (sw_true rfl rfl rfl (by decide +kernel)) (pi_range1 rfl B.range (pa_cons pe_int pa_nil)) (blkOk_by (own := [("j", 18)]) (N := NL) (sc := defScope sLaw) (by decide +kernel)) (fun _ _ _ _ _ => pg_name (i := 18) scLaw.nd rfl (Or.inl rfl)) (fun _ _ _ _ _ => pts_nil)
      (fun _ _ _ _ _ => pe_lst (pa_cons pe_int (pa_cons pe_int pa_nil)))) hs), ?_⟩
  intro D x0 x1 x2 x6 x7 x8 x9 x10 x11 x12 x13 x14 x15 x16 x17 x18 s tr l eL n Hq H ex ts src hn hT he hle hqs hql hqe hnone kk
  refine ⟨3, rfl, by decide, by decide, fun Dl hDl => ?_⟩
  refine lc_range (lo := 0) (fun i H' => ∃ T p r ks, Ks c H H' s tr Dl n i T p r ks) ?_ ?_ ?_
  · have y := same_new (o := .lst []) hDl
    exact ⟨fun _ => 0, fun _ => 0, fun _ => 0, fun _ => ⟨0, "", [], [], 0, 0⟩, upd_same, (fun j hj => absurd hj (Nat.not_lt_zero j)), (fun j hj => absurd hj (Nat.not_lt_zero j)), (fun j hj => absurd hj (Nat.not_lt_zero j)), (fun j hj => absurd hj (Nat.not_lt_zero j)), (fun j hj => absurd hj (Nat.not_lt_zero j)), (fun a b ha => absurd ha (Nat.not_lt_zero a)), (src.same y).mono (by omega), KeptS.of y⟩
  · rintro i Hi hi ⟨T, p, r, ks, S⟩
    have hi : i < 3 := hi
    refine ⟨rfl, _, rfl, _, rfl, s, n + i * 60, tr, rfl, S.src, by omega, fun t r' v k H2 e1 e2 e3 e4 e5 s2 k2 => ?_⟩
    obtain ⟨p', rfl⟩ : ∃ p', v = .ref p' := by cases e4 <;> exact ⟨_, rfl⟩
    have hp' := e5 p' rfl
    obtain ⟨kvs, es⟩ := S.src.at
    have nDs : Dl ≠ s := (ne_of_none src.at.choose_spec hDl).symm
    have eD := k2 _ _ S.at_ nDs
    have tk : TupK Hi H2 := .ofK ⟨_, es⟩ k2
    have up : ∀ {b : Addr} {o : HO}, H2 b = some o → b ≠ Dl → ∀ ys, upd H2 Dl (.lst ys) b = some o := fun e h ys => by rw [upd_ne h]; exact e
    have tk2 : ∀ ys, TupK H2 (upd H2 Dl (.lst ys)) := fun ys => TupK.upd eD fun xs z => by cases z
    have knK : ∀ {q : Addr} {k : Kn} ys, KnAt H2 q k → q ≠ Dl → KnAt (upd H2 Dl (.lst ys)) q k := fun ys ⟨cd, an, fl, a, b, c, d⟩ h => ⟨cd, an, fl, up a h ys, tk2 ys _ _ b, tk2 ys _ _ c, tk2 ys _ _ d⟩
    have rne : ∀ {q : Addr} {k : Kn}, KnAt H2 q k → q ≠ Dl := fun ⟨cd, an, fl, a, _⟩ => lst_ne eD a (by rw [List.length_map, List.length_range]; show i ≠ 5; omega)
    refine ⟨_, eD, by rw [List.length_map, List.length_range]; exact Nat.lt_of_lt_of_le (show i < 100 by omega) (by decide), setAt T i t, setAt p i p', setAt r i r', setAt ks i k, ?_, fun j hj => ?_, fun j hj => ?_, fun j hj => ?_, fun j hj => ?_, fun j hj => ?_, fun a b ha hb hab => ?_, ?_, ?_⟩
    · rw [upd_same, map_set]
    · by_cases e : j = i
      · subst e
        rw [setAt_same, setAt_same, setAt_same]
        exact tk2 _ _ _ e1
      · rw [setAt_ne e, setAt_ne e, setAt_ne e]
        exact tk2 _ _ _ (tk _ _ (S.tup j (by omega)))
    · by_cases e : j = i
      · subst e
        rw [setAt_same, setAt_same]
        exact knK _ e2 (rne e2)
      · rw [setAt_ne e, setAt_ne e]
        obtain ⟨cd, an, fl, a, b, c, d⟩ := (S.kn j (by omega)).ex
        have kx : KnAt H2 (r j) (ks j) := ⟨cd, an, fl, k2 _ _ a (ne_of a es (by intro z; cases z)), tk _ _ b, tk _ _ c, tk _ _ d⟩
        exact knK _ kx (rne kx)
    · by_cases e : j = i
      · subst e
        rw [setAt_same]
        exact e3
      · rw [setAt_ne e]
        exact S.ok j (by omega)
    · by_cases e : j = i
      · subst e
        rw [setAt_same, setAt_same]
        obtain ⟨C', dx, fs, q, _⟩ := ko_ins (c := c) e4
        exact ko_keep (c := c) e4 (fun o z => up z (ne_of q eD (by intro z; cases z)) _) (tk2 _)
      · rw [setAt_ne e, setAt_ne e]
        have q0 := S.ko j (by omega)
        obtain ⟨C', dx, fs, q, _⟩ := ko_ins q0
        have q1 := ko_keep q0 (fun o z => k2 _ _ z (ne_of q es (by intro z; cases z))) tk
        exact ko_keep q1 (fun o z => up z (ne_of q S.at_ (by intro z; cases z)) _) (tk2 _)
    · by_cases e : j = i
      · subst e
        rw [setAt_same]
        exact none_kept S.kp S.src hp'
      · rw [setAt_ne e]
        exact S.new j (by omega)
    · have key : ∀ a, a < i → p a ≠ p' := fun a ha => by
        obtain ⟨C', dx, fs, q, _⟩ := ko_ins (S.ko a ha)
        exact ne_of_none q hp'
      by_cases ea : a = i
      · subst ea
        have eb : b ≠ a := fun z => hab z.symm
        rw [setAt_same, setAt_ne eb]
        exact (key b (by omega)).symm
      · rw [setAt_ne ea]
        by_cases eb : b = i
        · subst eb
          rw [setAt_same]
          exact key a (by omega)
        · rw [setAt_ne eb]
          exact S.ne a b (by omega) (by omega) hab
    · obtain ⟨l0, c0, t0, e0, q⟩ := s2
      refine Src.mono (n := n + i * 60 + 60) ⟨l0, c0, t0, up e0 nDs.symm _, q⟩ ?_
      rw [Nat.add_mul]
      omega
    · intro b o e hb
      exact up (k2 _ _ (S.kp b o e hb) hb) (ne_of_none e hDl) _
  rintro Hc ⟨T, p, r, ks, S⟩
  have S : Ks c H Hc s tr Dl n 3 T p r ks := S
  refine ⟨3, rfl, by decide, by decide, fun D2 hD2 => ?_⟩
  refine lc_range (lo := 0) (fun i H' => ∃ cf : Nat → Addr, H' D2 = some (.lst ((List.range i).map fun j => V.ref (cf j))) ∧ (∀ j, j < i → H' (cf j) = some (.lst [.int 0, .int 0]) ∧ Hc (cf j) = none) ∧ (∀ a b, a < i → b < i → a ≠ b → cf a ≠ cf b) ∧ Same Hc H') ?_ ?_ ?_
  · exact ⟨fun _ => 0, upd_same, (fun j hj => absurd hj (Nat.not_lt_zero j)), (fun a b ha => absurd ha (Nat.not_lt_zero a)), same_new hD2⟩
  · rintro i Hi hi ⟨cf, e1, e2, e3, sm⟩
    have hi : i < 3 := hi
    refine ⟨rfl, by show 2 ≤ sizeLine; decide, fun q hq => ?_⟩
    have y := same_new (o := .lst [.int 0, .int 0]) hq
    have eD := y _ _ e1
    have nq : Hc q = none := none_of_same sm hq
    have nqD : q ≠ D2 := (ne_of_none e1 hq).symm
    refine ⟨_, eD, by rw [List.length_map, List.length_range]; exact Nat.lt_of_lt_of_le (show i < 100 by omega) (by decide), setAt cf i q, ?_, fun j hj => ?_, fun a b ha hb hab => ?_, ?_⟩
    · rw [upd_same, map_set]
    · by_cases e : j = i
      · subst e
        rw [setAt_same]
        exact ⟨by rw [upd_ne nqD, upd_same], nq⟩
      · rw [setAt_ne e]
        obtain ⟨q1, q2⟩ := e2 j (by omega)
        refine ⟨?_, q2⟩
        rw [upd_ne]
        · exact y _ _ q1
        · rintro rfl
          have := HO.lst.inj (Option.some.inj (e1.symm.trans q1))
          cases i with
          | zero => omega
          | succ i =>
            rw [List.range_succ_eq_map] at this
            cases this
    · have key : ∀ a, a < i → cf a ≠ q := fun a ha => ne_of_none (e2 a ha).1 hq
      by_cases ea : a = i
      · subst ea
        have eb : b ≠ a := fun z => hab z.symm
        rw [setAt_same, setAt_ne eb]
        exact (key b (by omega)).symm
      · rw [setAt_ne ea]
        by_cases eb : b = i
        · subst eb
          rw [setAt_same]
          exact key a (by omega)
        · rw [setAt_ne eb]
          exact e3 a b (by omega) (by omega) hab
    · intro b o e
      rw [upd_ne (ne_of_none e hD2)]
      exact y _ _ (sm b o e)
  rintro Hd ⟨cf, e1, e2, e3, sm⟩
  have e2 : ∀ j, j < 3 → Hd (cf j) = some (.lst [.int 0, .int 0]) ∧ Hc (cf j) = none := e2
  have kq := S.kp.trans (KeptS.of sm)
  obtain ⟨kvs, es⟩ := src.at
  obtain ⟨dt, ho⟩ := hT.ob
  have hT2 : TrAt c.CT Hd tr l [] := ⟨⟨dt, kq _ _ ho (ne_of ho es (by intro z; cases z))⟩, kq _ _ hT.ls (ne_of hT.ls es (by intro z; cases z))⟩
  have he2 := kq _ _ he (ne_of he es (by intro z; cases z))
  have lc : ∀ {b : Addr} {o : HO}, H b = some o → b ≠ s → Hc b = some o := fun e h => S.kp _ _ e h
  have ev0 : EvD Hd [] [] := ⟨.nil, by simp [PyData.canLayAll0], by simp [PyData.depthAll], fun v hv => nomatch hv⟩
  refine kk ⟨s, tr, l, eL, Dl, D2, p, r, T, cf⟩ ks Hd rfl rfl rfl rfl ⟨S.src.same sm, ⟨hqs, hql, hqe, fun j hj => ⟨hnone _ (S.new j hj), ?_⟩⟩, fun b o e z => kq _ _ (ex b o e z) (hqs.ne e z), tabS src ts kq, ⟨sm _ _ S.at_, e1, fun j hj => sm _ _ (S.tup j hj), fun j hj => (S.kn j hj).same sm⟩, S.ok, fun j hj => ⟨0, 0, (S.ko j hj).same sm, (e2 j hj).1⟩, S.ne, e3,
    ⟨(ne_of_none hT.ls hDl).symm, (ne_of_none he hDl).symm, (ne_of_none (lc hT.ls (ne_of hT.ls es (by intro z; cases z))) hD2).symm, (ne_of_none (lc he (ne_of he es (by intro z; cases z))) hD2).symm, hle⟩, [], [], [], hT2, he2, ev0, ev0, Nat.le_refl _, Nat.le_refl _⟩
  have q := none_kept S.kp S.src (e2 j hj).2
  exact hnone _ q
end
end K02
set_option Elab.async false
set_option linter.all false
set_option maxRecDepth 100000
set_option maxHeartbeats 4000000
namespace K02
open PySem L2 Xo Lm LamX
section
variable {P : Program} {w : World} {K : PySem.W.Frag} {mg : Str → Option Value} {base : Heap}
def spLaw (K : PySem.W.Frag) (P1 : Addr) : Sp := fun vs H Q _ => ∃ (a : Addr) (ns : List Int), vs = [.ref a] ∧ SqL K H a (ns.map V.int) ∧ ns.length ≤ 63 ∧ Tabs (tabs P1) H ∧ ∀ H', Q (.bl true) H'
theorem ok_law {f cA gs fd_ P1 CU fD fT fE fN fk fdr_ : Addr} {fd fdd fdD fdT fdE fdN fdk fddr : FuncData} {c : Cl6} (D0 : Dc K mg "law" sLaw ["script"] f cA fd) (hsum : mg "sum" = none) (B : Bl mg) (S : Dz K mg "_law_told" sTold "call" gs) (N : Nms mg c.CF c.CM CU) (Bd : Bad K c.CF c.CM CU) (TB : TabB base mg cA P1) (M : Ks6 P w K mg base c) (T : Kit K c)
    (g1 : mg "Key" = some (.ref c.C1)) (g2 : mg "TracedKey" = some (.ref c.C2)) (g3 : mg "FailingKey" = some (.ref c.C3))
    (DD : Df K mg "_law_due" "_law_due" sDue ["known", "counts", "asked", "other"] fD fdD) (GD : FnOk P w K mg base CX0 1 fD fdD ["known", "counts", "asked", "other"] spDue)
    (Dd : Df K mg "_law_digit" "_law_digit" sDigit ["state", "size"] fd_ fdd) (Gdg : FnOk P w K mg base CX0 2 fd_ fdd ["state", "size"] spDigit)
    (Mt : Mk K c.CT fT) (gt : mg "Trace" = some (.ref c.CT)) (bt : Binds K fdT ["self"] []) (Gt : FnOk P w K mg base CX0 1 fT fdT ["self"] (spTrI c.CT))
    (clT : Cls K c.CT) (ME : Meth K c.CT "events" fE) (GE : FnOk P w K mg base CX0 1 fE fdE ["self"] (spTrE c.CT)) (bE : Binds K fdE ["self"] []) (MN : Meth K c.CT "note" fN) (GN : FnOk P w K mg base CX0 1 fN fdN ["self", "event"] (spTrN c.CT)) (bN : Binds K fdN ["self", "event"] [])
    (Dk : Df K mg "_law_key" "_law_key" sLKey ["state", "trace"] fk fdk) (Gk : FnOk P w K mg base CX0 10 fk fdk ["state", "trace"] (spLKey K c.C1 c.C2 c.C3 c.C4 c.CD c.CL)) (Ddr : Df K mg "_law_draw" "_law_draw" sDraw ["cell", "k"] fdr_ fddr) (Gdr : FnOk P w K mg base CX0 1 fdr_ fddr ["cell", "k"] spDraw) : _root_.Gd.FnG P w K mg base 14 f fd ["script"] (spLaw K P1) := by
  refine okGc D0 scLaw (fun vs H Q E h => ?_) (fun A outer sh H vs Q E hr hgd h => ?_)
  · obtain ⟨a, ns, rfl, _⟩ := h
    rfl
  · obtain ⟨a, ns, rfl, hS, hlen, hT, k⟩ := h
    obtain ⟨tT, hsT, qT⟩ := ok_tail (H9 := H) (E9 := E) (sh := sh) (outer := outer) (P1 := P1) B M T g1 g2 g3 clT ME GE bE MN GN bN hr
    obtain ⟨tI, hsI, qI⟩ := ok_turn (H9 := H) (E9 := E) (sh := sh) (outer := outer) B S N Bd TB M DD GD Dd Gdg hr hgd
    obtain ⟨tH, hsH, qH⟩ := ok_head (H9 := H) (E9 := E) (sh := sh) (outer := outer) (P1 := P1) B Dd Gdg Dk Gk hr
      (pss_cons (ps_for PassesOwn.never rfl (pi_range1 rfl B.range (pa_cons (pe_op op_add pe_int (pe_call Gdg (hr.mono (by decide)) rfl Dd.g Dd.F.kp Dd.b .nil pass0 (pa_cons (pv 3) (pa_cons pe_int pa_nil)))) pa_nil)) (pg_name (i := 8) scLaw.nd rfl (Or.inl rfl)) hsI) hsT)
    refine ⟨_, pss_cons (ps_for PassesOwn.never rfl (pi_enum (by rfl) B.enumerate (pa_cons (pe_op op_cat (pe_slice sl_list (pv 0) po_none (po_some pe_int)) (pe_lst (pa_cons (pe_callB (cr_sum rfl) (by rfl) hsum (by decide +kernel) (pa_cons (pv 0) pa_nil)) pa_nil))) pa_nil)) (pg_tup rfl (pgs_cons (pg_name (i := 1) scLaw.nd rfl (Or.inl rfl)) (pgs_cons (pg_name (i := 2) scLaw.nd rfl (Or.inl rfl)) pgs_nil)))
        (pss_cons (ps_asg (pe_tup (pa_cons (pe_call Gdr (hr.mono (by decide)) rfl Ddr.g Ddr.F.kp Ddr.b .nil pass0 (pa_cons (pv 2) (pa_cons (pv 1) pa_nil))) (pa_cons (pe_make0 Mt Gt (hr.mono (by decide)) rfl gt bt .nil pass0) (pa_cons (pe_lst pa_nil) pa_nil)))) (pg_tup rfl (pgs_cons (pg_name (i := 3) scLaw.nd rfl (Or.inr rfl)) (pgs_cons (pg_name (i := 4) scLaw.nd rfl (Or.inr rfl)) (pgs_cons (pg_name (i := 5) scLaw.nd rfl (Or.inl rfl)) pgs_nil))))) hsH))
      (pss_one (ps_ret pe_bl)), ?_⟩
    -- the cells
    refine ⟨_, rfl, _, rfl, a, _, rfl, hS, fun c0 hc0 => ?_⟩
    have y0 := same_new (o := .lst (cutV (ns.map V.int) none (some 4))) hc0
    have cl := cutV_length (ns.map V.int) none (some 4)
    rw [List.length_map] at cl
    refine ⟨_, rfl, a, ns, rfl, y0.seq hS, by show 1 ≤ sizeLine; decide, fun e0 he0 => ?_⟩
    have y1 := same_new (o := .lst [.int ns.sum]) he0
    refine ⟨c0, e0, _, _, rfl, rfl, y1 _ _ upd_same, upd_same, ?_, fun q hq => ?_⟩
    · exact Nat.le_trans (show (cutV (ns.map V.int) none (some 4)).length + 1 ≤ 64 by omega) (by decide)
    have xi : ∀ x ∈ cutV (ns.map V.int) none (some 4) ++ [V.int ns.sum], ∃ z, x = V.int z := fun x hx => by
      rcases List.mem_append.mp hx with hx | hx
      · exact cut_ints hx
      · exact ⟨_, List.mem_singleton.mp hx⟩
    have xl : (cutV (ns.map V.int) none (some 4) ++ [V.int ns.sum]).length ≤ 64 := by
      rw [List.length_append]
      show _ + 1 ≤ _
      omega
    have y2 := y0.trans (y1.trans (same_new (o := .lst (cutV (ns.map V.int) none (some 4) ++ [V.int ns.sum])) hq))
    have eq : upd (upd (upd H c0 (.lst (cutV (ns.map V.int) none (some 4)))) e0 (.lst [.int ns.sum])) q (.lst (cutV (ns.map V.int) none (some 4) ++ [V.int ns.sum])) q = some (.lst (cutV (ns.map V.int) none (some 4) ++ [V.int ns.sum])) := upd_same
    have hTq := hT.ext y2
    generalize upd (upd (upd H c0 (.lst (cutV (ns.map V.int) none (some 4)))) e0 (.lst [.int ns.sum])) q (.lst (cutV (ns.map V.int) none (some 4) ++ [V.int ns.sum])) = Hq at eq hTq ⊢
    generalize cutV (ns.map V.int) none (some 4) ++ [V.int ns.sum] = xs at xi xl eq
    have id0 : ExtN Hq Hq := fun _ _ e _ => e
    refine ⟨q, xs, rfl, SqL.of eq, for_enumL (K := K) (a := q) (xs := xs) (fun i σ H' => (∃ v1 v2 v3 v4 v5 v6 v7 v8 v9 v10 v11 v12 v13 v14 v15 v16 v17 v18, σ = [some (.ref a), v1, v2, v3, v4, v5, v6, v7, v8, v9, v10, v11, v12, v13, v14, v15, v16, v17, v18]) ∧ ExtN Hq H' ∧ Tabs (tabs P1) H') ⟨⟨_, _, _, _, _, _, _, _, _, _, _, _, _, _, _, _, _, _, rfl⟩, id0, hTq⟩ (fun i σ H' _ h => SqL.of (h.2.1 _ _ eq fun ps z => by cases z)) ?_ ?_⟩
    · rintro i x T0 σ H' hx ⟨⟨v1, v2, v3, v4, v5, v6, v7, v8, v9, v10, v11, v12, v13, v14, v15, v16, v17, v18, rfl⟩, em, tm⟩ hT0
      obtain ⟨cz, rfl⟩ := xi x (List.mem_of_getElem? hx)
      have hi : i < 64 := Nat.lt_of_lt_of_le (List.getElem?_eq_some_iff.mp hx).1 xl
      refine ⟨T0, _, rfl, SqT.of upd_same, rfl, _, _, rfl, _, _, rfl, rfl, ?_⟩
      have y3 := same_new (o := .tup [.int (i : Nat), .int cz]) hT0
      have em1 := em.trans (ExtN.of y3)
      have tm1 := tm.ext y3
      generalize upd H' T0 (.tup [.int (i : Nat), .int cz]) = H1 at em1 tm1 ⊢
      refine ⟨_, rfl, _, rfl, cz, ((i : Nat) : Int), rfl, by omega, fun s H2 s2 hs hsrc p dx hp hdx hne => ⟨p, dx, rfl, upd_same, fun l H3 hl kp e3 e4 => ⟨rfl, by show 0 ≤ sizeLine; decide, fun eL heL => ⟨by show 3 ≤ sizeLine; decide, fun tt htt => ⟨tt, _, rfl, SqT.of upd_same, rfl, _, _, rfl, _, _, rfl, _, _, rfl, rfl, ?_⟩⟩⟩⟩⟩
      have src := hsrc (1000 * i) (by omega)
      have hl1 : H1 l = none := none_of_same s2 (none_of_same (two_new hp hdx) hl)
      have s3 : Same H2 H3 := fun b o e => kp b o (ne_of_none e hp) (by
        rw [upd_ne (ne_of_none e hp)]
        exact same_new hdx _ _ e)
      have y4 := same_new (o := .lst []) heL
      have y5 := same_new (o := .tup [.ref s, .ref p, .ref eL]) htt
      have y45 := y4.trans y5
      have e5 := y5 _ _ (upd_same (H := H3) (a := eL) (o := .lst []))
      have s4 : Same H1 (upd (upd H3 eL (.lst [])) tt (.tup [.ref s, .ref p, .ref eL])) := (s2.trans s3).trans y45
      have hT4 : TrAt c.CT (upd (upd H3 eL (.lst [])) tt (.tup [.ref s, .ref p, .ref eL])) p l [] := ⟨⟨dx, y45 _ _ e3⟩, y45 _ _ e4⟩
      have src4 := (src.same s3).same y45
      have nle : l ≠ eL := ne_of_none e4 heL
      have em4 := em1.trans (ExtN.of s4)
      have tm4 := tm1.ext s4
      have nt : ∀ a, upd (upd H3 eL (.lst [])) tt (.tup [.ref s, .ref p, .ref eL]) a = none → Nt Hq a := fun a h => Nt.of em4 h
      have n1 : Nt Hq s := Nt.of em1 hs
      have n2 : Nt Hq l := Nt.of em1 hl1
      have n3 : Nt Hq eL := Nt.of ((em1.trans (ExtN.of s2)).trans (ExtN.of s3)) heL
      generalize upd (upd H3 eL (.lst [])) tt (.tup [.ref s, .ref p, .ref eL]) = H4 at hT4 src4 e5 em4 tm4 nt ⊢
      refine qH _ _ _ _ _ _ _ _ _ _ _ _ _ _ _ _ _ s p l eL (1000 * i) Hq H4 em4 tm4 (src4.mono (by omega)) (by omega) hT4 e5 nle n1 n2 n3 nt fun A ks H5 ea eb ec ed C5 => ?_
      refine ⟨_, rfl, A.s, 17, 1000 * i + 180, rfl, C5.src, by omega, by decide, by decide, fun d H6 hd s6 k6 => ⟨_, _, rfl, rfl, _, rfl, by omega, by omega, ?_⟩⟩
      have C6 := C5.kept k6 s6
      refine for_range (lo := 0) (n := ((8 + (d : Int)) - 0).toNat) (fun j σ' H7 => (∃ u8 u9 u10 u11 u12 u13 u14 u15 u16 u17 u18, σ' = [some (.ref a), some (.int (i : Nat)), some (.int cz), some (.ref A.s), some (.ref A.tr), some (.ref A.eL), some (.ref A.sL), some (.ref A.cL), u8, u9, u10, u11, u12, u13, u14, u15, u16, u17, u18]) ∧ Cyc c (tabs P1) Hq A ks H7 (1000 * i + 184 + j * 12) j) ⟨⟨_, _, _, _, _, _, _, _, _, _, _, rfl⟩, C6.src, C6.new, C6.ext, C6.ts, C6.st, C6.ok, C6.ko, C6.pne, C6.cne, C6.ne, C6.ev⟩ ?_ ?_
      · rintro j σ' H7 hj ⟨⟨u8, u9, u10, u11, u12, u13, u14, u15, u16, u17, u18, rfl⟩, C7⟩
        refine qI _ _ _ _ _ _ _ _ _ _ _ _ _ _ _ A ks Hq _ _ H7 C7 (by omega) (by omega) fun y9 y10 y11 y12 y13 y14 y15 y16 H8 C8 => ⟨⟨_, _, _, _, _, _, _, _, _, _, _, rfl⟩, ?_⟩
        have e : 1000 * i + 184 + (j + 1) * 12 = 1000 * i + 184 + j * 12 + 12 := by omega
        rw [e]
        exact C8
      · rintro σ' H7 ⟨⟨u8, u9, u10, u11, u12, u13, u14, u15, u16, u17, u18, rfl⟩, C7⟩
        exact qT _ _ _ _ _ _ _ _ _ _ _ _ _ _ _ A ks Hq _ _ H7 C7 (by omega) fun y12 y13 y17 H8 ex8 ts8 => ⟨⟨_, _, _, _, _, _, _, _, _, _, _, _, _, _, _, _, _, _, rfl⟩, ex8, ts8⟩
    · rintro σ' H2 ⟨⟨v1, v2, v3, v4, v5, v6, v7, v8, v9, v10, v11, v12, v13, v14, v15, v16, v17, v18, rfl⟩, em, tm⟩
      exact k _
end
end K02
set_option Elab.async false
set_option linter.all false
set_option maxRecDepth 100000
set_option maxHeartbeats 4000000
namespace K02
open PySem L2 Xo Lm LamX
abbrev sX1 : Stmt := inClass (top 2) 0
theorem scX1 : FnScope ["self", "reason"] ["self", "reason"] (defScope sX1) := ⟨rfl, rfl, rfl, by decide +kernel, rfl, by decide +kernel, by decide +kernel⟩
abbrev sX2 : Stmt := inClass (top 3) 0
theorem scX2 : FnScope ["self", "reason"] ["self", "reason"] (defScope sX2) := ⟨rfl, rfl, rfl, by decide +kernel, rfl, by decide +kernel, by decide +kernel⟩
abbrev sX3 : Stmt := inClass (top 5) 0
theorem scX3 : FnScope ["self", "label"] ["self", "label"] (defScope sX3) := ⟨rfl, rfl, rfl, by decide +kernel, rfl, by decide +kernel, by decide +kernel⟩
abbrev sX4 : Stmt := inClass (top 6) 0
theorem scX4 : FnScope ["self", "label"] ["self", "label"] (defScope sX4) := ⟨rfl, rfl, rfl, by decide +kernel, rfl, by decide +kernel, by decide +kernel⟩
theorem hfsK (a b t : V) : putF "_trace" t (fKey a b []) = fKey a b [] ++ [(("_trace" : Str), t)] := by
  unfold fKey
  rw [putF_ne (by decide +kernel), putF_ne (by decide +kernel), putF_nil]
  rfl
theorem hfsF (a b t : V) : putF "_trace" t (fFail a b [.int 0, .int 0]) = fFail a b [.int 0, .int 0] ++ [(("_trace" : Str), t)] := by
  unfold fFail
  rw [putF_ne (by decide +kernel), putF_ne (by decide +kernel), putF_ne (by decide +kernel), putF_ne (by decide +kernel), putF_ne (by decide +kernel), putF_ne (by decide +kernel), putF_nil]
  rfl
theorem all_mk {l : PySem.W.OpenLaw} {w : World} {K : PySem.W.Frag} {h : Heap} {mg : Str → Option Value} {fa fW fBt fCo fNc fSg fTx fNl fNf fNo fMx fDr fDg fLk fDu fTo fL cAL PL CU CK mX1 CC mX2 CF mX3 CM mX4 C1 C2 C3 C4 CL CD CTr mI1 mIT mIE mIN mI2 cAI2 ccI2 mI3 cAI3 ccI3 TI3 mI4 cAI4 ccI4 TI4 mIL cAIL ccIL mc1 mw1 mc2 cAc2 ccc2 mw2 cAw2 ccw2 mc3 cAc3 ccc3 mw3 cAw3 ccw3 mc4 cAc4 ccc4 mw4 cAw4 ccw4 mID cAID ccID mcD mwD cAwD ccwD mcL cAcL cccL mwL : Addr} (X : K.In h) (G : h.Ns mainGlobals mg) (hfa : mg "law" = some (.ref fa))
    {odW anW : Option Addr} {slW : Array (Option Value)} {ocW kVW dcW pmW ctW : Value} {cdW : Value} {odBt anBt : Option Addr} {slBt : Array (Option Value)} {ocBt kVBt dcBt pmBt ctBt : Value} {cdBt : Value} {odCo anCo : Option Addr} {slCo : Array (Option Value)} {ocCo kVCo dcCo pmCo ctCo : Value} {cdCo : Value} {odNc anNc : Option Addr} {slNc : Array (Option Value)} {ocNc kVNc dcNc pmNc ctNc : Value} {cdNc : Value} {odSg anSg : Option Addr} {slSg : Array (Option Value)} {ocSg kVSg dcSg pmSg ctSg : Value} {cdSg : Value} {odTx anTx : Option Addr} {slTx : Array (Option Value)} {ocTx kVTx dcTx pmTx ctTx : Value} {cdTx : Value} {odNl anNl : Option Addr} {slNl : Array (Option Value)} {ocNl kVNl dcNl pmNl ctNl : Value} {cdNl : Value} {odNf anNf : Option Addr} {slNf : Array (Option Value)} {ocNf kVNf dcNf pmNf ctNf : Value} {cdNf : Value} {odNo anNo : Option Addr} {slNo : Array (Option Value)} {ocNo kVNo dcNo pmNo ctNo : Value} {cdNo : Value} {odMx anMx : Option Addr} {slMx : Array (Option Value)} {ocMx kVMx dcMx pmMx ctMx : Value} {cdMx : Value} {odDr anDr : Option Addr} {slDr : Array (Option Value)} {ocDr kVDr dcDr pmDr ctDr : Value} {cdDr : Value} {odDg anDg : Option Addr} {slDg : Array (Option Value)} {ocDg kVDg dcDg pmDg ctDg : Value} {cdDg : Value} {odLk anLk : Option Addr} {slLk : Array (Option Value)} {ocLk kVLk dcLk pmLk ctLk : Value} {cdLk : Value} {odDu anDu : Option Addr} {slDu : Array (Option Value)} {ocDu kVDu dcDu pmDu ctDu : Value} {cdDu : Value} {odTo anTo : Option Addr} {slTo : Array (Option Value)} {ocTo kVTo dcTo pmTo ctTo : Value} {cdTo : Value} {odL anL : Option Addr} {slL : Array (Option Value)} {ocL kVL dcL pmL ctL : Value} {xcL : Value} {xdL : Option Addr} {xvL : Array Value} {xsL : Array (Option Value)} {odX1 anX1 : Option Addr} {slX1 : Array (Option Value)} {ocX1 kVX1 dcX1 pmX1 ctX1 : Value} {cdX1 : Value} {odX2 anX2 : Option Addr} {slX2 : Array (Option Value)} {ocX2 kVX2 dcX2 pmX2 ctX2 : Value} {cdX2 : Value} {odX3 anX3 : Option Addr} {slX3 : Array (Option Value)} {ocX3 kVX3 dcX3 pmX3 ctX3 : Value} {cdX3 : Value} {odX4 anX4 : Option Addr} {slX4 : Array (Option Value)} {ocX4 kVX4 dcX4 pmX4 ctX4 : Value} {cdX4 : Value} {odI1 anI1 : Option Addr} {slI1 : Array (Option Value)} {ocI1 kVI1 dcI1 pmI1 ctI1 : Value} {cdI1 : Value} {odIT anIT : Option Addr} {slIT : Array (Option Value)} {ocIT kVIT dcIT pmIT ctIT : Value} {cdIT : Value} {odIE anIE : Option Addr} {slIE : Array (Option Value)} {ocIE kVIE dcIE pmIE ctIE : Value} {cdIE : Value} {odIN anIN : Option Addr} {slIN : Array (Option Value)} {ocIN kVIN dcIN pmIN ctIN : Value} {cdIN : Value} {odI2 anI2 : Option Addr} {slI2 : Array (Option Value)} {ocI2 kVI2 dcI2 pmI2 ctI2 : Value} {xcI2 qcI2 : Value} {xdI2 qdI2 : Option Addr} {xvI2 : Array Value} {xsI2 qsI2 : Array (Option Value)} {flI2 : Str} {tfI2 : Tok} {odI3 anI3 : Option Addr} {slI3 : Array (Option Value)} {ocI3 kVI3 dcI3 pmI3 ctI3 : Value} {xcI3 qcI3 : Value} {xdI3 qdI3 : Option Addr} {xvI3 : Array Value} {xsI3 qsI3 : Array (Option Value)} {flI3 : Str} {tfI3 : Tok} {vcI3 : Value} {vdI3 : Option Addr} {vnI3 : Nat} {vsI3 : Array (Option Value)} {vt0I3 : Tok} {vt1I3 : Tok} {odI4 anI4 : Option Addr} {slI4 : Array (Option Value)} {ocI4 kVI4 dcI4 pmI4 ctI4 : Value} {xcI4 qcI4 : Value} {xdI4 qdI4 : Option Addr} {xvI4 : Array Value} {xsI4 qsI4 : Array (Option Value)} {flI4 : Str} {tfI4 : Tok} {vcI4 : Value} {vdI4 : Option Addr} {vnI4 : Nat} {vsI4 : Array (Option Value)} {vt0I4 : Tok} {vt1I4 : Tok} {odIL anIL : Option Addr} {slIL : Array (Option Value)} {ocIL kVIL dcIL pmIL ctIL : Value} {xcIL qcIL : Value} {xdIL qdIL : Option Addr} {xvIL : Array Value} {xsIL qsIL : Array (Option Value)} {flIL : Str} {tfIL : Tok} {odc1 anc1 : Option Addr} {slc1 : Array (Option Value)} {occ1 kVc1 dcc1 pmc1 ctc1 : Value} {cdc1 : Value} {odw1 anw1 : Option Addr} {slw1 : Array (Option Value)} {ocw1 kVw1 dcw1 pmw1 ctw1 : Value} {cdw1 : Value} {odc2 anc2 : Option Addr} {slc2 : Array (Option Value)} {occ2 kVc2 dcc2 pmc2 ctc2 : Value} {xcc2 qcc2 : Value} {xdc2 qdc2 : Option Addr} {xvc2 : Array Value} {xsc2 qsc2 : Array (Option Value)} {flc2 : Str} {tfc2 : Tok} {odw2 anw2 : Option Addr} {slw2 : Array (Option Value)} {ocw2 kVw2 dcw2 pmw2 ctw2 : Value} {xcw2 qcw2 : Value} {xdw2 qdw2 : Option Addr} {xvw2 : Array Value} {xsw2 qsw2 : Array (Option Value)} {flw2 : Str} {tfw2 : Tok} {odc3 anc3 : Option Addr} {slc3 : Array (Option Value)} {occ3 kVc3 dcc3 pmc3 ctc3 : Value} {xcc3 qcc3 : Value} {xdc3 qdc3 : Option Addr} {xvc3 : Array Value} {xsc3 qsc3 : Array (Option Value)} {flc3 : Str} {tfc3 : Tok} {odw3 anw3 : Option Addr} {slw3 : Array (Option Value)} {ocw3 kVw3 dcw3 pmw3 ctw3 : Value} {xcw3 qcw3 : Value} {xdw3 qdw3 : Option Addr} {xvw3 : Array Value} {xsw3 qsw3 : Array (Option Value)} {flw3 : Str} {tfw3 : Tok} {odc4 anc4 : Option Addr} {slc4 : Array (Option Value)} {occ4 kVc4 dcc4 pmc4 ctc4 : Value} {xcc4 qcc4 : Value} {xdc4 qdc4 : Option Addr} {xvc4 : Array Value} {xsc4 qsc4 : Array (Option Value)} {flc4 : Str} {tfc4 : Tok} {odw4 anw4 : Option Addr} {slw4 : Array (Option Value)} {ocw4 kVw4 dcw4 pmw4 ctw4 : Value} {xcw4 qcw4 : Value} {xdw4 qdw4 : Option Addr} {xvw4 : Array Value} {xsw4 qsw4 : Array (Option Value)} {flw4 : Str} {tfw4 : Tok} {odID anID : Option Addr} {slID : Array (Option Value)} {ocID kVID dcID pmID ctID : Value} {xcID qcID : Value} {xdID qdID : Option Addr} {xvID : Array Value} {xsID qsID : Array (Option Value)} {flID : Str} {tfID : Tok} {odcD ancD : Option Addr} {slcD : Array (Option Value)} {occD kVcD dccD pmcD ctcD : Value} {cdcD : Value} {odwD anwD : Option Addr} {slwD : Array (Option Value)} {ocwD kVwD dcwD pmwD ctwD : Value} {xcwD qcwD : Value} {xdwD qdwD : Option Addr} {xvwD : Array Value} {xswD qswD : Array (Option Value)} {flwD : Str} {tfwD : Tok} {odcL ancL : Option Addr} {slcL : Array (Option Value)} {occL kVcL dccL pmcL ctcL : Value} {xccL qccL : Value} {xdcL qdcL : Option Addr} {xvcL : Array Value} {xscL qscL : Array (Option Value)} {flcL : Str} {tfcL : Tok} {odwL anwL : Option Addr} {slwL : Array (Option Value)} {ocwL kVwL dcwL pmwL ctwL : Value} {cdwL : Value} {tCODES : Tok} {tMAX_SIGNS : Tok} {tFIRST_SIGN : Tok} {tLAST_SIGN : Tok} {tPERCENT_SIGN : Tok}
    (aW : PySem.W.nsIn K mainGlobals "is_whole" = some (some (.ref fW)))
    (lW : K.lookup fW = some ⟨ocW, odW, .func (PySem.W.fnOf "is_whole" "is_whole" (defArgs sWhole) (defBody sWhole) (defScope sWhole) .none kVW dcW pmW anW cdW ctW), slW⟩)
    (cW : PySem.W.codeIn K cdW "is_whole" = true)
    (kW : PySem.W.keepIn K (.ref fW) = true)
    (aBt : PySem.W.nsIn K mainGlobals "is_between" = some (some (.ref fBt)))
    (lBt : K.lookup fBt = some ⟨ocBt, odBt, .func (PySem.W.fnOf "is_between" "is_between" (defArgs sBetween) (defBody sBetween) (defScope sBetween) .none kVBt dcBt pmBt anBt cdBt ctBt), slBt⟩)
    (cBt : PySem.W.codeIn K cdBt "is_between" = true)
    (kBt : PySem.W.keepIn K (.ref fBt) = true)
    (aCo : PySem.W.nsIn K mainGlobals "is_code" = some (some (.ref fCo)))
    (lCo : K.lookup fCo = some ⟨ocCo, odCo, .func (PySem.W.fnOf "is_code" "is_code" (defArgs sCode) (defBody sCode) (defScope sCode) .none kVCo dcCo pmCo anCo cdCo ctCo), slCo⟩)
    (cCo : PySem.W.codeIn K cdCo "is_code" = true)
    (kCo : PySem.W.keepIn K (.ref fCo) = true)
    (aNc : PySem.W.nsIn K mainGlobals "need_code" = some (some (.ref fNc)))
    (lNc : K.lookup fNc = some ⟨ocNc, odNc, .func (PySem.W.fnOf "need_code" "need_code" (defArgs sNeedCode) (defBody sNeedCode) (defScope sNeedCode) .none kVNc dcNc pmNc anNc cdNc ctNc), slNc⟩)
    (cNc : PySem.W.codeIn K cdNc "need_code" = true)
    (kNc : PySem.W.keepIn K (.ref fNc) = true)
    (aSg : PySem.W.nsIn K mainGlobals "_is_sign" = some (some (.ref fSg)))
    (lSg : K.lookup fSg = some ⟨ocSg, odSg, .func (PySem.W.fnOf "_is_sign" "_is_sign" (defArgs sSign) (defBody sSign) (defScope sSign) .none kVSg dcSg pmSg anSg cdSg ctSg), slSg⟩)
    (cSg : PySem.W.codeIn K cdSg "_is_sign" = true)
    (kSg : PySem.W.keepIn K (.ref fSg) = true)
    (aTx : PySem.W.nsIn K mainGlobals "is_text" = some (some (.ref fTx)))
    (lTx : K.lookup fTx = some ⟨ocTx, odTx, .func (PySem.W.fnOf "is_text" "is_text" (defArgs sText) (defBody sText) (defScope sText) .none kVTx dcTx pmTx anTx cdTx ctTx), slTx⟩)
    (cTx : PySem.W.codeIn K cdTx "is_text" = true)
    (kTx : PySem.W.keepIn K (.ref fTx) = true)
    (aNl : PySem.W.nsIn K mainGlobals "_need_label" = some (some (.ref fNl)))
    (lNl : K.lookup fNl = some ⟨ocNl, odNl, .func (PySem.W.fnOf "_need_label" "_need_label" (defArgs sNLabel) (defBody sNLabel) (defScope sNLabel) .none kVNl dcNl pmNl anNl cdNl ctNl), slNl⟩)
    (cNl : PySem.W.codeIn K cdNl "_need_label" = true)
    (kNl : PySem.W.keepIn K (.ref fNl) = true)
    (aNf : PySem.W.nsIn K mainGlobals "_need_filled" = some (some (.ref fNf)))
    (lNf : K.lookup fNf = some ⟨ocNf, odNf, .func (PySem.W.fnOf "_need_filled" "_need_filled" (defArgs sNFilled) (defBody sNFilled) (defScope sNFilled) .none kVNf dcNf pmNf anNf cdNf ctNf), slNf⟩)
    (cNf : PySem.W.codeIn K cdNf "_need_filled" = true)
    (kNf : PySem.W.keepIn K (.ref fNf) = true)
    (aNo : PySem.W.nsIn K mainGlobals "_name_of" = some (some (.ref fNo)))
    (lNo : K.lookup fNo = some ⟨ocNo, odNo, .func (PySem.W.fnOf "_name_of" "_name_of" (defArgs sNameOf) (defBody sNameOf) (defScope sNameOf) .none kVNo dcNo pmNo anNo cdNo ctNo), slNo⟩)
    (cNo : PySem.W.codeIn K cdNo "_name_of" = true)
    (kNo : PySem.W.keepIn K (.ref fNo) = true)
    (aMx : PySem.W.nsIn K mainGlobals "_law_mixed" = some (some (.ref fMx)))
    (lMx : K.lookup fMx = some ⟨ocMx, odMx, .func (PySem.W.fnOf "_law_mixed" "_law_mixed" (defArgs sMixed) (defBody sMixed) (defScope sMixed) .none kVMx dcMx pmMx anMx cdMx ctMx), slMx⟩)
    (cMx : PySem.W.codeIn K cdMx "_law_mixed" = true)
    (kMx : PySem.W.keepIn K (.ref fMx) = true)
    (aDr : PySem.W.nsIn K mainGlobals "_law_draw" = some (some (.ref fDr)))
    (lDr : K.lookup fDr = some ⟨ocDr, odDr, .func (PySem.W.fnOf "_law_draw" "_law_draw" (defArgs sDraw) (defBody sDraw) (defScope sDraw) .none kVDr dcDr pmDr anDr cdDr ctDr), slDr⟩)
    (cDr : PySem.W.codeIn K cdDr "_law_draw" = true)
    (kDr : PySem.W.keepIn K (.ref fDr) = true)
    (aDg : PySem.W.nsIn K mainGlobals "_law_digit" = some (some (.ref fDg)))
    (lDg : K.lookup fDg = some ⟨ocDg, odDg, .func (PySem.W.fnOf "_law_digit" "_law_digit" (defArgs sDigit) (defBody sDigit) (defScope sDigit) .none kVDg dcDg pmDg anDg cdDg ctDg), slDg⟩)
    (cDg : PySem.W.codeIn K cdDg "_law_digit" = true)
    (kDg : PySem.W.keepIn K (.ref fDg) = true)
    (aLk : PySem.W.nsIn K mainGlobals "_law_key" = some (some (.ref fLk)))
    (lLk : K.lookup fLk = some ⟨ocLk, odLk, .func (PySem.W.fnOf "_law_key" "_law_key" (defArgs sLKey) (defBody sLKey) (defScope sLKey) .none kVLk dcLk pmLk anLk cdLk ctLk), slLk⟩)
    (cLk : PySem.W.codeIn K cdLk "_law_key" = true)
    (kLk : PySem.W.keepIn K (.ref fLk) = true)
    (aDu : PySem.W.nsIn K mainGlobals "_law_due" = some (some (.ref fDu)))
    (lDu : K.lookup fDu = some ⟨ocDu, odDu, .func (PySem.W.fnOf "_law_due" "_law_due" (defArgs sDue) (defBody sDue) (defScope sDue) .none kVDu dcDu pmDu anDu cdDu ctDu), slDu⟩)
    (cDu : PySem.W.codeIn K cdDu "_law_due" = true)
    (kDu : PySem.W.keepIn K (.ref fDu) = true)
    (aTo : PySem.W.nsIn K mainGlobals "_law_told" = some (some (.ref fTo)))
    (lTo : K.lookup fTo = some ⟨ocTo, odTo, .func (PySem.W.fnOf "_law_told" "_law_told" (defArgs sTold) (defBody sTold) (defScope sTold) .none kVTo dcTo pmTo anTo cdTo ctTo), slTo⟩)
    (cTo : PySem.W.codeIn K cdTo "_law_told" = true)
    (kTo : PySem.W.keepIn K (.ref fTo) = true)
    (aL : PySem.W.nsIn K mainGlobals "law" = some (some (.ref fL)))
    (lL : K.lookup fL = some ⟨ocL, odL, .func (PySem.W.fnOf "law" "law" (defArgs sLaw) (defBody sLaw) (defScope sLaw) .none kVL dcL pmL anL (.ref cAL) ctL), slL⟩)
    (cL : PySem.W.codeIn K (.ref cAL) "law" = true)
    (kL : PySem.W.keepIn K (.ref fL) = true)
    (xL : K.lookup cAL = some ⟨xcL, xdL, .fields xvL, xsL⟩)
    (yL : xvL[11]? = some (.ref PL))
    (hL : PySem.W.codeHdIn K cAL PL = true)
    (nL : K.lookup PL = none)
    (tL : h.get? PL = some { cls := .none, data := .fields #[] })
    (gFault : PySem.W.nsIn K mainGlobals "Fault" = some (some (.ref CU)))
    (gBadKey : PySem.W.nsIn K mainGlobals "BadKey" = some (some (.ref CK)))
    (u1E1 : PySem.W.excInitIn K CK [.type "ValueError", .type "Exception", .type "BaseException", .type "object"] "ValueError.__new__" = true)
    (u2E1 : PySem.W.excOver K CK [.type "ValueError", .type "Exception", .type "BaseException", .type "object"] = true)
    (u3E1 : PySem.W.hasDictIn K CK = true)
    (u4E1 : PySem.W.findIn K (.ref CK) "__setattr__" = some (some (.builtin "object.__setattr__")))
    (u5E1 : PySem.W.findIn K (.ref CK) "__getattribute__" = some (some (.builtin "BaseException.__getattribute__")))
    (u6E1 : PySem.W.findIn K (.ref CK) "__getattr__" = some none)
    (u7E1 : PySem.W.subIn K (.ref CK) (.type "BaseException") = some true)
    (u8E1 : PySem.W.typeIn K (.ref CK) = some (.type "type"))
    (u9E1 : PySem.W.keepIn K (.ref CK) = true)
    (v1E1 : PySem.W.findIn K (.ref CK) "__class__" = some (some (.builtin "object.__class__")))
    (v2E1 : PySem.W.specialIn K (.builtin "object.__class__") "__get__" = some (some (.builtin "getset_descriptor.__get__")))
    (v3E1 : PySem.W.takesIn K (.builtin "object.__class__") = some true)
    (v4E1 : PySem.W.mroIn K CK (.type "object") = some true)
    (aX1 : PySem.W.findIn K (.ref CK) "__init__" = some (some (.ref mX1)))
    (iX1 : PySem.W.typeIn K (.ref mX1) = some (.type "function"))
    (jX1 : PySem.W.findIn K (.ref CK) "reason" = some none)
    (lX1 : K.lookup mX1 = some ⟨ocX1, odX1, .func (PySem.W.fnOf "__init__" "BadKey.__init__" (defArgs sX1) (defBody sX1) (defScope sX1) .none kVX1 dcX1 pmX1 anX1 cdX1 ctX1), slX1⟩)
    (cX1 : PySem.W.codeIn K cdX1 "BadKey.__init__" = true)
    (kX1 : PySem.W.keepIn K (.ref mX1) = true)
    (gBadCode : PySem.W.nsIn K mainGlobals "BadCode" = some (some (.ref CC)))
    (u1E2 : PySem.W.excInitIn K CC [.type "ValueError", .type "Exception", .type "BaseException", .type "object"] "ValueError.__new__" = true)
    (u2E2 : PySem.W.excOver K CC [.type "ValueError", .type "Exception", .type "BaseException", .type "object"] = true)
    (u3E2 : PySem.W.hasDictIn K CC = true)
    (u4E2 : PySem.W.findIn K (.ref CC) "__setattr__" = some (some (.builtin "object.__setattr__")))
    (u5E2 : PySem.W.findIn K (.ref CC) "__getattribute__" = some (some (.builtin "BaseException.__getattribute__")))
    (u6E2 : PySem.W.findIn K (.ref CC) "__getattr__" = some none)
    (u7E2 : PySem.W.subIn K (.ref CC) (.type "BaseException") = some true)
    (u8E2 : PySem.W.typeIn K (.ref CC) = some (.type "type"))
    (u9E2 : PySem.W.keepIn K (.ref CC) = true)
    (v1E2 : PySem.W.findIn K (.ref CC) "__class__" = some (some (.builtin "object.__class__")))
    (v2E2 : PySem.W.specialIn K (.builtin "object.__class__") "__get__" = some (some (.builtin "getset_descriptor.__get__")))
    (v3E2 : PySem.W.takesIn K (.builtin "object.__class__") = some true)
    (v4E2 : PySem.W.mroIn K CC (.type "object") = some true)
    (aX2 : PySem.W.findIn K (.ref CC) "__init__" = some (some (.ref mX2)))
    (iX2 : PySem.W.typeIn K (.ref mX2) = some (.type "function"))
    (jX2 : PySem.W.findIn K (.ref CC) "reason" = some none)
    (lX2 : K.lookup mX2 = some ⟨ocX2, odX2, .func (PySem.W.fnOf "__init__" "BadCode.__init__" (defArgs sX2) (defBody sX2) (defScope sX2) .none kVX2 dcX2 pmX2 anX2 cdX2 ctX2), slX2⟩)
    (cX2 : PySem.W.codeIn K cdX2 "BadCode.__init__" = true)
    (kX2 : PySem.W.keepIn K (.ref mX2) = true)
    (gCodeFault : PySem.W.nsIn K mainGlobals "CodeFault" = some (some (.ref CF)))
    (u1E3 : PySem.W.excInitIn K CF [.type "RuntimeError", .type "Exception", .type "BaseException", .type "object"] "RuntimeError.__new__" = true)
    (u2E3 : PySem.W.excOver K CF [.type "RuntimeError", .type "Exception", .type "BaseException", .type "object"] = true)
    (u3E3 : PySem.W.hasDictIn K CF = true)
    (u4E3 : PySem.W.findIn K (.ref CF) "__setattr__" = some (some (.builtin "object.__setattr__")))
    (u5E3 : PySem.W.findIn K (.ref CF) "__getattribute__" = some (some (.builtin "BaseException.__getattribute__")))
    (u6E3 : PySem.W.findIn K (.ref CF) "__getattr__" = some none)
    (u7E3 : PySem.W.subIn K (.ref CF) (.type "BaseException") = some true)
    (u8E3 : PySem.W.typeIn K (.ref CF) = some (.type "type"))
    (u9E3 : PySem.W.keepIn K (.ref CF) = true)
    (v1E3 : PySem.W.findIn K (.ref CF) "__class__" = some (some (.builtin "object.__class__")))
    (v2E3 : PySem.W.specialIn K (.builtin "object.__class__") "__get__" = some (some (.builtin "getset_descriptor.__get__")))
    (v3E3 : PySem.W.takesIn K (.builtin "object.__class__") = some true)
    (v4E3 : PySem.W.mroIn K CF (.type "object") = some true)
    (aX3 : PySem.W.findIn K (.ref CF) "__init__" = some (some (.ref mX3)))
    (iX3 : PySem.W.typeIn K (.ref mX3) = some (.type "function"))
    (jX3 : PySem.W.findIn K (.ref CF) "label" = some none)
    (lX3 : K.lookup mX3 = some ⟨ocX3, odX3, .func (PySem.W.fnOf "__init__" "CodeFault.__init__" (defArgs sX3) (defBody sX3) (defScope sX3) .none kVX3 dcX3 pmX3 anX3 cdX3 ctX3), slX3⟩)
    (cX3 : PySem.W.codeIn K cdX3 "CodeFault.__init__" = true)
    (kX3 : PySem.W.keepIn K (.ref mX3) = true)
    (gMatchFault : PySem.W.nsIn K mainGlobals "MatchFault" = some (some (.ref CM)))
    (u1E4 : PySem.W.excInitIn K CM [.type "RuntimeError", .type "Exception", .type "BaseException", .type "object"] "RuntimeError.__new__" = true)
    (u2E4 : PySem.W.excOver K CM [.type "RuntimeError", .type "Exception", .type "BaseException", .type "object"] = true)
    (u3E4 : PySem.W.hasDictIn K CM = true)
    (u4E4 : PySem.W.findIn K (.ref CM) "__setattr__" = some (some (.builtin "object.__setattr__")))
    (u5E4 : PySem.W.findIn K (.ref CM) "__getattribute__" = some (some (.builtin "BaseException.__getattribute__")))
    (u6E4 : PySem.W.findIn K (.ref CM) "__getattr__" = some none)
    (u7E4 : PySem.W.subIn K (.ref CM) (.type "BaseException") = some true)
    (u8E4 : PySem.W.typeIn K (.ref CM) = some (.type "type"))
    (u9E4 : PySem.W.keepIn K (.ref CM) = true)
    (v1E4 : PySem.W.findIn K (.ref CM) "__class__" = some (some (.builtin "object.__class__")))
    (v2E4 : PySem.W.specialIn K (.builtin "object.__class__") "__get__" = some (some (.builtin "getset_descriptor.__get__")))
    (v3E4 : PySem.W.takesIn K (.builtin "object.__class__") = some true)
    (v4E4 : PySem.W.mroIn K CM (.type "object") = some true)
    (aX4 : PySem.W.findIn K (.ref CM) "__init__" = some (some (.ref mX4)))
    (iX4 : PySem.W.typeIn K (.ref mX4) = some (.type "function"))
    (jX4 : PySem.W.findIn K (.ref CM) "label" = some none)
    (lX4 : K.lookup mX4 = some ⟨ocX4, odX4, .func (PySem.W.fnOf "__init__" "MatchFault.__init__" (defArgs sX4) (defBody sX4) (defScope sX4) .none kVX4 dcX4 pmX4 anX4 cdX4 ctX4), slX4⟩)
    (cX4 : PySem.W.codeIn K cdX4 "MatchFault.__init__" = true)
    (kX4 : PySem.W.keepIn K (.ref mX4) = true)
    (by1 : PySem.W.exmOne K (.ref CF) (.ref CU) = some true)
    (by2 : PySem.W.exmOne K (.ref CM) (.ref CU) = some true)
    (bk4 : PySem.W.kitOne K (.ref CF) (.ref CF) = some true)
    (bk5 : PySem.W.kitOne K (.ref CM) (.ref CF) = some false)
    (bk6 : PySem.W.kitOne K (.ref CM) (.ref CM) = some true)
    (gKey : PySem.W.nsIn K mainGlobals "Key" = some (some (.ref C1)))
    (pgC1 : PySem.W.plainGet K C1 Str.empty = true)
    (hdC1 : PySem.W.hasDictIn K C1 = true)
    (poC1 : PySem.W.plainOver K C1 = true)
    (saC1 : PySem.W.findIn K (.ref C1) "__setattr__" = some (some (.builtin "object.__setattr__")))
    (mkC1 : PySem.W.makesIn K C1 = true)
    (kc_C1 : PySem.W.keepIn K (.ref C1) = true)
    (nC1label : PySem.W.findIn K (.ref C1) "label" = some none)
    (nC1_code : PySem.W.findIn K (.ref C1) "_code" = some none)
    (gTracedKey : PySem.W.nsIn K mainGlobals "TracedKey" = some (some (.ref C2)))
    (pgC2 : PySem.W.plainGet K C2 Str.empty = true)
    (hdC2 : PySem.W.hasDictIn K C2 = true)
    (poC2 : PySem.W.plainOver K C2 = true)
    (saC2 : PySem.W.findIn K (.ref C2) "__setattr__" = some (some (.builtin "object.__setattr__")))
    (mkC2 : PySem.W.makesIn K C2 = true)
    (kc_C2 : PySem.W.keepIn K (.ref C2) = true)
    (nC2label : PySem.W.findIn K (.ref C2) "label" = some none)
    (nC2_code : PySem.W.findIn K (.ref C2) "_code" = some none)
    (nC2_trace : PySem.W.findIn K (.ref C2) "_trace" = some none)
    (gFailingKey : PySem.W.nsIn K mainGlobals "FailingKey" = some (some (.ref C3)))
    (pgC3 : PySem.W.plainGet K C3 Str.empty = true)
    (hdC3 : PySem.W.hasDictIn K C3 = true)
    (poC3 : PySem.W.plainOver K C3 = true)
    (saC3 : PySem.W.findIn K (.ref C3) "__setattr__" = some (some (.builtin "object.__setattr__")))
    (mkC3 : PySem.W.makesIn K C3 = true)
    (kc_C3 : PySem.W.keepIn K (.ref C3) = true)
    (nC3label : PySem.W.findIn K (.ref C3) "label" = some none)
    (nC3_code : PySem.W.findIn K (.ref C3) "_code" = some none)
    (nC3_code_at : PySem.W.findIn K (.ref C3) "_code_at" = some none)
    (nC3_match_at : PySem.W.findIn K (.ref C3) "_match_at" = some none)
    (nC3_code_calls : PySem.W.findIn K (.ref C3) "_code_calls" = some none)
    (nC3_match_calls : PySem.W.findIn K (.ref C3) "_match_calls" = some none)
    (gTracedFailingKey : PySem.W.nsIn K mainGlobals "TracedFailingKey" = some (some (.ref C4)))
    (pgC4 : PySem.W.plainGet K C4 Str.empty = true)
    (hdC4 : PySem.W.hasDictIn K C4 = true)
    (poC4 : PySem.W.plainOver K C4 = true)
    (saC4 : PySem.W.findIn K (.ref C4) "__setattr__" = some (some (.builtin "object.__setattr__")))
    (mkC4 : PySem.W.makesIn K C4 = true)
    (kc_C4 : PySem.W.keepIn K (.ref C4) = true)
    (nC4label : PySem.W.findIn K (.ref C4) "label" = some none)
    (nC4_code : PySem.W.findIn K (.ref C4) "_code" = some none)
    (nC4_trace : PySem.W.findIn K (.ref C4) "_trace" = some none)
    (nC4_code_at : PySem.W.findIn K (.ref C4) "_code_at" = some none)
    (nC4_match_at : PySem.W.findIn K (.ref C4) "_match_at" = some none)
    (nC4_code_calls : PySem.W.findIn K (.ref C4) "_code_calls" = some none)
    (nC4_match_calls : PySem.W.findIn K (.ref C4) "_match_calls" = some none)
    (gLopsidedKey : PySem.W.nsIn K mainGlobals "LopsidedKey" = some (some (.ref CL)))
    (pgCL : PySem.W.plainGet K CL Str.empty = true)
    (hdCL : PySem.W.hasDictIn K CL = true)
    (poCL : PySem.W.plainOver K CL = true)
    (saCL : PySem.W.findIn K (.ref CL) "__setattr__" = some (some (.builtin "object.__setattr__")))
    (mkCL : PySem.W.makesIn K CL = true)
    (kc_CL : PySem.W.keepIn K (.ref CL) = true)
    (nCLlabel : PySem.W.findIn K (.ref CL) "label" = some none)
    (nCL_code : PySem.W.findIn K (.ref CL) "_code" = some none)
    (nCL_answers : PySem.W.findIn K (.ref CL) "_answers" = some none)
    (nCL_turn : PySem.W.findIn K (.ref CL) "_turn" = some none)
    (gDriftingKey : PySem.W.nsIn K mainGlobals "DriftingKey" = some (some (.ref CD)))
    (pgCD : PySem.W.plainGet K CD Str.empty = true)
    (hdCD : PySem.W.hasDictIn K CD = true)
    (poCD : PySem.W.plainOver K CD = true)
    (saCD : PySem.W.findIn K (.ref CD) "__setattr__" = some (some (.builtin "object.__setattr__")))
    (mkCD : PySem.W.makesIn K CD = true)
    (kc_CD : PySem.W.keepIn K (.ref CD) = true)
    (nCDlabel : PySem.W.findIn K (.ref CD) "label" = some none)
    (nCD_code : PySem.W.findIn K (.ref CD) "_code" = some none)
    (nCD_codes : PySem.W.findIn K (.ref CD) "_codes" = some none)
    (nCD_turn : PySem.W.findIn K (.ref CD) "_turn" = some none)
    (gTrace : PySem.W.nsIn K mainGlobals "Trace" = some (some (.ref CTr)))
    (pgCTr : PySem.W.plainGet K CTr Str.empty = true)
    (hdCTr : PySem.W.hasDictIn K CTr = true)
    (poCTr : PySem.W.plainOver K CTr = true)
    (saCTr : PySem.W.findIn K (.ref CTr) "__setattr__" = some (some (.builtin "object.__setattr__")))
    (mkCTr : PySem.W.makesIn K CTr = true)
    (kc_CTr : PySem.W.keepIn K (.ref CTr) = true)
    (nCTr_events : PySem.W.findIn K (.ref CTr) "_events" = some none)
    (hgs : PySem.W.specialIn K (.builtin "object.__class__") "__get__" = some (some (.builtin "getset_descriptor.__get__")))
    (hgt : PySem.W.takesIn K (.builtin "object.__class__") = some true)
    (hxC1 : PySem.W.findIn K (.ref C1) "__class__" = some (some (.builtin "object.__class__")))
    (hoC1 : PySem.W.mroIn K C1 (.type "object") = some true)
    (hxC2 : PySem.W.findIn K (.ref C2) "__class__" = some (some (.builtin "object.__class__")))
    (hoC2 : PySem.W.mroIn K C2 (.type "object") = some true)
    (hxC3 : PySem.W.findIn K (.ref C3) "__class__" = some (some (.builtin "object.__class__")))
    (hoC3 : PySem.W.mroIn K C3 (.type "object") = some true)
    (hxC4 : PySem.W.findIn K (.ref C4) "__class__" = some (some (.builtin "object.__class__")))
    (hoC4 : PySem.W.mroIn K C4 (.type "object") = some true)
    (hxCL : PySem.W.findIn K (.ref CL) "__class__" = some (some (.builtin "object.__class__")))
    (hoCL : PySem.W.mroIn K CL (.type "object") = some true)
    (hxCD : PySem.W.findIn K (.ref CD) "__class__" = some (some (.builtin "object.__class__")))
    (hoCD : PySem.W.mroIn K CD (.type "object") = some true)
    (hxCTr : PySem.W.findIn K (.ref CTr) "__class__" = some (some (.builtin "object.__class__")))
    (hoCTr : PySem.W.mroIn K CTr (.type "object") = some true)
    (hkC1 : PySem.W.kitOne K (.ref C1) (.ref C1) = some true)
    (hkC2 : PySem.W.kitOne K (.ref C2) (.ref C1) = some true)
    (hkC3 : PySem.W.kitOne K (.ref C3) (.ref C1) = some true)
    (hkC4 : PySem.W.kitOne K (.ref C4) (.ref C1) = some true)
    (hkCL : PySem.W.kitOne K (.ref CL) (.ref C1) = some true)
    (hkCD : PySem.W.kitOne K (.ref CD) (.ref C1) = some true)
    (ktC1 : PySem.W.kitOne K (.ref C1) (.ref C2) = some false)
    (kf_C1 : PySem.W.kitOne K (.ref C1) (.ref C3) = some false)
    (ktC2 : PySem.W.kitOne K (.ref C2) (.ref C2) = some true)
    (kf_C2 : PySem.W.kitOne K (.ref C2) (.ref C3) = some false)
    (ktC3 : PySem.W.kitOne K (.ref C3) (.ref C2) = some false)
    (kf_C3 : PySem.W.kitOne K (.ref C3) (.ref C3) = some true)
    (ktC4 : PySem.W.kitOne K (.ref C4) (.ref C2) = some true)
    (kf_C4 : PySem.W.kitOne K (.ref C4) (.ref C3) = some true)
    (ktCD : PySem.W.kitOne K (.ref CD) (.ref C2) = some false)
    (kf_CD : PySem.W.kitOne K (.ref CD) (.ref C3) = some false)
    (ktCL : PySem.W.kitOne K (.ref CL) (.ref C2) = some false)
    (kf_CL : PySem.W.kitOne K (.ref CL) (.ref C3) = some false)
    (tk1 : PySem.W.kitOne K (.ref CTr) (.ref C1) = some false)
    (tki : PySem.W.kitOne K (.ref CTr) (.type "int") = some false)
    (tkb : PySem.W.kitOne K (.ref CTr) (.type "bool") = some false)
    (tks : PySem.W.kitOne K (.ref CTr) (.type "str") = some false)
    (tkt : PySem.W.kitOne K (.ref CTr) (.type "tuple") = some false)
    (nkn : PySem.W.kitOne K (.type "NoneType") (.ref C1) = some false)
    (nkb : PySem.W.kitOne K (.type "bool") (.ref C1) = some false)
    (nki : PySem.W.kitOne K (.type "int") (.ref C1) = some false)
    (nks : PySem.W.kitOne K (.type "str") (.ref C1) = some false)
    (nkt : PySem.W.kitOne K (.type "tuple") (.ref C1) = some false)
    (nkl : PySem.W.kitOne K (.type "list") (.ref C1) = some false)
    (nkd : PySem.W.kitOne K (.type "dict") (.ref C1) = some false)
    (htop : (l.prog.main.scope.names.lookup ("super" : Str)).isSome = false)
    (hst : PySem.W.nsIn K cStatics "thirdparty.any" = some none)
    (zisinstance : PySem.W.nsIn K mainGlobals "isinstance" = some none)
    (zint : PySem.W.nsIn K mainGlobals "int" = some none)
    (zbool : PySem.W.nsIn K mainGlobals "bool" = some none)
    (zlist : PySem.W.nsIn K mainGlobals "list" = some none)
    (zrange : PySem.W.nsIn K mainGlobals "range" = some none)
    (zlen : PySem.W.nsIn K mainGlobals "len" = some none)
    (zmin : PySem.W.nsIn K mainGlobals "min" = some none)
    (zmax : PySem.W.nsIn K mainGlobals "max" = some none)
    (zsorted : PySem.W.nsIn K mainGlobals "sorted" = some none)
    (zenumerate : PySem.W.nsIn K mainGlobals "enumerate" = some none)
    (zrepr : PySem.W.nsIn K mainGlobals "repr" = some none)
    (ztuple : PySem.W.nsIn K mainGlobals "tuple" = some none)
    (zdivmod : PySem.W.nsIn K mainGlobals "divmod" = some none)
    (zall : PySem.W.nsIn K mainGlobals "all" = some none)
    (zord : PySem.W.nsIn K mainGlobals "ord" = some none)
    (zstr : PySem.W.nsIn K mainGlobals "str" = some none)
    (zsum : PySem.W.nsIn K mainGlobals "sum" = some none)
    (zsuper : PySem.W.nsIn K mainGlobals "super" = some none)
    (aI1 : PySem.W.findIn K (.ref C1) "__init__" = some (some (.ref mI1)))
    (iI1 : PySem.W.isFn K (.ref mI1) = true)
    (lI1 : K.lookup mI1 = some ⟨ocI1, odI1, .func (PySem.W.fnOf "__init__" "Key.__init__" (defArgs sKI) (defBody sKI) (defScope sKI) .none kVI1 dcI1 pmI1 anI1 cdI1 ctI1), slI1⟩)
    (cI1 : PySem.W.codeIn K cdI1 "Key.__init__" = true)
    (kI1 : PySem.W.keepIn K (.ref mI1) = true)
    (aIT : PySem.W.findIn K (.ref CTr) "__init__" = some (some (.ref mIT)))
    (iIT : PySem.W.isFn K (.ref mIT) = true)
    (lIT : K.lookup mIT = some ⟨ocIT, odIT, .func (PySem.W.fnOf "__init__" "Trace.__init__" (defArgs sTrI) (defBody sTrI) (defScope sTrI) .none kVIT dcIT pmIT anIT cdIT ctIT), slIT⟩)
    (cIT : PySem.W.codeIn K cdIT "Trace.__init__" = true)
    (kIT : PySem.W.keepIn K (.ref mIT) = true)
    (aIE : PySem.W.findIn K (.ref CTr) "events" = some (some (.ref mIE)))
    (iIE : PySem.W.isFn K (.ref mIE) = true)
    (lIE : K.lookup mIE = some ⟨ocIE, odIE, .func (PySem.W.fnOf "events" "Trace.events" (defArgs sTrE) (defBody sTrE) (defScope sTrE) .none kVIE dcIE pmIE anIE cdIE ctIE), slIE⟩)
    (cIE : PySem.W.codeIn K cdIE "Trace.events" = true)
    (kIE : PySem.W.keepIn K (.ref mIE) = true)
    (aIN : PySem.W.findIn K (.ref CTr) "note" = some (some (.ref mIN)))
    (iIN : PySem.W.isFn K (.ref mIN) = true)
    (lIN : K.lookup mIN = some ⟨ocIN, odIN, .func (PySem.W.fnOf "note" "Trace.note" (defArgs sTrN) (defBody sTrN) (defScope sTrN) .none kVIN dcIN pmIN anIN cdIN ctIN), slIN⟩)
    (cIN : PySem.W.codeIn K cdIN "Trace.note" = true)
    (kIN : PySem.W.keepIn K (.ref mIN) = true)
    (aI2 : PySem.W.findIn K (.ref C2) "__init__" = some (some (.ref mI2)))
    (iI2 : PySem.W.isFn K (.ref mI2) = true)
    (lI2 : K.lookup mI2 = some ⟨ocI2, odI2, .func (PySem.W.ksFn "__init__" "TracedKey.__init__" (defArgs sTI) (defBody sTI) (defScope sTI) .none kVI2 dcI2 pmI2 anI2 (.ref cAI2) ctI2 ccI2), slI2⟩)
    (cI2 : PySem.W.codeIn K (.ref cAI2) "TracedKey.__init__" = true)
    (xI2 : K.lookup cAI2 = some ⟨xcI2, xdI2, .fields xvI2, xsI2⟩)
    (yI2 : xvI2[2]? = some (.str flI2 tfI2))
    (zI2 : (l.prog.main.file == flI2) = true)
    (qI2 : K.lookup ccI2 = some ⟨qcI2, qdI2, .cell (some (.ref C2)), qsI2⟩)
    (e_I2 : (PySem.W.clsIn K C2).isSome = true)
    (aI3 : PySem.W.findIn K (.ref C3) "__init__" = some (some (.ref mI3)))
    (iI3 : PySem.W.isFn K (.ref mI3) = true)
    (lI3 : K.lookup mI3 = some ⟨ocI3, odI3, .func (PySem.W.ksFn "__init__" "FailingKey.__init__" (defArgs sFI) (defBody sFI) (defScope sFI) (.ref TI3) kVI3 dcI3 pmI3 anI3 (.ref cAI3) ctI3 ccI3), slI3⟩)
    (cI3 : PySem.W.codeIn K (.ref cAI3) "FailingKey.__init__" = true)
    (xI3 : K.lookup cAI3 = some ⟨xcI3, xdI3, .fields xvI3, xsI3⟩)
    (yI3 : xvI3[2]? = some (.str flI3 tfI3))
    (zI3 : (l.prog.main.file == flI3) = true)
    (qI3 : K.lookup ccI3 = some ⟨qcI3, qdI3, .cell (some (.ref C3)), qsI3⟩)
    (e_I3 : (PySem.W.clsIn K C3).isSome = true)
    (vI3 : K.lookup TI3 = some ⟨vcI3, vdI3, .seq #[.int 0 vt0I3, .int 0 vt1I3] vnI3, vsI3⟩)
    (aI4 : PySem.W.findIn K (.ref C4) "__init__" = some (some (.ref mI4)))
    (iI4 : PySem.W.isFn K (.ref mI4) = true)
    (lI4 : K.lookup mI4 = some ⟨ocI4, odI4, .func (PySem.W.ksFn "__init__" "TracedFailingKey.__init__" (defArgs sTFI) (defBody sTFI) (defScope sTFI) (.ref TI4) kVI4 dcI4 pmI4 anI4 (.ref cAI4) ctI4 ccI4), slI4⟩)
    (cI4 : PySem.W.codeIn K (.ref cAI4) "TracedFailingKey.__init__" = true)
    (xI4 : K.lookup cAI4 = some ⟨xcI4, xdI4, .fields xvI4, xsI4⟩)
    (yI4 : xvI4[2]? = some (.str flI4 tfI4))
    (zI4 : (l.prog.main.file == flI4) = true)
    (qI4 : K.lookup ccI4 = some ⟨qcI4, qdI4, .cell (some (.ref C4)), qsI4⟩)
    (e_I4 : (PySem.W.clsIn K C4).isSome = true)
    (vI4 : K.lookup TI4 = some ⟨vcI4, vdI4, .seq #[.int 0 vt0I4, .int 0 vt1I4] vnI4, vsI4⟩)
    (aIL : PySem.W.findIn K (.ref CL) "__init__" = some (some (.ref mIL)))
    (iIL : PySem.W.isFn K (.ref mIL) = true)
    (lIL : K.lookup mIL = some ⟨ocIL, odIL, .func (PySem.W.ksFn "__init__" "LopsidedKey.__init__" (defArgs sLI) (defBody sLI) (defScope sLI) .none kVIL dcIL pmIL anIL (.ref cAIL) ctIL ccIL), slIL⟩)
    (cIL : PySem.W.codeIn K (.ref cAIL) "LopsidedKey.__init__" = true)
    (xIL : K.lookup cAIL = some ⟨xcIL, xdIL, .fields xvIL, xsIL⟩)
    (yIL : xvIL[2]? = some (.str flIL tfIL))
    (zIL : (l.prog.main.file == flIL) = true)
    (qIL : K.lookup ccIL = some ⟨qcIL, qdIL, .cell (some (.ref CL)), qsIL⟩)
    (e_IL : (PySem.W.clsIn K CL).isSome = true)
    (ac1 : PySem.W.findIn K (.ref C1) "code" = some (some (.ref mc1)))
    (ic1 : PySem.W.isFn K (.ref mc1) = true)
    (lc1 : K.lookup mc1 = some ⟨occ1, odc1, .func (PySem.W.fnOf "code" "Key.code" (defArgs sKC) (defBody sKC) (defScope sKC) .none kVc1 dcc1 pmc1 anc1 cdc1 ctc1), slc1⟩)
    (cc1 : PySem.W.codeIn K cdc1 "Key.code" = true)
    (kc1 : PySem.W.keepIn K (.ref mc1) = true)
    (aw1 : PySem.W.findIn K (.ref C1) "matches" = some (some (.ref mw1)))
    (iw1 : PySem.W.isFn K (.ref mw1) = true)
    (lw1 : K.lookup mw1 = some ⟨ocw1, odw1, .func (PySem.W.fnOf "matches" "Key.matches" (defArgs sKM) (defBody sKM) (defScope sKM) .none kVw1 dcw1 pmw1 anw1 cdw1 ctw1), slw1⟩)
    (cw1 : PySem.W.codeIn K cdw1 "Key.matches" = true)
    (kw1 : PySem.W.keepIn K (.ref mw1) = true)
    (ac2 : PySem.W.findIn K (.ref C2) "code" = some (some (.ref mc2)))
    (ic2 : PySem.W.isFn K (.ref mc2) = true)
    (lc2 : K.lookup mc2 = some ⟨occ2, odc2, .func (PySem.W.ksFn "code" "TracedKey.code" (defArgs sTC) (defBody sTC) (defScope sTC) .none kVc2 dcc2 pmc2 anc2 (.ref cAc2) ctc2 ccc2), slc2⟩)
    (cc2 : PySem.W.codeIn K (.ref cAc2) "TracedKey.code" = true)
    (kc2 : PySem.W.keepIn K (.ref mc2) = true)
    (xc2 : K.lookup cAc2 = some ⟨xcc2, xdc2, .fields xvc2, xsc2⟩)
    (yc2 : xvc2[2]? = some (.str flc2 tfc2))
    (zc2 : (l.prog.main.file == flc2) = true)
    (qc2 : K.lookup ccc2 = some ⟨qcc2, qdc2, .cell (some (.ref C2)), qsc2⟩)
    (e_c2 : (PySem.W.clsIn K C2).isSome = true)
    (aw2 : PySem.W.findIn K (.ref C2) "matches" = some (some (.ref mw2)))
    (iw2 : PySem.W.isFn K (.ref mw2) = true)
    (lw2 : K.lookup mw2 = some ⟨ocw2, odw2, .func (PySem.W.ksFn "matches" "TracedKey.matches" (defArgs sTM) (defBody sTM) (defScope sTM) .none kVw2 dcw2 pmw2 anw2 (.ref cAw2) ctw2 ccw2), slw2⟩)
    (cw2 : PySem.W.codeIn K (.ref cAw2) "TracedKey.matches" = true)
    (kw2 : PySem.W.keepIn K (.ref mw2) = true)
    (xw2 : K.lookup cAw2 = some ⟨xcw2, xdw2, .fields xvw2, xsw2⟩)
    (yw2 : xvw2[2]? = some (.str flw2 tfw2))
    (zw2 : (l.prog.main.file == flw2) = true)
    (qw2 : K.lookup ccw2 = some ⟨qcw2, qdw2, .cell (some (.ref C2)), qsw2⟩)
    (e_w2 : (PySem.W.clsIn K C2).isSome = true)
    (ac3 : PySem.W.findIn K (.ref C3) "code" = some (some (.ref mc3)))
    (ic3 : PySem.W.isFn K (.ref mc3) = true)
    (lc3 : K.lookup mc3 = some ⟨occ3, odc3, .func (PySem.W.ksFn "code" "FailingKey.code" (defArgs sFC) (defBody sFC) (defScope sFC) .none kVc3 dcc3 pmc3 anc3 (.ref cAc3) ctc3 ccc3), slc3⟩)
    (cc3 : PySem.W.codeIn K (.ref cAc3) "FailingKey.code" = true)
    (kc3 : PySem.W.keepIn K (.ref mc3) = true)
    (xc3 : K.lookup cAc3 = some ⟨xcc3, xdc3, .fields xvc3, xsc3⟩)
    (yc3 : xvc3[2]? = some (.str flc3 tfc3))
    (zc3 : (l.prog.main.file == flc3) = true)
    (qc3 : K.lookup ccc3 = some ⟨qcc3, qdc3, .cell (some (.ref C3)), qsc3⟩)
    (e_c3 : (PySem.W.clsIn K C3).isSome = true)
    (aw3 : PySem.W.findIn K (.ref C3) "matches" = some (some (.ref mw3)))
    (iw3 : PySem.W.isFn K (.ref mw3) = true)
    (lw3 : K.lookup mw3 = some ⟨ocw3, odw3, .func (PySem.W.ksFn "matches" "FailingKey.matches" (defArgs sFM) (defBody sFM) (defScope sFM) .none kVw3 dcw3 pmw3 anw3 (.ref cAw3) ctw3 ccw3), slw3⟩)
    (cw3 : PySem.W.codeIn K (.ref cAw3) "FailingKey.matches" = true)
    (kw3 : PySem.W.keepIn K (.ref mw3) = true)
    (xw3 : K.lookup cAw3 = some ⟨xcw3, xdw3, .fields xvw3, xsw3⟩)
    (yw3 : xvw3[2]? = some (.str flw3 tfw3))
    (zw3 : (l.prog.main.file == flw3) = true)
    (qw3 : K.lookup ccw3 = some ⟨qcw3, qdw3, .cell (some (.ref C3)), qsw3⟩)
    (e_w3 : (PySem.W.clsIn K C3).isSome = true)
    (ac4 : PySem.W.findIn K (.ref C4) "code" = some (some (.ref mc4)))
    (ic4 : PySem.W.isFn K (.ref mc4) = true)
    (lc4 : K.lookup mc4 = some ⟨occ4, odc4, .func (PySem.W.ksFn "code" "TracedFailingKey.code" (defArgs sTFC) (defBody sTFC) (defScope sTFC) .none kVc4 dcc4 pmc4 anc4 (.ref cAc4) ctc4 ccc4), slc4⟩)
    (cc4 : PySem.W.codeIn K (.ref cAc4) "TracedFailingKey.code" = true)
    (kc4 : PySem.W.keepIn K (.ref mc4) = true)
    (xc4 : K.lookup cAc4 = some ⟨xcc4, xdc4, .fields xvc4, xsc4⟩)
    (yc4 : xvc4[2]? = some (.str flc4 tfc4))
    (zc4 : (l.prog.main.file == flc4) = true)
    (qc4 : K.lookup ccc4 = some ⟨qcc4, qdc4, .cell (some (.ref C4)), qsc4⟩)
    (e_c4 : (PySem.W.clsIn K C4).isSome = true)
    (aw4 : PySem.W.findIn K (.ref C4) "matches" = some (some (.ref mw4)))
    (iw4 : PySem.W.isFn K (.ref mw4) = true)
    (lw4 : K.lookup mw4 = some ⟨ocw4, odw4, .func (PySem.W.ksFn "matches" "TracedFailingKey.matches" (defArgs sTFM) (defBody sTFM) (defScope sTFM) .none kVw4 dcw4 pmw4 anw4 (.ref cAw4) ctw4 ccw4), slw4⟩)
    (cw4 : PySem.W.codeIn K (.ref cAw4) "TracedFailingKey.matches" = true)
    (kw4 : PySem.W.keepIn K (.ref mw4) = true)
    (xw4 : K.lookup cAw4 = some ⟨xcw4, xdw4, .fields xvw4, xsw4⟩)
    (yw4 : xvw4[2]? = some (.str flw4 tfw4))
    (zw4 : (l.prog.main.file == flw4) = true)
    (qw4 : K.lookup ccw4 = some ⟨qcw4, qdw4, .cell (some (.ref C4)), qsw4⟩)
    (e_w4 : (PySem.W.clsIn K C4).isSome = true)
    (aID : PySem.W.findIn K (.ref CD) "__init__" = some (some (.ref mID)))
    (iID : PySem.W.isFn K (.ref mID) = true)
    (lID : K.lookup mID = some ⟨ocID, odID, .func (PySem.W.ksFn "__init__" "DriftingKey.__init__" (defArgs sDI) (defBody sDI) (defScope sDI) .none kVID dcID pmID anID (.ref cAID) ctID ccID), slID⟩)
    (cID : PySem.W.codeIn K (.ref cAID) "DriftingKey.__init__" = true)
    (xID : K.lookup cAID = some ⟨xcID, xdID, .fields xvID, xsID⟩)
    (yID : xvID[2]? = some (.str flID tfID))
    (zID : (l.prog.main.file == flID) = true)
    (qID : K.lookup ccID = some ⟨qcID, qdID, .cell (some (.ref CD)), qsID⟩)
    (e_ID : (PySem.W.clsIn K CD).isSome = true)
    (acD : PySem.W.findIn K (.ref CD) "code" = some (some (.ref mcD)))
    (icD : PySem.W.isFn K (.ref mcD) = true)
    (lcD : K.lookup mcD = some ⟨occD, odcD, .func (PySem.W.fnOf "code" "DriftingKey.code" (defArgs sDC) (defBody sDC) (defScope sDC) .none kVcD dccD pmcD ancD cdcD ctcD), slcD⟩)
    (ccD : PySem.W.codeIn K cdcD "DriftingKey.code" = true)
    (kcD : PySem.W.keepIn K (.ref mcD) = true)
    (awD : PySem.W.findIn K (.ref CD) "matches" = some (some (.ref mwD)))
    (iwD : PySem.W.isFn K (.ref mwD) = true)
    (lwD : K.lookup mwD = some ⟨ocwD, odwD, .func (PySem.W.ksFn "matches" "DriftingKey.matches" (defArgs sDM) (defBody sDM) (defScope sDM) .none kVwD dcwD pmwD anwD (.ref cAwD) ctwD ccwD), slwD⟩)
    (cwD : PySem.W.codeIn K (.ref cAwD) "DriftingKey.matches" = true)
    (kwD : PySem.W.keepIn K (.ref mwD) = true)
    (xwD : K.lookup cAwD = some ⟨xcwD, xdwD, .fields xvwD, xswD⟩)
    (ywD : xvwD[2]? = some (.str flwD tfwD))
    (zwD : (l.prog.main.file == flwD) = true)
    (qwD : K.lookup ccwD = some ⟨qcwD, qdwD, .cell (some (.ref CD)), qswD⟩)
    (e_wD : (PySem.W.clsIn K CD).isSome = true)
    (acL : PySem.W.findIn K (.ref CL) "code" = some (some (.ref mcL)))
    (icL : PySem.W.isFn K (.ref mcL) = true)
    (lcL : K.lookup mcL = some ⟨occL, odcL, .func (PySem.W.ksFn "code" "LopsidedKey.code" (defArgs sLC) (defBody sLC) (defScope sLC) .none kVcL dccL pmcL ancL (.ref cAcL) ctcL cccL), slcL⟩)
    (ccL : PySem.W.codeIn K (.ref cAcL) "LopsidedKey.code" = true)
    (kcL : PySem.W.keepIn K (.ref mcL) = true)
    (xcL : K.lookup cAcL = some ⟨xccL, xdcL, .fields xvcL, xscL⟩)
    (ycL : xvcL[2]? = some (.str flcL tfcL))
    (zcL : (l.prog.main.file == flcL) = true)
    (qcL : K.lookup cccL = some ⟨qccL, qdcL, .cell (some (.ref CL)), qscL⟩)
    (e_cL : (PySem.W.clsIn K CL).isSome = true)
    (awL : PySem.W.findIn K (.ref CL) "matches" = some (some (.ref mwL)))
    (iwL : PySem.W.isFn K (.ref mwL) = true)
    (lwL : K.lookup mwL = some ⟨ocwL, odwL, .func (PySem.W.fnOf "matches" "LopsidedKey.matches" (defArgs sLM) (defBody sLM) (defScope sLM) .none kVwL dcwL pmwL anwL cdwL ctwL), slwL⟩)
    (cwL : PySem.W.codeIn K cdwL "LopsidedKey.matches" = true)
    (kwL : PySem.W.keepIn K (.ref mwL) = true)
    (s22 : PySem.W.ks_superIn K C2 C2 "__init__" = some (some (.ref mI1)))
    (m_22 : PySem.W.mroIn K C2 (.ref C2) = some true)
    (t22 : PySem.W.typeIn K (.ref mI1) = some (.type "function"))
    (n22 : PySem.W.fnIn K mI1 = true)
    (s33 : PySem.W.ks_superIn K C3 C3 "__init__" = some (some (.ref mI1)))
    (m_33 : PySem.W.mroIn K C3 (.ref C3) = some true)
    (t33 : PySem.W.typeIn K (.ref mI1) = some (.type "function"))
    (n33 : PySem.W.fnIn K mI1 = true)
    (s43 : PySem.W.ks_superIn K C4 C3 "__init__" = some (some (.ref mI1)))
    (m_43 : PySem.W.mroIn K C4 (.ref C3) = some true)
    (t43 : PySem.W.typeIn K (.ref mI1) = some (.type "function"))
    (n43 : PySem.W.fnIn K mI1 = true)
    (s42 : PySem.W.ks_superIn K C4 C2 "__init__" = some (some (.ref mI3)))
    (m_42 : PySem.W.mroIn K C4 (.ref C2) = some true)
    (t42 : PySem.W.typeIn K (.ref mI3) = some (.type "function"))
    (n42 : PySem.W.fnIn K mI3 = true)
    (s44 : PySem.W.ks_superIn K C4 C4 "__init__" = some (some (.ref mI2)))
    (m_44 : PySem.W.mroIn K C4 (.ref C4) = some true)
    (t44 : PySem.W.typeIn K (.ref mI2) = some (.type "function"))
    (n44 : PySem.W.fnIn K mI2 = true)
    (sLL : PySem.W.ks_superIn K CL CL "__init__" = some (some (.ref mI1)))
    (m_LL : PySem.W.mroIn K CL (.ref CL) = some true)
    (tLL : PySem.W.typeIn K (.ref mI1) = some (.type "function"))
    (nLL : PySem.W.fnIn K mI1 = true)
    (sDD : PySem.W.ks_superIn K CD CD "__init__" = some (some (.ref mI1)))
    (m_DD : PySem.W.mroIn K CD (.ref CD) = some true)
    (tDD : PySem.W.typeIn K (.ref mI1) = some (.type "function"))
    (nDD : PySem.W.fnIn K mI1 = true)
    (sc22 : PySem.W.ks_superIn K C2 C2 "code" = some (some (.ref mc1)))
    (m_c22 : PySem.W.mroIn K C2 (.ref C2) = some true)
    (tc22 : PySem.W.typeIn K (.ref mc1) = some (.type "function"))
    (nc22 : PySem.W.fnIn K mc1 = true)
    (sw22 : PySem.W.ks_superIn K C2 C2 "matches" = some (some (.ref mw1)))
    (m_w22 : PySem.W.mroIn K C2 (.ref C2) = some true)
    (tw22 : PySem.W.typeIn K (.ref mw1) = some (.type "function"))
    (nw22 : PySem.W.fnIn K mw1 = true)
    (sc33 : PySem.W.ks_superIn K C3 C3 "code" = some (some (.ref mc1)))
    (m_c33 : PySem.W.mroIn K C3 (.ref C3) = some true)
    (tc33 : PySem.W.typeIn K (.ref mc1) = some (.type "function"))
    (nc33 : PySem.W.fnIn K mc1 = true)
    (sw33 : PySem.W.ks_superIn K C3 C3 "matches" = some (some (.ref mw1)))
    (m_w33 : PySem.W.mroIn K C3 (.ref C3) = some true)
    (tw33 : PySem.W.typeIn K (.ref mw1) = some (.type "function"))
    (nw33 : PySem.W.fnIn K mw1 = true)
    (sc43 : PySem.W.ks_superIn K C4 C3 "code" = some (some (.ref mc1)))
    (m_c43 : PySem.W.mroIn K C4 (.ref C3) = some true)
    (tc43 : PySem.W.typeIn K (.ref mc1) = some (.type "function"))
    (nc43 : PySem.W.fnIn K mc1 = true)
    (sw43 : PySem.W.ks_superIn K C4 C3 "matches" = some (some (.ref mw1)))
    (m_w43 : PySem.W.mroIn K C4 (.ref C3) = some true)
    (tw43 : PySem.W.typeIn K (.ref mw1) = some (.type "function"))
    (nw43 : PySem.W.fnIn K mw1 = true)
    (sc42 : PySem.W.ks_superIn K C4 C2 "code" = some (some (.ref mc3)))
    (m_c42 : PySem.W.mroIn K C4 (.ref C2) = some true)
    (tc42 : PySem.W.typeIn K (.ref mc3) = some (.type "function"))
    (nc42 : PySem.W.fnIn K mc3 = true)
    (sw42 : PySem.W.ks_superIn K C4 C2 "matches" = some (some (.ref mw3)))
    (m_w42 : PySem.W.mroIn K C4 (.ref C2) = some true)
    (tw42 : PySem.W.typeIn K (.ref mw3) = some (.type "function"))
    (nw42 : PySem.W.fnIn K mw3 = true)
    (sc44 : PySem.W.ks_superIn K C4 C4 "code" = some (some (.ref mc2)))
    (m_c44 : PySem.W.mroIn K C4 (.ref C4) = some true)
    (tc44 : PySem.W.typeIn K (.ref mc2) = some (.type "function"))
    (nc44 : PySem.W.fnIn K mc2 = true)
    (sw44 : PySem.W.ks_superIn K C4 C4 "matches" = some (some (.ref mw2)))
    (m_w44 : PySem.W.mroIn K C4 (.ref C4) = some true)
    (tw44 : PySem.W.typeIn K (.ref mw2) = some (.type "function"))
    (nw44 : PySem.W.fnIn K mw2 = true)
    (scLL : PySem.W.ks_superIn K CL CL "code" = some (some (.ref mc1)))
    (m_cLL : PySem.W.mroIn K CL (.ref CL) = some true)
    (tcLL : PySem.W.typeIn K (.ref mc1) = some (.type "function"))
    (ncLL : PySem.W.fnIn K mc1 = true)
    (swDD : PySem.W.ks_superIn K CD CD "matches" = some (some (.ref mw1)))
    (m_wDD : PySem.W.mroIn K CD (.ref CD) = some true)
    (twDD : PySem.W.typeIn K (.ref mw1) = some (.type "function"))
    (nwDD : PySem.W.fnIn K mw1 = true)
    (gCODES : PySem.W.nsIn K mainGlobals "CODES" = some (some (.int 4294967296 tCODES)))
    (gMAX_SIGNS : PySem.W.nsIn K mainGlobals "MAX_SIGNS" = some (some (.int 40 tMAX_SIGNS)))
    (gFIRST_SIGN : PySem.W.nsIn K mainGlobals "FIRST_SIGN" = some (some (.int 32 tFIRST_SIGN)))
    (gLAST_SIGN : PySem.W.nsIn K mainGlobals "LAST_SIGN" = some (some (.int 126 tLAST_SIGN)))
    (gPERCENT_SIGN : PySem.W.nsIn K mainGlobals "PERCENT_SIGN" = some (some (.int 37 tPERCENT_SIGN))) :
    Gd.LawAtG l w K 14 63 "script" mg fa h := by
  have FW := fun_mk (st := sWhole) lW cW kW
  have dW : Df K mg "is_whole" "is_whole" sWhole ["thing"] fW _ := ⟨FW, FW.binds (ps := ["thing"]) (fun _ _ _ _ _ _ us hl => match us, hl with | [_], _ => rfl), PySem.W.mg_of X G aW⟩
  have FBt := fun_mk (st := sBetween) lBt cBt kBt
  have dBt : Df K mg "is_between" "is_between" sBetween ["thing", "low", "high"] fBt _ := ⟨FBt, FBt.binds (ps := ["thing", "low", "high"]) (fun _ _ _ _ _ _ us hl => match us, hl with | [_, _, _], _ => rfl), PySem.W.mg_of X G aBt⟩
  have FCo := fun_mk (st := sCode) lCo cCo kCo
  have dCo : Df K mg "is_code" "is_code" sCode ["thing"] fCo _ := ⟨FCo, FCo.binds (ps := ["thing"]) (fun _ _ _ _ _ _ us hl => match us, hl with | [_], _ => rfl), PySem.W.mg_of X G aCo⟩
  have FNc := fun_mk (st := sNeedCode) lNc cNc kNc
  have dNc : Df K mg "need_code" "need_code" sNeedCode ["thing"] fNc _ := ⟨FNc, FNc.binds (ps := ["thing"]) (fun _ _ _ _ _ _ us hl => match us, hl with | [_], _ => rfl), PySem.W.mg_of X G aNc⟩
  have FSg := fun_mk (st := sSign) lSg cSg kSg
  have dSg : Df K mg "_is_sign" "_is_sign" sSign ["number"] fSg _ := ⟨FSg, FSg.binds (ps := ["number"]) (fun _ _ _ _ _ _ us hl => match us, hl with | [_], _ => rfl), PySem.W.mg_of X G aSg⟩
  have FTx := fun_mk (st := sText) lTx cTx kTx
  have dTx : Df K mg "is_text" "is_text" sText ["thing"] fTx _ := ⟨FTx, FTx.binds (ps := ["thing"]) (fun _ _ _ _ _ _ us hl => match us, hl with | [_], _ => rfl), PySem.W.mg_of X G aTx⟩
  have FNl := fun_mk (st := sNLabel) lNl cNl kNl
  have dNl : Df K mg "_need_label" "_need_label" sNLabel ["label"] fNl _ := ⟨FNl, FNl.binds (ps := ["label"]) (fun _ _ _ _ _ _ us hl => match us, hl with | [_], _ => rfl), PySem.W.mg_of X G aNl⟩
  have FNf := fun_mk (st := sNFilled) lNf cNf kNf
  have dNf : Df K mg "_need_filled" "_need_filled" sNFilled ["items"] fNf _ := ⟨FNf, FNf.binds (ps := ["items"]) (fun _ _ _ _ _ _ us hl => match us, hl with | [_], _ => rfl), PySem.W.mg_of X G aNf⟩
  have FNo := fun_mk (st := sNameOf) lNo cNo kNo
  have dNo : Df K mg "_name_of" "_name_of" sNameOf ["key"] fNo _ := ⟨FNo, FNo.binds (ps := ["key"]) (fun _ _ _ _ _ _ us hl => match us, hl with | [_], _ => rfl), PySem.W.mg_of X G aNo⟩
  have FMx := fun_mk (st := sMixed) lMx cMx kMx
  have dMx : Df K mg "_law_mixed" "_law_mixed" sMixed ["cell", "k"] fMx _ := ⟨FMx, FMx.binds (ps := ["cell", "k"]) (fun _ _ _ _ _ _ us hl => match us, hl with | [_, _], _ => rfl), PySem.W.mg_of X G aMx⟩
  have FDr := fun_mk (st := sDraw) lDr cDr kDr
  have dDr : Df K mg "_law_draw" "_law_draw" sDraw ["cell", "k"] fDr _ := ⟨FDr, FDr.binds (ps := ["cell", "k"]) (fun _ _ _ _ _ _ us hl => match us, hl with | [_, _], _ => rfl), PySem.W.mg_of X G aDr⟩
  have FDg := fun_mk (st := sDigit) lDg cDg kDg
  have dDg : Df K mg "_law_digit" "_law_digit" sDigit ["state", "size"] fDg _ := ⟨FDg, FDg.binds (ps := ["state", "size"]) (fun _ _ _ _ _ _ us hl => match us, hl with | [_, _], _ => rfl), PySem.W.mg_of X G aDg⟩
  have FLk := fun_mk (st := sLKey) lLk cLk kLk
  have dLk : Df K mg "_law_key" "_law_key" sLKey ["state", "trace"] fLk _ := ⟨FLk, FLk.binds (ps := ["state", "trace"]) (fun _ _ _ _ _ _ us hl => match us, hl with | [_, _], _ => rfl), PySem.W.mg_of X G aLk⟩
  have FDu := fun_mk (st := sDue) lDu cDu kDu
  have dDu : Df K mg "_law_due" "_law_due" sDue ["known", "counts", "asked", "other"] fDu _ := ⟨FDu, FDu.binds (ps := ["known", "counts", "asked", "other"]) (fun _ _ _ _ _ _ us hl => match us, hl with | [_, _, _, _], _ => rfl), PySem.W.mg_of X G aDu⟩
  have dTo : Dz K mg "_law_told" sTold "call" fTo := ⟨PySem.W.mg_of X G aTo, kTo, ⟨_, _, _, _, _, _, _, _, _, _, lTo, cTo, .all (fun us hl => match us, hl with | [_], _ => rfl)⟩⟩
  have dL : Dc K mg "law" sLaw ["script"] fL cAL _ := ⟨⟨_, _, _, _, _, _, _, _, rfl, lL, cL⟩, kL, .all (fun us hl => match us, hl with | [_], _ => rfl), PySem.W.mg_of X G aL⟩
  have wE1 : Xo.XC K CK := ⟨⟨"ValueError", _, _, _, PySem.F.excBase_ValueError, PySem.F.store_ValueError, u1E1, u2E1⟩, u3E1, u4E1, u5E1, u6E1, u7E1, u8E1, u9E1⟩
  have eE1 : ExcC K CK := ⟨u5E1, u6E1, u7E1, u3E1, v1E1, v2E1, v3E1, v4E1⟩
  have FX1 := fun_mk (st := sX1) lX1 cX1 kX1
  have bX1 := FX1.binds (ps := ["self", "reason"]) (fun _ _ _ _ _ _ us hl => match us, hl with | [_, _], _ => rfl)
  have wE2 : Xo.XC K CC := ⟨⟨"ValueError", _, _, _, PySem.F.excBase_ValueError, PySem.F.store_ValueError, u1E2, u2E2⟩, u3E2, u4E2, u5E2, u6E2, u7E2, u8E2, u9E2⟩
  have eE2 : ExcC K CC := ⟨u5E2, u6E2, u7E2, u3E2, v1E2, v2E2, v3E2, v4E2⟩
  have FX2 := fun_mk (st := sX2) lX2 cX2 kX2
  have bX2 := FX2.binds (ps := ["self", "reason"]) (fun _ _ _ _ _ _ us hl => match us, hl with | [_, _], _ => rfl)
  have wE3 : Xo.XC K CF := ⟨⟨"RuntimeError", _, _, _, PySem.F.excBase_RuntimeError, PySem.F.store_RuntimeError, u1E3, u2E3⟩, u3E3, u4E3, u5E3, u6E3, u7E3, u8E3, u9E3⟩
  have eE3 : ExcC K CF := ⟨u5E3, u6E3, u7E3, u3E3, v1E3, v2E3, v3E3, v4E3⟩
  have FX3 := fun_mk (st := sX3) lX3 cX3 kX3
  have bX3 := FX3.binds (ps := ["self", "label"]) (fun _ _ _ _ _ _ us hl => match us, hl with | [_, _], _ => rfl)
  have wE4 : Xo.XC K CM := ⟨⟨"RuntimeError", _, _, _, PySem.F.excBase_RuntimeError, PySem.F.store_RuntimeError, u1E4, u2E4⟩, u3E4, u4E4, u5E4, u6E4, u7E4, u8E4, u9E4⟩
  have eE4 : ExcC K CM := ⟨u5E4, u6E4, u7E4, u3E4, v1E4, v2E4, v3E4, v4E4⟩
  have FX4 := fun_mk (st := sX4) lX4 cX4 kX4
  have bX4 := FX4.binds (ps := ["self", "label"]) (fun _ _ _ _ _ _ us hl => match us, hl with | [_, _], _ => rfl)
  have NK : NotKey K C1 := ⟨nkn, nkb, nki, nks, nkt, nkl, nkd, gKey⟩
  have MI1 := fun_mk (st := sKI) lI1 cI1 kI1
  have bI1 := MI1.binds (ps := ["self", "label", "code"]) (fun _ _ _ _ _ _ us hl => match us, hl with | [_, _, _], _ => rfl)
  have MIT := fun_mk (st := sTrI) lIT cIT kIT
  have bIT := MIT.binds (ps := ["self"]) (fun _ _ _ _ _ _ us hl => match us, hl with | [_], _ => rfl)
  have MIE := fun_mk (st := sTrE) lIE cIE kIE
  have bIE := MIE.binds (ps := ["self"]) (fun _ _ _ _ _ _ us hl => match us, hl with | [_], _ => rfl)
  have eIE : Meth K CTr "events" mIE := ⟨aIE, iIE, kIE⟩
  have MIN := fun_mk (st := sTrN) lIN cIN kIN
  have bIN := MIN.binds (ps := ["self", "event"]) (fun _ _ _ _ _ _ us hl => match us, hl with | [_, _], _ => rfl)
  have eIN : Meth K CTr "note" mIN := ⟨aIN, iIN, kIN⟩
  have bI2 : Binds K (PySem.W.ksFn "__init__" "TracedKey.__init__" (defArgs sTI) (defBody sTI) (defScope sTI) .none kVI2 dcI2 pmI2 anI2 (.ref cAI2) ctI2 ccI2) ["self", "label", "code", "trace"] [] := .all (fun us hl => match us, hl with | [_, _, _, _], _ => rfl)
  have UI2 : Su.FunS K l.prog mg "__init__" "TracedKey.__init__" sTI mI2 cAI2 ccI2 C2 _ := ⟨⟨_, _, _, _, _, _, _, _, _, rfl, lI2, cI2⟩, ⟨⟨_, _, _, _, _, lI2, rfl, rfl⟩, ⟨_, _, _, _, _, _, xI2, yI2, zI2⟩, ⟨_, _, _, qI2⟩, e_I2, htop, hst, PySem.W.mg_none_of X G zsuper⟩⟩
  have pI3 := Sb.binds_d (fd := PySem.W.ksFn "__init__" "FailingKey.__init__" (defArgs sFI) (defBody sFI) (defScope sFI) (.ref TI3) kVI3 dcI3 pmI3 anI3 (.ref cAI3) ctI3 ccI3) (ps := ["self", "label", "code", "code_at", "match_at"]) (its := [.int 0 vt0I3, .int 0 vt1I3]) (n := 3) (j := 0) vI3 rfl rfl (fun us hl => match us, hl with | [_, _, _], _ => ⟨_, rfl, rfl⟩)
  have rI3 := Sb.binds_d (fd := PySem.W.ksFn "__init__" "FailingKey.__init__" (defArgs sFI) (defBody sFI) (defScope sFI) (.ref TI3) kVI3 dcI3 pmI3 anI3 (.ref cAI3) ctI3 ccI3) (ps := ["self", "label", "code", "code_at", "match_at"]) (its := [.int 0 vt0I3, .int 0 vt1I3]) (n := 4) (j := 1) vI3 rfl rfl (fun us hl => match us, hl with | [_, _, _, _], _ => ⟨_, rfl, rfl⟩)
  have kbI3 := Sb.kb_two (fd := PySem.W.ksFn "__init__" "FailingKey.__init__" (defArgs sFI) (defBody sFI) (defScope sFI) (.ref TI3) kVI3 dcI3 pmI3 anI3 (.ref cAI3) ctI3 ccI3) (ps := ["self", "label", "code", "code_at", "match_at"]) (x := "code_at") (y := "match_at") (d0 := .int 0 vt0I3) (d1 := .int 0 vt1I3) (n := 3) vI3 rfl (fun us u v hl => match us, hl with | [_, _, _], _ => ⟨_, rfl, rfl⟩)
  have UI3 : Su.FunS K l.prog mg "__init__" "FailingKey.__init__" sFI mI3 cAI3 ccI3 C3 _ := ⟨⟨_, _, _, _, _, _, _, _, _, rfl, lI3, cI3⟩, ⟨⟨_, _, _, _, _, lI3, rfl, rfl⟩, ⟨_, _, _, _, _, _, xI3, yI3, zI3⟩, ⟨_, _, _, qI3⟩, e_I3, htop, hst, PySem.W.mg_none_of X G zsuper⟩⟩
  have pI4 := Sb.binds_d (fd := PySem.W.ksFn "__init__" "TracedFailingKey.__init__" (defArgs sTFI) (defBody sTFI) (defScope sTFI) (.ref TI4) kVI4 dcI4 pmI4 anI4 (.ref cAI4) ctI4 ccI4) (ps := ["self", "label", "code", "trace", "code_at", "match_at"]) (its := [.int 0 vt0I4, .int 0 vt1I4]) (n := 4) (j := 0) vI4 rfl rfl (fun us hl => match us, hl with | [_, _, _, _], _ => ⟨_, rfl, rfl⟩)
  have rI4 := Sb.binds_d (fd := PySem.W.ksFn "__init__" "TracedFailingKey.__init__" (defArgs sTFI) (defBody sTFI) (defScope sTFI) (.ref TI4) kVI4 dcI4 pmI4 anI4 (.ref cAI4) ctI4 ccI4) (ps := ["self", "label", "code", "trace", "code_at", "match_at"]) (its := [.int 0 vt0I4, .int 0 vt1I4]) (n := 5) (j := 1) vI4 rfl rfl (fun us hl => match us, hl with | [_, _, _, _, _], _ => ⟨_, rfl, rfl⟩)
  have kbI4 := Sb.kb_two (fd := PySem.W.ksFn "__init__" "TracedFailingKey.__init__" (defArgs sTFI) (defBody sTFI) (defScope sTFI) (.ref TI4) kVI4 dcI4 pmI4 anI4 (.ref cAI4) ctI4 ccI4) (ps := ["self", "label", "code", "trace", "code_at", "match_at"]) (x := "code_at") (y := "match_at") (d0 := .int 0 vt0I4) (d1 := .int 0 vt1I4) (n := 4) vI4 rfl (fun us u v hl => match us, hl with | [_, _, _, _], _ => ⟨_, rfl, rfl⟩)
  have UI4 : Su.FunS K l.prog mg "__init__" "TracedFailingKey.__init__" sTFI mI4 cAI4 ccI4 C4 _ := ⟨⟨_, _, _, _, _, _, _, _, _, rfl, lI4, cI4⟩, ⟨⟨_, _, _, _, _, lI4, rfl, rfl⟩, ⟨_, _, _, _, _, _, xI4, yI4, zI4⟩, ⟨_, _, _, qI4⟩, e_I4, htop, hst, PySem.W.mg_none_of X G zsuper⟩⟩
  have bIL : Binds K (PySem.W.ksFn "__init__" "LopsidedKey.__init__" (defArgs sLI) (defBody sLI) (defScope sLI) .none kVIL dcIL pmIL anIL (.ref cAIL) ctIL ccIL) ["self", "label", "code", "answers"] [] := .all (fun us hl => match us, hl with | [_, _, _, _], _ => rfl)
  have UIL : Su.FunS K l.prog mg "__init__" "LopsidedKey.__init__" sLI mIL cAIL ccIL CL _ := ⟨⟨_, _, _, _, _, _, _, _, _, rfl, lIL, cIL⟩, ⟨⟨_, _, _, _, _, lIL, rfl, rfl⟩, ⟨_, _, _, _, _, _, xIL, yIL, zIL⟩, ⟨_, _, _, qIL⟩, e_IL, htop, hst, PySem.W.mg_none_of X G zsuper⟩⟩
  have Mc1 := fun_mk (st := sKC) lc1 cc1 kc1
  have bc1 := Mc1.binds (ps := ["self"]) (fun _ _ _ _ _ _ us hl => match us, hl with | [_], _ => rfl)
  have ec1 : Meth K C1 "code" mc1 := ⟨ac1, ic1, kc1⟩
  have Mw1 := fun_mk (st := sKM) lw1 cw1 kw1
  have bw1 := Mw1.binds (ps := ["self", "other"]) (fun _ _ _ _ _ _ us hl => match us, hl with | [_, _], _ => rfl)
  have ew1 : Meth K C1 "matches" mw1 := ⟨aw1, iw1, kw1⟩
  have ec2 : Meth K C2 "code" mc2 := ⟨ac2, ic2, kc2⟩
  have bc2 : Binds K (PySem.W.ksFn "code" "TracedKey.code" (defArgs sTC) (defBody sTC) (defScope sTC) .none kVc2 dcc2 pmc2 anc2 (.ref cAc2) ctc2 ccc2) ["self"] [] := .all (fun us hl => match us, hl with | [_], _ => rfl)
  have Uc2 : Su.FunS K l.prog mg "code" "TracedKey.code" sTC mc2 cAc2 ccc2 C2 _ := ⟨⟨_, _, _, _, _, _, _, _, _, rfl, lc2, cc2⟩, ⟨⟨_, _, _, _, _, lc2, rfl, rfl⟩, ⟨_, _, _, _, _, _, xc2, yc2, zc2⟩, ⟨_, _, _, qc2⟩, e_c2, htop, hst, PySem.W.mg_none_of X G zsuper⟩⟩
  have ew2 : Meth K C2 "matches" mw2 := ⟨aw2, iw2, kw2⟩
  have bw2 : Binds K (PySem.W.ksFn "matches" "TracedKey.matches" (defArgs sTM) (defBody sTM) (defScope sTM) .none kVw2 dcw2 pmw2 anw2 (.ref cAw2) ctw2 ccw2) ["self", "other"] [] := .all (fun us hl => match us, hl with | [_, _], _ => rfl)
  have Uw2 : Su.FunS K l.prog mg "matches" "TracedKey.matches" sTM mw2 cAw2 ccw2 C2 _ := ⟨⟨_, _, _, _, _, _, _, _, _, rfl, lw2, cw2⟩, ⟨⟨_, _, _, _, _, lw2, rfl, rfl⟩, ⟨_, _, _, _, _, _, xw2, yw2, zw2⟩, ⟨_, _, _, qw2⟩, e_w2, htop, hst, PySem.W.mg_none_of X G zsuper⟩⟩
  have ec3 : Meth K C3 "code" mc3 := ⟨ac3, ic3, kc3⟩
  have bc3 : Binds K (PySem.W.ksFn "code" "FailingKey.code" (defArgs sFC) (defBody sFC) (defScope sFC) .none kVc3 dcc3 pmc3 anc3 (.ref cAc3) ctc3 ccc3) ["self"] [] := .all (fun us hl => match us, hl with | [_], _ => rfl)
  have Uc3 : Su.FunS K l.prog mg "code" "FailingKey.code" sFC mc3 cAc3 ccc3 C3 _ := ⟨⟨_, _, _, _, _, _, _, _, _, rfl, lc3, cc3⟩, ⟨⟨_, _, _, _, _, lc3, rfl, rfl⟩, ⟨_, _, _, _, _, _, xc3, yc3, zc3⟩, ⟨_, _, _, qc3⟩, e_c3, htop, hst, PySem.W.mg_none_of X G zsuper⟩⟩
  have ew3 : Meth K C3 "matches" mw3 := ⟨aw3, iw3, kw3⟩
  have bw3 : Binds K (PySem.W.ksFn "matches" "FailingKey.matches" (defArgs sFM) (defBody sFM) (defScope sFM) .none kVw3 dcw3 pmw3 anw3 (.ref cAw3) ctw3 ccw3) ["self", "other"] [] := .all (fun us hl => match us, hl with | [_, _], _ => rfl)
  have Uw3 : Su.FunS K l.prog mg "matches" "FailingKey.matches" sFM mw3 cAw3 ccw3 C3 _ := ⟨⟨_, _, _, _, _, _, _, _, _, rfl, lw3, cw3⟩, ⟨⟨_, _, _, _, _, lw3, rfl, rfl⟩, ⟨_, _, _, _, _, _, xw3, yw3, zw3⟩, ⟨_, _, _, qw3⟩, e_w3, htop, hst, PySem.W.mg_none_of X G zsuper⟩⟩
  have ec4 : Meth K C4 "code" mc4 := ⟨ac4, ic4, kc4⟩
  have bc4 : Binds K (PySem.W.ksFn "code" "TracedFailingKey.code" (defArgs sTFC) (defBody sTFC) (defScope sTFC) .none kVc4 dcc4 pmc4 anc4 (.ref cAc4) ctc4 ccc4) ["self"] [] := .all (fun us hl => match us, hl with | [_], _ => rfl)
  have Uc4 : Su.FunS K l.prog mg "code" "TracedFailingKey.code" sTFC mc4 cAc4 ccc4 C4 _ := ⟨⟨_, _, _, _, _, _, _, _, _, rfl, lc4, cc4⟩, ⟨⟨_, _, _, _, _, lc4, rfl, rfl⟩, ⟨_, _, _, _, _, _, xc4, yc4, zc4⟩, ⟨_, _, _, qc4⟩, e_c4, htop, hst, PySem.W.mg_none_of X G zsuper⟩⟩
  have ew4 : Meth K C4 "matches" mw4 := ⟨aw4, iw4, kw4⟩
  have bw4 : Binds K (PySem.W.ksFn "matches" "TracedFailingKey.matches" (defArgs sTFM) (defBody sTFM) (defScope sTFM) .none kVw4 dcw4 pmw4 anw4 (.ref cAw4) ctw4 ccw4) ["self", "other"] [] := .all (fun us hl => match us, hl with | [_, _], _ => rfl)
  have Uw4 : Su.FunS K l.prog mg "matches" "TracedFailingKey.matches" sTFM mw4 cAw4 ccw4 C4 _ := ⟨⟨_, _, _, _, _, _, _, _, _, rfl, lw4, cw4⟩, ⟨⟨_, _, _, _, _, lw4, rfl, rfl⟩, ⟨_, _, _, _, _, _, xw4, yw4, zw4⟩, ⟨_, _, _, qw4⟩, e_w4, htop, hst, PySem.W.mg_none_of X G zsuper⟩⟩
  have bID : Binds K (PySem.W.ksFn "__init__" "DriftingKey.__init__" (defArgs sDI) (defBody sDI) (defScope sDI) .none kVID dcID pmID anID (.ref cAID) ctID ccID) ["self", "label", "codes"] [] := .all (fun us hl => match us, hl with | [_, _, _], _ => rfl)
  have UID : Su.FunS K l.prog mg "__init__" "DriftingKey.__init__" sDI mID cAID ccID CD _ := ⟨⟨_, _, _, _, _, _, _, _, _, rfl, lID, cID⟩, ⟨⟨_, _, _, _, _, lID, rfl, rfl⟩, ⟨_, _, _, _, _, _, xID, yID, zID⟩, ⟨_, _, _, qID⟩, e_ID, htop, hst, PySem.W.mg_none_of X G zsuper⟩⟩
  have McD := fun_mk (st := sDC) lcD ccD kcD
  have bcD := McD.binds (ps := ["self"]) (fun _ _ _ _ _ _ us hl => match us, hl with | [_], _ => rfl)
  have ecD : Meth K CD "code" mcD := ⟨acD, icD, kcD⟩
  have ewD : Meth K CD "matches" mwD := ⟨awD, iwD, kwD⟩
  have bwD : Binds K (PySem.W.ksFn "matches" "DriftingKey.matches" (defArgs sDM) (defBody sDM) (defScope sDM) .none kVwD dcwD pmwD anwD (.ref cAwD) ctwD ccwD) ["self", "other"] [] := .all (fun us hl => match us, hl with | [_, _], _ => rfl)
  have UwD : Su.FunS K l.prog mg "matches" "DriftingKey.matches" sDM mwD cAwD ccwD CD _ := ⟨⟨_, _, _, _, _, _, _, _, _, rfl, lwD, cwD⟩, ⟨⟨_, _, _, _, _, lwD, rfl, rfl⟩, ⟨_, _, _, _, _, _, xwD, ywD, zwD⟩, ⟨_, _, _, qwD⟩, e_wD, htop, hst, PySem.W.mg_none_of X G zsuper⟩⟩
  have ecL : Meth K CL "code" mcL := ⟨acL, icL, kcL⟩
  have bcL : Binds K (PySem.W.ksFn "code" "LopsidedKey.code" (defArgs sLC) (defBody sLC) (defScope sLC) .none kVcL dccL pmcL ancL (.ref cAcL) ctcL cccL) ["self"] [] := .all (fun us hl => match us, hl with | [_], _ => rfl)
  have UcL : Su.FunS K l.prog mg "code" "LopsidedKey.code" sLC mcL cAcL cccL CL _ := ⟨⟨_, _, _, _, _, _, _, _, _, rfl, lcL, ccL⟩, ⟨⟨_, _, _, _, _, lcL, rfl, rfl⟩, ⟨_, _, _, _, _, _, xcL, ycL, zcL⟩, ⟨_, _, _, qcL⟩, e_cL, htop, hst, PySem.W.mg_none_of X G zsuper⟩⟩
  have MwL := fun_mk (st := sLM) lwL cwL kwL
  have bwL := MwL.binds (ps := ["self", "other"]) (fun _ _ _ _ _ _ us hl => match us, hl with | [_, _], _ => rfl)
  have ewL : Meth K CL "matches" mwL := ⟨awL, iwL, kwL⟩
  have A22 : Su.Above K C2 C2 "__init__" mI1 := ⟨s22, m_22, t22, n22⟩
  have A33 : Su.Above K C3 C3 "__init__" mI1 := ⟨s33, m_33, t33, n33⟩
  have A43 : Su.Above K C4 C3 "__init__" mI1 := ⟨s43, m_43, t43, n43⟩
  have A42 : Su.Above K C4 C2 "__init__" mI3 := ⟨s42, m_42, t42, n42⟩
  have A44 : Su.Above K C4 C4 "__init__" mI2 := ⟨s44, m_44, t44, n44⟩
  have ALL : Su.Above K CL CL "__init__" mI1 := ⟨sLL, m_LL, tLL, nLL⟩
  have ADD : Su.Above K CD CD "__init__" mI1 := ⟨sDD, m_DD, tDD, nDD⟩
  have Ac22 : Su.Above K C2 C2 "code" mc1 := ⟨sc22, m_c22, tc22, nc22⟩
  have Aw22 : Su.Above K C2 C2 "matches" mw1 := ⟨sw22, m_w22, tw22, nw22⟩
  have Ac33 : Su.Above K C3 C3 "code" mc1 := ⟨sc33, m_c33, tc33, nc33⟩
  have Aw33 : Su.Above K C3 C3 "matches" mw1 := ⟨sw33, m_w33, tw33, nw33⟩
  have Ac43 : Su.Above K C4 C3 "code" mc1 := ⟨sc43, m_c43, tc43, nc43⟩
  have Aw43 : Su.Above K C4 C3 "matches" mw1 := ⟨sw43, m_w43, tw43, nw43⟩
  have Ac42 : Su.Above K C4 C2 "code" mc3 := ⟨sc42, m_c42, tc42, nc42⟩
  have Aw42 : Su.Above K C4 C2 "matches" mw3 := ⟨sw42, m_w42, tw42, nw42⟩
  have Ac44 : Su.Above K C4 C4 "code" mc2 := ⟨sc44, m_c44, tc44, nc44⟩
  have Aw44 : Su.Above K C4 C4 "matches" mw2 := ⟨sw44, m_w44, tw44, nw44⟩
  have AcLL : Su.Above K CL CL "code" mc1 := ⟨scLL, m_cLL, tcLL, ncLL⟩
  have AwDD : Su.Above K CD CD "matches" mw1 := ⟨swDD, m_wDD, twDD, nwDD⟩
  have e := hfa.symm.trans (PySem.W.mg_of X G aL)
  cases e
  have B : Bl mg := ⟨PySem.W.mg_none_of X G zisinstance, PySem.W.mg_none_of X G zint, PySem.W.mg_none_of X G zbool, PySem.W.mg_none_of X G zlist, PySem.W.mg_none_of X G zrange, PySem.W.mg_none_of X G zlen, PySem.W.mg_none_of X G zmin, PySem.W.mg_none_of X G zmax, PySem.W.mg_none_of X G zsorted, PySem.W.mg_none_of X G zenumerate, PySem.W.mg_none_of X G zrepr, PySem.W.mg_none_of X G ztuple, PySem.W.mg_none_of X G zdivmod⟩
  have B2 : Bk mg := ⟨PySem.W.mg_none_of X G zall, PySem.W.mg_none_of X G zord, PySem.W.mg_none_of X G zstr⟩
  have CkH : Ck mg := ⟨⟨_, PySem.W.mg_of X G gCODES⟩, ⟨_, PySem.W.mg_of X G gMAX_SIGNS⟩, ⟨_, PySem.W.mg_of X G gFIRST_SIGN⟩, ⟨_, PySem.W.mg_of X G gLAST_SIGN⟩, ⟨_, PySem.W.mg_of X G gPERCENT_SIGN⟩⟩
  have ClC1 : Cls K C1 := ⟨pgC1, hdC1, poC1, saC1⟩
  have kcC1 : KCls K C1 := ⟨ClC1, nC1label, nC1_code⟩
  have kiC1 : KIns K C1 C1 := ⟨ClC1, hxC1, hgs, hgt, hoC1, hkC1, nC1label⟩
  have ClC2 : Cls K C2 := ⟨pgC2, hdC2, poC2, saC2⟩
  have kcC2 : KCls K C2 := ⟨ClC2, nC2label, nC2_code⟩
  have kiC2 : KIns K C2 C1 := ⟨ClC2, hxC2, hgs, hgt, hoC2, hkC2, nC2label⟩
  have ClC3 : Cls K C3 := ⟨pgC3, hdC3, poC3, saC3⟩
  have kcC3 : KCls K C3 := ⟨ClC3, nC3label, nC3_code⟩
  have kiC3 : KIns K C3 C1 := ⟨ClC3, hxC3, hgs, hgt, hoC3, hkC3, nC3label⟩
  have ClC4 : Cls K C4 := ⟨pgC4, hdC4, poC4, saC4⟩
  have kcC4 : KCls K C4 := ⟨ClC4, nC4label, nC4_code⟩
  have kiC4 : KIns K C4 C1 := ⟨ClC4, hxC4, hgs, hgt, hoC4, hkC4, nC4label⟩
  have ClCL : Cls K CL := ⟨pgCL, hdCL, poCL, saCL⟩
  have kcCL : KCls K CL := ⟨ClCL, nCLlabel, nCL_code⟩
  have kiCL : KIns K CL C1 := ⟨ClCL, hxCL, hgs, hgt, hoCL, hkCL, nCLlabel⟩
  have ClCD : Cls K CD := ⟨pgCD, hdCD, poCD, saCD⟩
  have kcCD : KCls K CD := ⟨ClCD, nCDlabel, nCD_code⟩
  have kiCD : KIns K CD C1 := ⟨ClCD, hxCD, hgs, hgt, hoCD, hkCD, nCDlabel⟩
  have ClT : Cls K CTr := ⟨pgCTr, hdCTr, poCTr, saCTr⟩
  have ib : InsB K CTr := ⟨ClT, hxCTr, hgs, hgt, hoCTr, tki, tkb, tks, tkt, fun CK e => by rw [gKey] at e; cases e; exact tk1⟩
  have kfC3 : KFail K C3 := ⟨nC3_code_at, nC3_match_at, nC3_code_calls, nC3_match_calls⟩
  have kfC4 : KFail K C4 := ⟨nC4_code_at, nC4_match_at, nC4_code_calls, nC4_match_calls⟩
  have MkC1 : Mk K C1 mI1 := ⟨mkC1, aI1, iI1, kc_C1⟩
  have MkC2 : Mk K C2 mI2 := ⟨mkC2, aI2, iI2, kc_C2⟩
  have MkC3 : Mk K C3 mI3 := ⟨mkC3, aI3, iI3, kc_C3⟩
  have MkC4 : Mk K C4 mI4 := ⟨mkC4, aI4, iI4, kc_C4⟩
  have MkCL : Mk K CL mIL := ⟨mkCL, aIL, iIL, kc_CL⟩
  have MkCD : Mk K CD mID := ⟨mkCD, aID, iID, kc_CD⟩
  have MkCTr : Mk K CTr mIT := ⟨mkCTr, aIT, iIT, kc_CTr⟩
  refine ⟨PySem.W.fnOf "law" "law" (defArgs sLaw) (defBody sLaw) (defScope sLaw) .none kVL dcL pmL anL (.ref cAL) ctL, [(cAL, PL)], spLaw K PL, ?_, ?_, ?_, fun s v => .of_eq rfl, fun H a ns hl hH hS => ⟨a, ns, rfl, hS, hl, ?_, fun _ => rfl⟩, fun base hb hg hT => ?_⟩
  · exact List.forall_mem_cons.mpr ⟨tL, fun _ z => nomatch z⟩
  · exact List.forall_mem_cons.mpr ⟨nL, fun _ z => nomatch z⟩
  · exact List.forall_mem_cons.mpr ⟨PySem.W.codeHd_of_K X hL, fun _ z => nomatch z⟩
  · exact List.forall_mem_cons.mpr ⟨.nil (hH (cAL, PL) (by simp)), fun _ z => nomatch z⟩
  have x1 : XK l.prog w K mg base "BadKey" CK "reason" := ⟨PySem.W.mg_of X G gBadKey, wE1, jX1, ⟨mX1, _, aX1, iX1, bX1, Xo.ok_xinit FX1 scX1 rfl (by decide) (by decide)⟩⟩
  have x2 : XK l.prog w K mg base "BadCode" CC "reason" := ⟨PySem.W.mg_of X G gBadCode, wE2, jX2, ⟨mX2, _, aX2, iX2, bX2, Xo.ok_xinit FX2 scX2 rfl (by decide) (by decide)⟩⟩
  have x3 : XK l.prog w K mg base "CodeFault" CF "label" := ⟨PySem.W.mg_of X G gCodeFault, wE3, jX3, ⟨mX3, _, aX3, iX3, bX3, Xo.ok_xinit FX3 scX3 rfl (by decide) (by decide)⟩⟩
  have x4 : XK l.prog w K mg base "MatchFault" CM "label" := ⟨PySem.W.mg_of X G gMatchFault, wE4, jX4, ⟨mX4, _, aX4, iX4, bX4, Xo.ok_xinit FX4 scX4 rfl (by decide) (by decide)⟩⟩
  have Bd : Bad K CF CM CU := ⟨by1, by2, eE3, eE4, wE3, wE4, jX3, jX4, bk4, bk5, bk6⟩
  have NN : Nms mg CF CM CU := ⟨PySem.W.mg_of X G gFault, PySem.W.mg_of X G gCodeFault, PySem.W.mg_of X G gMatchFault⟩
  have hK := PySem.W.mg_of X G gKey
  have gW := ok_whole (P := l.prog) (w := w) (base := base) dW B
  have gBt := ok_between dBt dW gW
  have gCo := ok_code dCo dBt gBt (PySem.W.mg_of X G gCODES)
  have gNc := ok_needCode dNc dCo gCo x2
  have gSg := ok_sign (P := l.prog) (w := w) (base := base) dSg CkH
  have gTx := ok_text (K := K) dTx B B2 CkH dSg gSg
  have gNl := ok_nLabel dNl dTx gTx x1
  have gNf := ok_nFilled dNf B x2
  have gNo := ok_nameOf (P := l.prog) (w := w) (base := base) dNo B hK NK
  have K1 := ok_ki MI1 kcC1 dNl gNl dNc gNc
  have K2 := ok_ki MI1 kcC2 dNl gNl dNc gNc
  have K3 := ok_ki MI1 kcC3 dNl gNl dNc gNc
  have K4 := ok_ki MI1 kcC4 dNl gNl dNc gNc
  have KL := ok_ki MI1 kcCL dNl gNl dNc gNc
  have g2 := ok_ti (dvs := []) UI2 kcC2 nC2_trace A22 K2 bI1 .nil rfl hfsK (fun _ _ => by show 2 < 1000; decide)
  have g3 := ok_fi UI3 kcC3 kfC3 A33 K3 bI1
  have g43 := ok_fi UI3 kcC4 kfC4 A43 K4 bI1
  have g42 := ok_ti (dvs := [.int 0, .int 0]) UI2 kcC4 nC4_trace A42 g43 pI3 (.cons ⟨_, rfl⟩ (.cons ⟨_, rfl⟩ .nil)) rfl hfsF (fun _ _ => by show 6 < 1000; decide)
  have g4 := ok_tfi UI4 kcC4 kfC4 A44 g42 bI2
  have KD := ok_ki MI1 kcCD dNl gNl dNc gNc
  have gD := ok_di UID kcCD nCD_codes nCD_turn ADD KD bI1 dNl gNl dNf gNf dNc gNc
  have gL := ok_li UIL kcCL nCL_answers nCL_turn ALL KL bI1 dNf gNf
  have gT := ok_trI (P := l.prog) (w := w) (mg := mg) (base := base) MIT ClT nCTr_events
  have gE := ok_trE (P := l.prog) (w := w) (base := base) MIE B ClT nCTr_events
  have gN := ok_trN (P := l.prog) (w := w) (mg := mg) (base := base) MIN ClT nCTr_events
  have q1 := ok_kc (P := l.prog) (w := w) (mg := mg) (base := base) Mc1 kcC1
  have q2 := ok_kc (P := l.prog) (w := w) (mg := mg) (base := base) Mc1 kcC2
  have q3 := ok_kc (P := l.prog) (w := w) (mg := mg) (base := base) Mc1 kcC3
  have q4 := ok_kc (P := l.prog) (w := w) (mg := mg) (base := base) Mc1 kcC4
  have qL := ok_kc (P := l.prog) (w := w) (mg := mg) (base := base) Mc1 kcCL
  have rD := ok_km (P := l.prog) (w := w) (base := base) Mw1 kcCD B hK NK
  have cD := ok_dc (P := l.prog) (w := w) (base := base) McD B kcCD nCD_codes nCD_turn
  have r1 := ok_km (P := l.prog) (w := w) (base := base) Mw1 kcC1 B hK NK
  have r2 := ok_km (P := l.prog) (w := w) (base := base) Mw1 kcC2 B hK NK
  have r3 := ok_km (P := l.prog) (w := w) (base := base) Mw1 kcC3 B hK NK
  have r4 := ok_km (P := l.prog) (w := w) (base := base) Mw1 kcC4 B hK NK
  have c2 := ok_tc Uc2 kcC2 nC2_trace Ac22 (q2.mono (show 1 ≤ 2 by decide)) bc1 ClT eIN gN bIN (Nat.le_refl 2)
  have w2' := ok_tm Uw2 kcC2 nC2_trace Aw22 (r2.mono (show 1 ≤ 2 by decide)) bw1 ClT eIN gN bIN dNo gNo (Nat.le_refl 2)
  have c3 := ok_fc Uc3 kcC3 kfC3 Ac33 (q3.mono (show 1 ≤ 2 by decide)) bc1 x3 (Nat.le_refl 2)
  have w3' := ok_fm Uw3 kcC3 kfC3 Aw33 (r3.mono (show 1 ≤ 2 by decide)) bw1 x4 (Nat.le_refl 2)
  have c43 := ok_fc Uc3 kcC4 kfC4 Ac43 (q4.mono (show 1 ≤ 2 by decide)) bc1 x3 (Nat.le_refl 2)
  have w43 := ok_fm Uw3 kcC4 kfC4 Aw43 (r4.mono (show 1 ≤ 2 by decide)) bw1 x4 (Nat.le_refl 2)
  have c42 := ok_tc Uc2 kcC4 nC4_trace Ac42 c43 bc3 ClT eIN gN bIN (by decide)
  have w42 := ok_tm Uw2 kcC4 nC4_trace Aw42 w43 bw3 ClT eIN gN bIN dNo gNo (by decide)
  have c44 := ok_tfc Uc4 Ac44 c42 bc2
  have w44 := ok_tfm Uw4 Aw44 w42 bw2
  have cLL := ok_lcd UcL AcLL qL bc1
  have wLL := ok_lm (P := l.prog) (w := w) (base := base) MwL B kcCL nCL_answers nCL_turn
  have wDD := ok_dm UwD AwDD rD bw1
  have M1 : KMs l.prog w K mg base C1 C1 7 _ _ := ⟨kiC1, ⟨_, _, ec1, bc1, q1.mono (by decide)⟩, ⟨_, _, ew1, bw1, r1.mono (by decide)⟩⟩
  have M2 : KMs l.prog w K mg base C2 C1 7 _ _ := ⟨kiC2, ⟨_, _, ec2, bc2, c2.mono (by decide)⟩, ⟨_, _, ew2, bw2, w2'.mono (by decide)⟩⟩
  have M3 : KMs l.prog w K mg base C3 C1 7 _ _ := ⟨kiC3, ⟨_, _, ec3, bc3, c3.mono (by decide)⟩, ⟨_, _, ew3, bw3, w3'.mono (by decide)⟩⟩
  have M4 : KMs l.prog w K mg base C4 C1 7 _ _ := ⟨kiC4, ⟨_, _, ec4, bc4, c44.mono (by decide)⟩, ⟨_, _, ew4, bw4, w44.mono (by decide)⟩⟩
  have MD : KMs l.prog w K mg base CD C1 7 _ _ := ⟨kiCD, ⟨_, _, ecD, bcD, cD.mono (by decide)⟩, ⟨_, _, ewD, bwD, wDD.mono (by decide)⟩⟩
  have ML : KMs l.prog w K mg base CL C1 7 _ _ := ⟨kiCL, ⟨_, _, ecL, bcL, cLL.mono (by decide)⟩, ⟨_, _, ewL, bwL, wLL.mono (by decide)⟩⟩
  have M6 : Ks6 l.prog w K mg base ⟨C1, C2, C3, C4, CD, CL, CTr, CF, CM, mc1, mc1, mc2, mc3, mc1, mc1, mw1, mw1, mw2, mw3, mw1, mw1⟩ := ⟨M1, M2, M3, M4, MD, ML⟩
  have KK : Kit K ⟨C1, C2, C3, C4, CD, CL, CTr, CF, CM, mc1, mc1, mc2, mc3, mc1, mc1, mw1, mw1, mw2, mw3, mw1, mw1⟩ := ⟨ktC1, ktC2, ktC3, ktC4, ktCD, ktCL, kf_C1, kf_C2, kf_C3, kf_C4, kf_CD, kf_CL⟩
  have gMx := ok_mixed (P := l.prog) (w := w) (base := base) dMx
  have gDr := ok_draw (P := l.prog) (w := w) (base := base) dDr
  have gDg := ok_digit dDg B dMx gMx
  have gLk := ok_lkey dLk B dDg gDg ⟨MkC1, PySem.W.mg_of X G gKey, bI1, K1⟩ ⟨MkC2, PySem.W.mg_of X G gTracedKey, bI2, g2⟩ MkC3 (PySem.W.mg_of X G gFailingKey) kbI3 g3 MkC4 (PySem.W.mg_of X G gTracedFailingKey) kbI4 g4 ⟨MkCD, PySem.W.mg_of X G gDriftingKey, bID, gD⟩ ⟨MkCL, PySem.W.mg_of X G gLopsidedKey, bIL, gL⟩
  have gDu := ok_due (P := l.prog) (w := w) (base := base) dDu B
  have tb2 : TabB base mg cAL PL := hT (cAL, PL) (by simp)
  exact ok_law (c := ⟨C1, C2, C3, C4, CD, CL, CTr, CF, CM, mc1, mc1, mc2, mc3, mc1, mc1, mw1, mw1, mw2, mw3, mw1, mw1⟩) dL (PySem.W.mg_none_of X G zsum) B dTo NN Bd tb2 M6 KK (PySem.W.mg_of X G gKey) (PySem.W.mg_of X G gTracedKey) (PySem.W.mg_of X G gFailingKey) dDu gDu dDg gDg MkCTr (PySem.W.mg_of X G gTrace) bIT gT ClT eIE gE bIE eIN gN bIN dLk gLk dDr gDr

theorem walk {l : PySem.W.OpenLaw} {q : Program} {loose : List Str} {XP : (Str → Option Value) → Heap → Prop} {YP : World → Heap → Prop} {d : DefRec} {K : Params → PySem.W.Frag} (hn : l.most = some 63) (hdf : d.params.defaults = [])
    (hY : ∀ (w : World) (h : Heap), YP w h → (K w.params).In h)
    (F : ∀ (w : World) (mg : Str → Option Value) (fa : Addr) (h : Heap), YP w h → (K w.params).In h → h.Ns mainGlobals mg → mg d.name = some (.ref fa) → Gd.LawAtG l w (K w.params) 14 63 "script" mg fa h) :
    PySem.W.WalkO q loose XP YP l.row.toRowW d [] (fun f vs => PySem.call f vs) := Gd.walk_ofG hn (by decide) hdf ⟨rfl, by decide, by decide⟩ hY F
end K02
open PySem PySem.W PyProof.Rows
set_option maxRecDepth 100000 in
set_option maxHeartbeats 0 in
theorem PySem.Challenge.cw_entryhall_k02_whole_key_objects_call_by_holds : PySem.Challenge.rw_entryhall_k02_whole_key_objects_call_by.Holds := by
  w_on; o_law; k_head; (case hw => w_witness2)
  k_fill
  refine K02.walk (l := PySem.Challenge.rw_entryhall_k02_whole_key_objects_call_by) rfl rfl (fun w h Y => PySem.W.km_in_of Y) ?F
  case F =>
    intro w mg fa h Y KX G hmg
    have hT8 := PySem.W.km_tabs_of Y
    refine' K02.all_mk KX G hmg ?aW ?lW ?cW ?kW ?aBt ?lBt ?cBt ?kBt ?aCo ?lCo ?cCo ?kCo ?aNc ?lNc ?cNc ?kNc ?aSg ?lSg ?cSg ?kSg ?aTx ?lTx ?cTx ?kTx ?aNl ?lNl ?cNl ?kNl ?aNf ?lNf ?cNf ?kNf ?aNo ?lNo ?cNo ?kNo ?aMx ?lMx ?cMx ?kMx ?aDr ?lDr ?cDr ?kDr ?aDg ?lDg ?cDg ?kDg ?aLk ?lLk ?cLk ?kLk ?aDu ?lDu ?cDu ?kDu ?aTo ?lTo ?cTo ?kTo ?aL ?lL ?cL ?kL ?xL ?yL ?hL ?nL ?tL ?gFault ?gBadKey ?u1E1 ?u2E1 ?u3E1 ?u4E1 ?u5E1 ?u6E1 ?u7E1 ?u8E1 ?u9E1 ?v1E1 ?v2E1 ?v3E1 ?v4E1 ?aX1 ?iX1 ?jX1 ?lX1 ?cX1 ?kX1 ?gBadCode ?u1E2 ?u2E2 ?u3E2 ?u4E2 ?u5E2 ?u6E2 ?u7E2 ?u8E2 ?u9E2 ?v1E2 ?v2E2 ?v3E2 ?v4E2 ?aX2 ?iX2 ?jX2 ?lX2 ?cX2 ?kX2 ?gCodeFault ?u1E3 ?u2E3 ?u3E3 ?u4E3 ?u5E3 ?u6E3 ?u7E3 ?u8E3 ?u9E3 ?v1E3 ?v2E3 ?v3E3 ?v4E3 ?aX3 ?iX3 ?jX3 ?lX3 ?cX3 ?kX3 ?gMatchFault ?u1E4 ?u2E4 ?u3E4 ?u4E4 ?u5E4 ?u6E4 ?u7E4 ?u8E4 ?u9E4 ?v1E4 ?v2E4 ?v3E4 ?v4E4 ?aX4 ?iX4 ?jX4 ?lX4 ?cX4 ?kX4 ?by1 ?by2 ?bk4 ?bk5 ?bk6 ?gKey ?pgC1 ?hdC1 ?poC1 ?saC1 ?mkC1 ?kc_C1 ?nC1label ?nC1_code ?gTracedKey ?pgC2 ?hdC2 ?poC2 ?saC2 ?mkC2 ?kc_C2 ?nC2label ?nC2_code ?nC2_trace ?gFailingKey ?pgC3 ?hdC3 ?poC3 ?saC3 ?mkC3 ?kc_C3 ?nC3label ?nC3_code ?nC3_code_at ?nC3_match_at ?nC3_code_calls ?nC3_match_calls ?gTracedFailingKey ?pgC4 ?hdC4 ?poC4 ?saC4 ?mkC4 ?kc_C4 ?nC4label ?nC4_code ?nC4_trace ?nC4_code_at ?nC4_match_at ?nC4_code_calls ?nC4_match_calls ?gLopsidedKey ?pgCL ?hdCL ?poCL ?saCL ?mkCL ?kc_CL ?nCLlabel ?nCL_code ?nCL_answers ?nCL_turn ?gDriftingKey ?pgCD ?hdCD ?poCD ?saCD ?mkCD ?kc_CD ?nCDlabel ?nCD_code ?nCD_codes ?nCD_turn ?gTrace ?pgCTr ?hdCTr ?poCTr ?saCTr ?mkCTr ?kc_CTr ?nCTr_events ?hgs ?hgt ?hxC1 ?hoC1 ?hxC2 ?hoC2 ?hxC3 ?hoC3 ?hxC4 ?hoC4 ?hxCL ?hoCL ?hxCD ?hoCD ?hxCTr ?hoCTr ?hkC1 ?hkC2 ?hkC3 ?hkC4 ?hkCL ?hkCD ?ktC1 ?kf_C1 ?ktC2 ?kf_C2 ?ktC3 ?kf_C3 ?ktC4 ?kf_C4 ?ktCD ?kf_CD ?ktCL ?kf_CL ?tk1 ?tki ?tkb ?tks ?tkt ?nkn ?nkb ?nki ?nks ?nkt ?nkl ?nkd ?htop ?hst ?zisinstance ?zint ?zbool ?zlist ?zrange ?zlen ?zmin ?zmax ?zsorted ?zenumerate ?zrepr ?ztuple ?zdivmod ?zall ?zord ?zstr ?zsum ?zsuper ?aI1 ?iI1 ?lI1 ?cI1 ?kI1 ?aIT ?iIT ?lIT ?cIT ?kIT ?aIE ?iIE ?lIE ?cIE ?kIE ?aIN ?iIN ?lIN ?cIN ?kIN ?aI2 ?iI2 ?lI2 ?cI2 ?xI2 ?yI2 ?zI2 ?qI2 ?e_I2 ?aI3 ?iI3 ?lI3 ?cI3 ?xI3 ?yI3 ?zI3 ?qI3 ?e_I3 ?vI3 ?aI4 ?iI4 ?lI4 ?cI4 ?xI4 ?yI4 ?zI4 ?qI4 ?e_I4 ?vI4 ?aIL ?iIL ?lIL ?cIL ?xIL ?yIL ?zIL ?qIL ?e_IL ?ac1 ?ic1 ?lc1 ?cc1 ?kc1 ?aw1 ?iw1 ?lw1 ?cw1 ?kw1 ?ac2 ?ic2 ?lc2 ?cc2 ?kc2 ?xc2 ?yc2 ?zc2 ?qc2 ?e_c2 ?aw2 ?iw2 ?lw2 ?cw2 ?kw2 ?xw2 ?yw2 ?zw2 ?qw2 ?e_w2 ?ac3 ?ic3 ?lc3 ?cc3 ?kc3 ?xc3 ?yc3 ?zc3 ?qc3 ?e_c3 ?aw3 ?iw3 ?lw3 ?cw3 ?kw3 ?xw3 ?yw3 ?zw3 ?qw3 ?e_w3 ?ac4 ?ic4 ?lc4 ?cc4 ?kc4 ?xc4 ?yc4 ?zc4 ?qc4 ?e_c4 ?aw4 ?iw4 ?lw4 ?cw4 ?kw4 ?xw4 ?yw4 ?zw4 ?qw4 ?e_w4 ?aID ?iID ?lID ?cID ?xID ?yID ?zID ?qID ?e_ID ?acD ?icD ?lcD ?ccD ?kcD ?awD ?iwD ?lwD ?cwD ?kwD ?xwD ?ywD ?zwD ?qwD ?e_wD ?acL ?icL ?lcL ?ccL ?kcL ?xcL ?ycL ?zcL ?qcL ?e_cL ?awL ?iwL ?lwL ?cwL ?kwL ?s22 ?m_22 ?t22 ?n22 ?s33 ?m_33 ?t33 ?n33 ?s43 ?m_43 ?t43 ?n43 ?s42 ?m_42 ?t42 ?n42 ?s44 ?m_44 ?t44 ?n44 ?sLL ?m_LL ?tLL ?nLL ?sDD ?m_DD ?tDD ?nDD ?sc22 ?m_c22 ?tc22 ?nc22 ?sw22 ?m_w22 ?tw22 ?nw22 ?sc33 ?m_c33 ?tc33 ?nc33 ?sw33 ?m_w33 ?tw33 ?nw33 ?sc43 ?m_c43 ?tc43 ?nc43 ?sw43 ?m_w43 ?tw43 ?nw43 ?sc42 ?m_c42 ?tc42 ?nc42 ?sw42 ?m_w42 ?tw42 ?nw42 ?sc44 ?m_c44 ?tc44 ?nc44 ?sw44 ?m_w44 ?tw44 ?nw44 ?scLL ?m_cLL ?tcLL ?ncLL ?swDD ?m_wDD ?twDD ?nwDD ?gCODES ?gMAX_SIGNS ?gFIRST_SIGN ?gLAST_SIGN ?gPERCENT_SIGN
    (case aW => k_is)
    (case lW => k_is)
    (case cW => k_is)
    (case kW => k_is)
    (case aBt => k_is)
    (case lBt => k_is)
    (case cBt => k_is)
    (case kBt => k_is)
    (case aCo => k_is)
    (case lCo => k_is)
    (case cCo => k_is)
    (case kCo => k_is)
    (case aNc => k_is)
    (case lNc => k_is)
    (case cNc => k_is)
    (case kNc => k_is)
    (case aSg => k_is)
    (case lSg => k_is)
    (case cSg => k_is)
    (case kSg => k_is)
    (case aTx => k_is)
    (case lTx => k_is)
    (case cTx => k_is)
    (case kTx => k_is)
    (case aNl => k_is)
    (case lNl => k_is)
    (case cNl => k_is)
    (case kNl => k_is)
    (case aNf => k_is)
    (case lNf => k_is)
    (case cNf => k_is)
    (case kNf => k_is)
    (case aNo => k_is)
    (case lNo => k_is)
    (case cNo => k_is)
    (case kNo => k_is)
    (case aMx => k_is)
    (case lMx => k_is)
    (case cMx => k_is)
    (case kMx => k_is)
    (case aDr => k_is)
    (case lDr => k_is)
    (case cDr => k_is)
    (case kDr => k_is)
    (case aDg => k_is)
    (case lDg => k_is)
    (case cDg => k_is)
    (case kDg => k_is)
    (case aLk => k_is)
    (case lLk => k_is)
    (case cLk => k_is)
    (case kLk => k_is)
    (case aDu => k_is)
    (case lDu => k_is)
    (case cDu => k_is)
    (case kDu => k_is)
    (case aTo => k_is)
    (case lTo => k_is)
    (case cTo => k_is)
    (case kTo => k_is)
    (case aL => k_is)
    (case lL => k_is)
    (case cL => k_is)
    (case kL => k_is)
    (case xL => k_is)
    (case yL => exact rfl)
    (case hL => kernel_rfl)
    (case nL => kernel_rfl)
    (case tL => exact hT8 _ (by simp))
    (case gFault => k_is)
    (case gBadKey => k_is)
    (case u1E1 => kx_is)
    (case u2E1 => kx_is)
    (case u3E1 => k_is)
    (case u4E1 => k_is)
    (case u5E1 => k_is)
    (case u6E1 => k_is)
    (case u7E1 => k_is)
    (case u8E1 => k_is)
    (case u9E1 => k_is)
    (case v1E1 => k_is)
    (case v2E1 => k_is)
    (case v3E1 => k_is)
    (case v4E1 => k_is)
    (case aX1 => k_is)
    (case iX1 => k_is)
    (case jX1 => k_is)
    (case lX1 => k_is)
    (case cX1 => k_is)
    (case kX1 => k_is)
    (case gBadCode => k_is)
    (case u1E2 => kx_is)
    (case u2E2 => kx_is)
    (case u3E2 => k_is)
    (case u4E2 => k_is)
    (case u5E2 => k_is)
    (case u6E2 => k_is)
    (case u7E2 => k_is)
    (case u8E2 => k_is)
    (case u9E2 => k_is)
    (case v1E2 => k_is)
    (case v2E2 => k_is)
    (case v3E2 => k_is)
    (case v4E2 => k_is)
    (case aX2 => k_is)
    (case iX2 => k_is)
    (case jX2 => k_is)
    (case lX2 => k_is)
    (case cX2 => k_is)
    (case kX2 => k_is)
    (case gCodeFault => k_is)
    (case u1E3 => kx_is)
    (case u2E3 => kx_is)
    (case u3E3 => k_is)
    (case u4E3 => k_is)
    (case u5E3 => k_is)
    (case u6E3 => k_is)
    (case u7E3 => k_is)
    (case u8E3 => k_is)
    (case u9E3 => k_is)
    (case v1E3 => k_is)
    (case v2E3 => k_is)
    (case v3E3 => k_is)
    (case v4E3 => k_is)
    (case aX3 => k_is)
    (case iX3 => k_is)
    (case jX3 => k_is)
    (case lX3 => k_is)
    (case cX3 => k_is)
    (case kX3 => k_is)
    (case gMatchFault => k_is)
    (case u1E4 => kx_is)
    (case u2E4 => kx_is)
    (case u3E4 => k_is)
    (case u4E4 => k_is)
    (case u5E4 => k_is)
    (case u6E4 => k_is)
    (case u7E4 => k_is)
    (case u8E4 => k_is)
    (case u9E4 => k_is)
    (case v1E4 => k_is)
    (case v2E4 => k_is)
    (case v3E4 => k_is)
    (case v4E4 => k_is)
    (case aX4 => k_is)
    (case iX4 => k_is)
    (case jX4 => k_is)
    (case lX4 => k_is)
    (case cX4 => k_is)
    (case kX4 => k_is)
    (case by1 => kernel_rfl)
    (case by2 => kernel_rfl)
    (case bk4 => kit_is)
    (case bk5 => kit_is)
    (case bk6 => kit_is)
    (case gKey => k_is)
    (case pgC1 => k_is)
    (case hdC1 => k_is)
    (case poC1 => k_is)
    (case saC1 => k_is)
    (case mkC1 => k_is)
    (case kc_C1 => k_is)
    (case nC1label => k_is)
    (case nC1_code => k_is)
    (case gTracedKey => k_is)
    (case pgC2 => k_is)
    (case hdC2 => k_is)
    (case poC2 => k_is)
    (case saC2 => k_is)
    (case mkC2 => k_is)
    (case kc_C2 => k_is)
    (case nC2label => k_is)
    (case nC2_code => k_is)
    (case nC2_trace => k_is)
    (case gFailingKey => k_is)
    (case pgC3 => k_is)
    (case hdC3 => k_is)
    (case poC3 => k_is)
    (case saC3 => k_is)
    (case mkC3 => k_is)
    (case kc_C3 => k_is)
    (case nC3label => k_is)
    (case nC3_code => k_is)
    (case nC3_code_at => k_is)
    (case nC3_match_at => k_is)
    (case nC3_code_calls => k_is)
    (case nC3_match_calls => k_is)
    (case gTracedFailingKey => k_is)
    (case pgC4 => k_is)
    (case hdC4 => k_is)
    (case poC4 => k_is)
    (case saC4 => k_is)
    (case mkC4 => k_is)
    (case kc_C4 => k_is)
    (case nC4label => k_is)
    (case nC4_code => k_is)
    (case nC4_trace => k_is)
    (case nC4_code_at => k_is)
    (case nC4_match_at => k_is)
    (case nC4_code_calls => k_is)
    (case nC4_match_calls => k_is)
    (case gLopsidedKey => k_is)
    (case pgCL => k_is)
    (case hdCL => k_is)
    (case poCL => k_is)
    (case saCL => k_is)
    (case mkCL => k_is)
    (case kc_CL => k_is)
    (case nCLlabel => k_is)
    (case nCL_code => k_is)
    (case nCL_answers => k_is)
    (case nCL_turn => k_is)
    (case gDriftingKey => k_is)
    (case pgCD => k_is)
    (case hdCD => k_is)
    (case poCD => k_is)
    (case saCD => k_is)
    (case mkCD => k_is)
    (case kc_CD => k_is)
    (case nCDlabel => k_is)
    (case nCD_code => k_is)
    (case nCD_codes => k_is)
    (case nCD_turn => k_is)
    (case gTrace => k_is)
    (case pgCTr => k_is)
    (case hdCTr => k_is)
    (case poCTr => k_is)
    (case saCTr => k_is)
    (case mkCTr => k_is)
    (case kc_CTr => k_is)
    (case nCTr_events => k_is)
    (case hgs => k_is)
    (case hgt => k_is)
    (case hxC1 => k_is)
    (case hoC1 => k_is)
    (case hxC2 => k_is)
    (case hoC2 => k_is)
    (case hxC3 => k_is)
    (case hoC3 => k_is)
    (case hxC4 => k_is)
    (case hoC4 => k_is)
    (case hxCL => k_is)
    (case hoCL => k_is)
    (case hxCD => k_is)
    (case hoCD => k_is)
    (case hxCTr => k_is)
    (case hoCTr => k_is)
    (case hkC1 => kit_is)
    (case hkC2 => kit_is)
    (case hkC3 => kit_is)
    (case hkC4 => kit_is)
    (case hkCL => kit_is)
    (case hkCD => kit_is)
    (case ktC1 => kit_is)
    (case kf_C1 => kit_is)
    (case ktC2 => kit_is)
    (case kf_C2 => kit_is)
    (case ktC3 => kit_is)
    (case kf_C3 => kit_is)
    (case ktC4 => kit_is)
    (case kf_C4 => kit_is)
    (case ktCD => kit_is)
    (case kf_CD => kit_is)
    (case ktCL => kit_is)
    (case kf_CL => kit_is)
    (case tk1 => kit_is)
    (case tki => kit_is)
    (case tkb => kit_is)
    (case tks => kit_is)
    (case tkt => kit_is)
    (case nkn => kit_is)
    (case nkb => kit_is)
    (case nki => kit_is)
    (case nks => kit_is)
    (case nkt => kit_is)
    (case nkl => kit_is)
    (case nkd => kit_is)
    (case htop => kernel_rfl)
    (case hst => k_is)
    (case zisinstance => k_is)
    (case zint => k_is)
    (case zbool => k_is)
    (case zlist => k_is)
    (case zrange => k_is)
    (case zlen => k_is)
    (case zmin => k_is)
    (case zmax => k_is)
    (case zsorted => k_is)
    (case zenumerate => k_is)
    (case zrepr => k_is)
    (case ztuple => k_is)
    (case zdivmod => k_is)
    (case zall => k_is)
    (case zord => k_is)
    (case zstr => k_is)
    (case zsum => k_is)
    (case zsuper => k_is)
    (case aI1 => k_is)
    (case iI1 => k_is)
    (case lI1 => k_is)
    (case cI1 => k_is)
    (case kI1 => k_is)
    (case aIT => k_is)
    (case iIT => k_is)
    (case lIT => k_is)
    (case cIT => k_is)
    (case kIT => k_is)
    (case aIE => k_is)
    (case iIE => k_is)
    (case lIE => k_is)
    (case cIE => k_is)
    (case kIE => k_is)
    (case aIN => k_is)
    (case iIN => k_is)
    (case lIN => k_is)
    (case cIN => k_is)
    (case kIN => k_is)
    (case aI2 => k_is)
    (case iI2 => k_is)
    (case lI2 => k_is)
    (case cI2 => k_is)
    (case xI2 => k_is)
    (case yI2 => exact rfl)
    (case zI2 => kernel_rfl)
    (case qI2 => k_is)
    (case e_I2 => kernel_rfl)
    (case aI3 => k_is)
    (case iI3 => k_is)
    (case lI3 => k_is)
    (case cI3 => k_is)
    (case xI3 => k_is)
    (case yI3 => exact rfl)
    (case zI3 => kernel_rfl)
    (case qI3 => k_is)
    (case e_I3 => kernel_rfl)
    (case vI3 => k_is)
    (case aI4 => k_is)
    (case iI4 => k_is)
    (case lI4 => k_is)
    (case cI4 => k_is)
    (case xI4 => k_is)
    (case yI4 => exact rfl)
    (case zI4 => kernel_rfl)
    (case qI4 => k_is)
    (case e_I4 => kernel_rfl)
    (case vI4 => k_is)
    (case aIL => k_is)
    (case iIL => k_is)
    (case lIL => k_is)
    (case cIL => k_is)
    (case xIL => k_is)
    (case yIL => exact rfl)
    (case zIL => kernel_rfl)
    (case qIL => k_is)
    (case e_IL => kernel_rfl)
    (case ac1 => k_is)
    (case ic1 => k_is)
    (case lc1 => k_is)
    (case cc1 => k_is)
    (case kc1 => k_is)
    (case aw1 => k_is)
    (case iw1 => k_is)
    (case lw1 => k_is)
    (case cw1 => k_is)
    (case kw1 => k_is)
    (case ac2 => k_is)
    (case ic2 => k_is)
    (case lc2 => k_is)
    (case cc2 => k_is)
    (case kc2 => k_is)
    (case xc2 => k_is)
    (case yc2 => exact rfl)
    (case zc2 => kernel_rfl)
    (case qc2 => k_is)
    (case e_c2 => kernel_rfl)
    (case aw2 => k_is)
    (case iw2 => k_is)
    (case lw2 => k_is)
    (case cw2 => k_is)
    (case kw2 => k_is)
    (case xw2 => k_is)
    (case yw2 => exact rfl)
    (case zw2 => kernel_rfl)
    (case qw2 => k_is)
    (case e_w2 => kernel_rfl)
    (case ac3 => k_is)
    (case ic3 => k_is)
    (case lc3 => k_is)
    (case cc3 => k_is)
    (case kc3 => k_is)
    (case xc3 => k_is)
    (case yc3 => exact rfl)
    (case zc3 => kernel_rfl)
    (case qc3 => k_is)
    (case e_c3 => kernel_rfl)
    (case aw3 => k_is)
    (case iw3 => k_is)
    (case lw3 => k_is)
    (case cw3 => k_is)
    (case kw3 => k_is)
    (case xw3 => k_is)
    (case yw3 => exact rfl)
    (case zw3 => kernel_rfl)
    (case qw3 => k_is)
    (case e_w3 => kernel_rfl)
    (case ac4 => k_is)
    (case ic4 => k_is)
    (case lc4 => k_is)
    (case cc4 => k_is)
    (case kc4 => k_is)
    (case xc4 => k_is)
    (case yc4 => exact rfl)
    (case zc4 => kernel_rfl)
    (case qc4 => k_is)
    (case e_c4 => kernel_rfl)
    (case aw4 => k_is)
    (case iw4 => k_is)
    (case lw4 => k_is)
    (case cw4 => k_is)
    (case kw4 => k_is)
    (case xw4 => k_is)
    (case yw4 => exact rfl)
    (case zw4 => kernel_rfl)
    (case qw4 => k_is)
    (case e_w4 => kernel_rfl)
    (case aID => k_is)
    (case iID => k_is)
    (case lID => k_is)
    (case cID => k_is)
    (case xID => k_is)
    (case yID => exact rfl)
    (case zID => kernel_rfl)
    (case qID => k_is)
    (case e_ID => kernel_rfl)
    (case acD => k_is)
    (case icD => k_is)
    (case lcD => k_is)
    (case ccD => k_is)
    (case kcD => k_is)
    (case awD => k_is)
    (case iwD => k_is)
    (case lwD => k_is)
    (case cwD => k_is)
    (case kwD => k_is)
    (case xwD => k_is)
    (case ywD => exact rfl)
    (case zwD => kernel_rfl)
    (case qwD => k_is)
    (case e_wD => kernel_rfl)
    (case acL => k_is)
    (case icL => k_is)
    (case lcL => k_is)
    (case ccL => k_is)
    (case kcL => k_is)
    (case xcL => k_is)
    (case ycL => exact rfl)
    (case zcL => kernel_rfl)
    (case qcL => k_is)
    (case e_cL => kernel_rfl)
    (case awL => k_is)
    (case iwL => k_is)
    (case lwL => k_is)
    (case cwL => k_is)
    (case kwL => k_is)
    (case s22 => ks_is)
    (case m_22 => k_is)
    (case t22 => k_is)
    (case n22 => k_is)
    (case s33 => ks_is)
    (case m_33 => k_is)
    (case t33 => k_is)
    (case n33 => k_is)
    (case s43 => ks_is)
    (case m_43 => k_is)
    (case t43 => k_is)
    (case n43 => k_is)
    (case s42 => ks_is)
    (case m_42 => k_is)
    (case t42 => k_is)
    (case n42 => k_is)
    (case s44 => ks_is)
    (case m_44 => k_is)
    (case t44 => k_is)
    (case n44 => k_is)
    (case sLL => ks_is)
    (case m_LL => k_is)
    (case tLL => k_is)
    (case nLL => k_is)
    (case sDD => ks_is)
    (case m_DD => k_is)
    (case tDD => k_is)
    (case nDD => k_is)
    (case sc22 => ks_is)
    (case m_c22 => k_is)
    (case tc22 => k_is)
    (case nc22 => k_is)
    (case sw22 => ks_is)
    (case m_w22 => k_is)
    (case tw22 => k_is)
    (case nw22 => k_is)
    (case sc33 => ks_is)
    (case m_c33 => k_is)
    (case tc33 => k_is)
    (case nc33 => k_is)
    (case sw33 => ks_is)
    (case m_w33 => k_is)
    (case tw33 => k_is)
    (case nw33 => k_is)
    (case sc43 => ks_is)
    (case m_c43 => k_is)
    (case tc43 => k_is)
    (case nc43 => k_is)
    (case sw43 => ks_is)
    (case m_w43 => k_is)
    (case tw43 => k_is)
    (case nw43 => k_is)
    (case sc42 => ks_is)
    (case m_c42 => k_is)
    (case tc42 => k_is)
    (case nc42 => k_is)
    (case sw42 => ks_is)
    (case m_w42 => k_is)
    (case tw42 => k_is)
    (case nw42 => k_is)
    (case sc44 => ks_is)
    (case m_c44 => k_is)
    (case tc44 => k_is)
    (case nc44 => k_is)
    (case sw44 => ks_is)
    (case m_w44 => k_is)
    (case tw44 => k_is)
    (case nw44 => k_is)
    (case scLL => ks_is)
    (case m_cLL => k_is)
    (case tcLL => k_is)
    (case ncLL => k_is)
    (case swDD => ks_is)
    (case m_wDD => k_is)
    (case twDD => k_is)
    (case nwDD => k_is)
    (case gCODES => k_is)
    (case gMAX_SIGNS => k_is)
    (case gFIRST_SIGN => k_is)
    (case gLAST_SIGN => k_is)
    (case gPERCENT_SIGN => k_is)
#print axioms PySem.Challenge.cw_entryhall_k02_whole_key_objects_call_by_holds
