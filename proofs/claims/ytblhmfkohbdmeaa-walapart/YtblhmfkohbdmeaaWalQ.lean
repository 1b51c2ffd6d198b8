/-
  bringHome, log, Commit and Open, cut off anywhere. Plain facts; no walk.
-/
import Derived.Test.YtblhmfkohbdmeaaWalP
namespace Go.Proofs.Ytblhmfkohbdmeaa
open Go.RowKit Go.Maps

/-- The function as total one. -/
def val (f : SecF) (i : Nat) : Sec := (f i).getD zeroS
theorem val_len {f : SecF} (hf : Full f) (i : Nat) : (val f i).length = 64 := by
  unfold val
  cases h : f i with
  | none => exact zeroS_len
  | some t => exact hf i t h

theorem homeK_frozen {s : DevS} (h : s.up = false) (f : SecF) (l : List Nat) : homeK s f l = s := by
  unfold homeK
  induction l with
  | nil => rfl
  | cons a l ih => rw [List.foldl_cons, write_frozen h]; exact ih

theorem homeK_cons (s : DevS) (f : SecF) (a : Nat) (l : List Nat) : homeK s f (a :: l) = homeK (s.write (a : Int) (Go.Proofs.Ytblhmfkohbdmeaa.mk (val f a))).2 f l := rfl

theorem up_cases (s : DevS) : s.up = false ∨ s.up = true := by cases s.up <;> simp

section
variable {N : Nat} {l : List Nat} {f : SecF} {x : Nat → Sec}

theorem MM.wrote {s : DevS} (h : MM N l (val f) x s) (i : Nat) (hi : i < N) (hm : i ∈ l) (t : Sec) (g : Int) : MM N l (val f) x { s with waits := putF s.waits i t, fuse := g } := by
  refine ⟨h.n, h.hs, ?_, fun j hj => ?_, fun k hk hn => ?_⟩
  · rw [readAt_write, if_neg (by omega)]
    exact h.hr
  · rw [readAt_write, if_neg (by omega)]
    exact h.slots j hj
  · rw [readAt_write, if_neg (fun (e : k = i) => hn (by rw [e]; exact hm))]
    exact h.rest k hk hn

theorem homeK_stage (hf : Full f) : ∀ (l' : List Nat) (s : DevS), (∀ i ∈ l', i < N ∧ i ∈ l) → MM N l (val f) x s →
    MM N l (val f) x (homeK s f l') ∧ (homeK s f l').age = s.age ∧ (s.fuse = -1 → (homeK s f l').fuse = -1) ∧ ((homeK s f l').up = true → ∀ i, (homeK s f l').readAt i = if i ∈ l' then val f i else s.readAt i)
  | [], s, _, h => ⟨h, rfl, id, fun _ i => by simp [homeK]⟩
  | a :: l', s, hl', h => by
    obtain ⟨ha1, ha2⟩ := hl' a (by simp)
    rcases up_cases s with hu | hu
    · rw [homeK_frozen hu]
      exact ⟨h, rfl, id, fun hu' => by rw [hu] at hu'; cases hu'⟩
    · rw [homeK_cons, write_go hu a (by have := h.n; omega) _ (val_len hf a)]
      obtain ⟨h1, h2, h3, h4⟩ := homeK_stage hf l' _ (fun i hi => hl' i (by simp [hi])) (h.wrote a ha1 ha2 (val f a) (burnt s.fuse))
      refine ⟨h1, h2, fun hfu => h3 (by show burnt s.fuse = -1; rw [hfu]; rfl), fun hu' i => ?_⟩
      rw [h4 hu' i, readAt_write]
      by_cases hi : i ∈ l'
      · simp [hi]
      · by_cases e : i = a
        · subst e; simp [hi]
        · simp [hi, e]

theorem home_all (hf : Full f) (hk : ∀ i, i < N → ((f i).isSome = true ↔ i ∈ l)) (hx : ∀ i ∈ l, x i = val f i) {s : DevS} (h : MM N l (val f) x s) :
    (homeD s f N).2.age = s.age ∧ (s.fuse = -1 → (homeD s f N).1 = 0 ∧ (homeD s f N).2.fuse = -1) ∧
    (((homeD s f N).1 = 0 ∧ Clean N x (homeD s f N).2 ∧ (homeD s f N).2.keys = []) ∨ ((homeD s f N).1 = 3 ∧ (homeD s f N).2.up = false ∧ (MM N l (val f) x (homeD s f N).2 ∨ EE N l (val f) x (homeD s f N).2))) := by
  have hkeys : ∀ i ∈ keysF N f, i < N ∧ i ∈ l := fun i hi => ⟨(mem_keysF.1 hi).1, (hk i (mem_keysF.1 hi).1).1 (mem_keysF.1 hi).2⟩
  obtain ⟨g1, g2, g3, g4⟩ := homeK_stage hf (keysF N f) s hkeys h
  have hN : (s.n : Int) - 25 = (N : Int) := by have := h.n; omega
  unfold homeD
  rw [hN]
  generalize homeK s f (keysF N f) = s1 at *
  rcases up_cases s1 with hu | hu
  · rw [sync_frozen hu, write_frozen hu, sync_frozen hu]
    exact ⟨g2, fun hfu => (by have := g3 hfu; rw [up_of this] at hu; cases hu), .inr ⟨rfl, hu, .inl g1⟩⟩
  · have hr := g4 hu
    have hhome : ∀ i, i < N → s1.readAt i = x i := fun i hi => by
      rw [hr i]
      by_cases hm : i ∈ l
      · rw [if_pos (mem_keysF.2 ⟨hi, (hk i hi).2 hm⟩), hx i hm]
      · rw [if_neg (fun hm' => hm (hkeys i hm').2)]
        exact (h.rest i hi hm).2
    have e2 : EE N l (val f) x { s1.synced with fuse := burnt s1.fuse } := by
      refine ⟨g1.n, .inl ?_, .inl ?_, fun j hj => ?_, fun i hi => ?_⟩
      · rw [safeAt_sync]; exact g1.hr
      · rw [readAt_sync]; exact g1.hr
      · rw [safeAt_sync, readAt_sync]; exact ⟨(g1.slots j hj).2, (g1.slots j hj).2⟩
      · rw [safeAt_sync, readAt_sync]; exact ⟨hhome i hi, hhome i hi⟩
    have a2 : DevS.age { s1.synced with fuse := burnt s1.fuse } = s.age := g2
    have f2 : s.fuse = -1 → DevS.fuse { s1.synced with fuse := burnt s1.fuse } = -1 := fun hfu => by show burnt s1.fuse = -1; rw [g3 hfu]; rfl
    rw [sync_go hu]
    simp only
    generalize ({ s1.synced with fuse := burnt s1.fuse } : DevS) = s2 at *
    rcases up_cases s2 with hu2 | hu2
    · rw [write_frozen hu2, sync_frozen hu2]
      exact ⟨a2, fun hfu => (by have := f2 hfu; rw [up_of this] at hu2; cases hu2), .inr ⟨rfl, hu2, .inr e2⟩⟩
    · rw [write_go hu2 N (by have := e2.n; omega) zeroS zeroS_len]
      simp only
      have e3 : EE N l (val f) x { s2 with waits := putF s2.waits N zeroS, fuse := burnt s2.fuse } := by
        refine ⟨e2.n, e2.hs, .inr ?_, fun j hj => ?_, fun i hi => ?_⟩
        · rw [readAt_write, if_pos rfl]
        · rw [readAt_write, if_neg (by omega)]; exact e2.slots j hj
        · rw [readAt_write, if_neg (by omega)]; exact e2.rest i hi
      have r3 : DevS.readAt { s2 with waits := putF s2.waits N zeroS, fuse := burnt s2.fuse } N = zeroS := by rw [readAt_write, if_pos rfl]
      have a3 : DevS.age { s2 with waits := putF s2.waits N zeroS, fuse := burnt s2.fuse } = s.age := a2
      have f3 : s.fuse = -1 → DevS.fuse { s2 with waits := putF s2.waits N zeroS, fuse := burnt s2.fuse } = -1 := fun hfu => by show burnt s2.fuse = -1; rw [f2 hfu]; rfl
      generalize ({ s2 with waits := putF s2.waits N zeroS, fuse := burnt s2.fuse } : DevS) = s3 at *
      rcases up_cases s3 with hu3 | hu3
      · rw [sync_frozen hu3]
        exact ⟨a3, fun hfu => (by have := f3 hfu; rw [up_of this] at hu3; cases hu3), .inr ⟨rfl, hu3, .inr e3⟩⟩
      · rw [sync_go hu3]
        refine ⟨a3, fun hfu => ⟨rfl, by show burnt s3.fuse = -1; rw [f3 hfu]; rfl⟩, .inl ⟨rfl, ⟨e3.n, ?_, ?_, fun i hi => ?_⟩, keysF_none _⟩⟩
        · rw [safeAt_sync]; exact r3
        · rw [readAt_sync]; exact r3
        · rw [safeAt_sync, readAt_sync]; exact ⟨(e3.rest i hi).2, (e3.rest i hi).2⟩

theorem homeD_frozen {s : DevS} (h : s.up = false) (f : SecF) (N : Nat) : homeD s f N = (3, s) := by
  unfold homeD
  rw [homeK_frozen h, sync_frozen h, write_frozen h, sync_frozen h]

/-! ### log -/
theorem logK_stage (hf : Full f) {a b : Nat → Sec} {s : DevS} (hl : l.length ≤ 24) (h : KK N a b s) : ∀ k, k ≤ l.length →
    KK N a b (logK s f l k) ∧ (logK s f l k).age = s.age ∧ (s.fuse = -1 → (logK s f l k).fuse = -1) ∧ ((logK s f l k).up = true → (∀ i, i ≤ N → (logK s f l k).readAt i = s.readAt i) ∧ ∀ j, j < k → (logK s f l k).readAt (N + 1 + j) = val f (l.getD j 0))
  | 0, _ => ⟨h, rfl, id, fun _ => ⟨fun _ _ => rfl, fun j hj => by omega⟩⟩
  | k + 1, hk => by
    obtain ⟨g1, g2, g3, g4⟩ := logK_stage hf hl h k (by omega)
    rw [logK]
    have hN : (s.n : Int) - 24 + (k : Nat) = ((N + 1 + k : Nat) : Int) := by have := h.n; omega
    rw [hN]
    generalize logK s f l k = s1 at *
    rcases up_cases s1 with hu | hu
    · rw [write_frozen hu]
      exact ⟨g1, g2, g3, fun hu' => by rw [hu] at hu'; cases hu'⟩
    · have hv : Go.Proofs.Ytblhmfkohbdmeaa.mk ((f (l.getD k 0)).getD zeroS) = Go.Proofs.Ytblhmfkohbdmeaa.mk (val f (l.getD k 0)) := rfl
      rw [hv, write_go hu (N + 1 + k) (by have := g1.n; omega) _ (val_len hf _)]
      obtain ⟨r1, r2⟩ := g4 hu
      refine ⟨⟨g1.n, g1.hs, ?_, fun i hi => ?_⟩, g2, fun hfu => by show burnt s1.fuse = -1; rw [g3 hfu]; rfl, fun _ => ⟨fun i hi => ?_, fun j hj => ?_⟩⟩
      · rw [readAt_write, if_neg (by omega)]; exact g1.hr
      · rw [readAt_write, if_neg (by omega)]; exact g1.rest i hi
      · rw [readAt_write, if_neg (by omega)]; exact r1 i hi
      · rw [readAt_write]
        by_cases e : j = k
        · subst e; rw [if_pos rfl]
        · rw [if_neg (by omega)]; exact r2 j (by omega)

theorem logK_frozen {s : DevS} (h : s.up = false) (f : SecF) (l : List Nat) : ∀ k, logK s f l k = s
  | 0 => rfl
  | k + 1 => by rw [logK, logK_frozen h f l k, write_frozen h]

/-- Behind log: the Commit is logged; or the device is down, and nothing is there, or the heading may be. -/
theorem log_all (hf : Full f) {s : DevS} (hl : LOK N (keysF N f)) (hn : s.n = N + 25) (hs : s.safeAt N = zeroS) (hr : s.readAt N = zeroS) :
    (logD s f N).age = s.age ∧ (s.fuse = -1 → (logD s f N).fuse = -1) ∧
    (MM N (keysF N f) (val f) (over (keysF N f) (val f) s.readAt) (logD s f N) ∨ ((logD s f N).up = false ∧ (KK N s.safeAt s.readAt (logD s f N) ∨ EE N (keysF N f) (val f) s.readAt (logD s f N)))) := by
  have hK : KK N s.safeAt s.readAt s := ⟨hn, hs, hr, fun i _ => ⟨.inl rfl, .inr rfl⟩⟩
  obtain ⟨g1, g2, g3, g4⟩ := logK_stage (l := keysF N f) hf hl.len hK _ (Nat.le_refl _)
  have hN : (s.n : Int) - 25 = (N : Int) := by omega
  unfold logD
  rw [hN]
  generalize logK s f (keysF N f) (keysF N f).length = s1 at *
  rcases up_cases s1 with hu | hu
  · rw [sync_frozen hu, write_frozen hu, sync_frozen hu]
    exact ⟨g2, g3, .inr ⟨hu, .inl g1⟩⟩
  · obtain ⟨r1, r2⟩ := g4 hu
    have e2 : EE N (keysF N f) (val f) s.readAt { s1.synced with fuse := burnt s1.fuse } := by
      refine ⟨g1.n, .inr ?_, .inr ?_, fun j hj => ?_, fun i hi => ?_⟩
      · rw [safeAt_sync]; exact g1.hr
      · rw [readAt_sync]; exact g1.hr
      · rw [safeAt_sync, readAt_sync, r2 j hj, getD_lt _ _ hj]
        exact ⟨rfl, rfl⟩
      · rw [safeAt_sync, readAt_sync, r1 i (by omega)]; exact ⟨rfl, rfl⟩
    have a2 : DevS.age { s1.synced with fuse := burnt s1.fuse } = s.age := g2
    have f2 : s.fuse = -1 → DevS.fuse { s1.synced with fuse := burnt s1.fuse } = -1 := fun hfu => by show burnt s1.fuse = -1; rw [g3 hfu]; rfl
    rw [sync_go hu]
    simp only
    generalize ({ s1.synced with fuse := burnt s1.fuse } : DevS) = s2 at *
    rcases up_cases s2 with hu2 | hu2
    · rw [write_frozen hu2, sync_frozen hu2]
      exact ⟨a2, f2, .inr ⟨hu2, .inr e2⟩⟩
    · rw [write_go hu2 N (by have := e2.n; omega) _ (hdL_len _ _)]
      simp only
      have e3 : EE N (keysF N f) (val f) s.readAt { s2 with waits := putF s2.waits N (hdL (keysF N f) (keysF N f).length), fuse := burnt s2.fuse } := by
        refine ⟨e2.n, e2.hs, .inl ?_, fun j hj => ?_, fun i hi => ?_⟩
        · rw [readAt_write, if_pos rfl]
        · rw [readAt_write, if_neg (by omega)]; exact e2.slots j hj
        · rw [readAt_write, if_neg (by omega)]; exact e2.rest i hi
      have r3 : DevS.readAt { s2 with waits := putF s2.waits N (hdL (keysF N f) (keysF N f).length), fuse := burnt s2.fuse } N = hdL (keysF N f) (keysF N f).length := by rw [readAt_write, if_pos rfl]
      have a3 : DevS.age { s2 with waits := putF s2.waits N (hdL (keysF N f) (keysF N f).length), fuse := burnt s2.fuse } = s.age := a2
      have f3 : s.fuse = -1 → DevS.fuse { s2 with waits := putF s2.waits N (hdL (keysF N f) (keysF N f).length), fuse := burnt s2.fuse } = -1 := fun hfu => by show burnt s2.fuse = -1; rw [f2 hfu]; rfl
      generalize ({ s2 with waits := putF s2.waits N (hdL (keysF N f) (keysF N f).length), fuse := burnt s2.fuse } : DevS) = s3 at *
      rcases up_cases s3 with hu3 | hu3
      · rw [sync_frozen hu3]
        exact ⟨a3, f3, .inr ⟨hu3, .inr e3⟩⟩
      · rw [sync_go hu3]
        refine ⟨a3, fun hfu => by show burnt s3.fuse = -1; rw [f3 hfu]; rfl, .inl ⟨e3.n, ?_, ?_, fun j hj => ?_, fun i hi hm => ?_⟩⟩
        · rw [safeAt_sync]; exact r3
        · rw [readAt_sync]; exact r3
        · rw [safeAt_sync, readAt_sync]; exact ⟨(e3.slots j hj).2, (e3.slots j hj).2⟩
        · rw [safeAt_sync, readAt_sync]
          unfold over
          rw [if_neg hm]
          exact ⟨(e3.rest i hi).2, (e3.rest i hi).2⟩
end

/-! ### Commit, Open -/
theorem fOf_LOK {N : Nat} {lw : List WrD} (h : OkW N lw) (h24 : lw.length ≤ 24) : LOK N (keysF N (fOf lw)) :=
  ⟨by rw [keys_len h]; exact h24, fun x hx => (mem_keysF.1 hx).1, keysF_sorted _ _⟩

/-- What a Commit makes of x. -/
def put (lw : List WrD) (x : Nat → Sec) (i : Nat) : Sec := (fOf lw i).getD (x i)

theorem over_put {N : Nat} (lw : List WrD) (x : Nat → Sec) (i : Nat) (hi : i < N) : over (keysF N (fOf lw)) (val (fOf lw)) x i = put lw x i := by
  unfold over put val
  cases h : fOf lw i with
  | none => rw [if_neg (fun hm => by have := (mem_keysF.1 hm).2; rw [h] at this; cases this)]; rfl
  | some t => rw [if_pos (mem_keysF.2 ⟨hi, by rw [h]; rfl⟩)]; rfl

theorem Clean.congr {N : Nat} {x y : Nat → Sec} {s : DevS} (h : Clean N x s) (hxy : ∀ i, i < N → x i = y i) : Clean N y s :=
  ⟨h.n, h.hs, h.hr, fun i hi => by rw [← hxy i hi]; exact h.rest i hi⟩

/-- A Commit that may be, on a device that is up, without a heading. -/
theorem commit_all {N : Nat} {lw : List WrD} {s : DevS} (hok : OkW N lw) (h24 : lw.length ≤ 24) (hu : s.up = true) (hn : s.n = N + 25) (hs : s.safeAt N = zeroS) (hr : s.readAt N = zeroS) :
    (commitD s N lw).2.age = s.age ∧ (s.fuse = -1 → (commitD s N lw).1 = 0 ∧ (commitD s N lw).2.fuse = -1) ∧
    (((commitD s N lw).1 = 0 ∧ Clean N (put lw s.readAt) (commitD s N lw).2 ∧ (commitD s N lw).2.keys = []) ∨
     ((commitD s N lw).1 = 3 ∧ (commitD s N lw).2.up = false ∧ lw ≠ [] ∧ ∀ m, ∃ y, Rest N ((commitD s N lw).2.crashed m) y ∧ ((∀ i, i < N → y i = put lw s.readAt i) ∨ ∀ i, i < N → y i = s.safeAt i ∨ y i = s.readAt i))) := by
  unfold commitD
  by_cases hnil : lw = []
  · rw [if_pos hnil, sync_go hu]
    refine ⟨rfl, fun hfu => ⟨rfl, by show burnt s.fuse = -1; rw [hfu]; rfl⟩, .inl ⟨rfl, ⟨hn, ?_, ?_, fun i _ => ?_⟩, keysF_none _⟩⟩
    · rw [safeAt_sync]; exact hr
    · rw [readAt_sync]; exact hr
    · rw [safeAt_sync, readAt_sync, hnil]; exact ⟨rfl, rfl⟩
  · rw [if_neg hnil]
    have hl := fOf_LOK hok h24
    have hf := fOf_full hok
    obtain ⟨g1, g2, g3⟩ := log_all hf hl hn hs hr
    generalize logD s (fOf lw) N = s1 at *
    rcases g3 with hM | ⟨hd, hKE⟩
    · have hx : ∀ i ∈ keysF N (fOf lw), over (keysF N (fOf lw)) (val (fOf lw)) s.readAt i = val (fOf lw) i := fun i hi => by unfold over; rw [if_pos hi]
      obtain ⟨k1, k2, k3⟩ := home_all hf (fun i hi => by rw [mem_keysF]; simp [hi]) hx hM
      refine ⟨k1.trans g1, fun hfu => k2 (g2 hfu), ?_⟩
      rcases k3 with ⟨e, hc, hkz⟩ | ⟨e, hdn, hME⟩
      · exact .inl ⟨e, hc.congr (fun i hi => over_put lw _ i hi), hkz⟩
      · refine .inr ⟨e, hdn, hnil, fun m => ?_⟩
        rcases hME with hm | hm
        · exact ⟨_, hm.crash hl hx m, .inl fun i hi => over_put lw _ i hi⟩
        · rcases hm.crash hl m with hc | hc
          · exact ⟨_, hc, .inl fun i hi => over_put lw _ i hi⟩
          · refine ⟨_, hc, .inl fun i hi => ?_⟩
            rw [← over_put lw _ i hi]
            unfold over
            by_cases hi' : i ∈ keysF N (fOf lw) <;> simp [hi']
    · rw [homeD_frozen hd]
      refine ⟨g1, fun hfu => (by have := g2 hfu; rw [up_of this] at hd; cases hd), .inr ⟨rfl, hd, hnil, fun m => ?_⟩⟩
      rcases hKE with hk | he
      · obtain ⟨y, h1, h2⟩ := hk.crash m
        exact ⟨y, h1, .inr h2⟩
      · rcases he.crash hl m with hc | hc
        · exact ⟨_, hc, .inr fun i _ => .inr rfl⟩
        · exact ⟨_, hc, .inl fun i hi => over_put lw _ i hi⟩

theorem noKeys {s : DevS} (h : s.keys = []) {i : Nat} (hi : i < s.n) : s.safeAt i = s.readAt i := by
  have : s.waits i = none := by
    cases hw : s.waits i with
    | none => rfl
    | some t =>
      have : i ∈ s.keys := mem_keysF.2 ⟨hi, by rw [hw]; rfl⟩
      rw [h] at this
      cases this
  unfold DevS.readAt
  rw [this]
  rfl

/-- Open on a device at rest, cut off or not. -/
theorem open_all {w : World} {p bs bw : Nat} {N : Nat} {x : Nat → Sec} {s : DevS} (hd : IsDev w p bs bw s) (h : Rest N s x) (l : List Nat) (hl : LOK N l) (hh : s.readAt N = hdL l l.length) (hx : ∀ i, i < N → x i = (slotF s N l l.length i).getD (s.readAt i)) :
    (openD s N l).2.age = s.age ∧ (s.fuse = -1 → (openD s N l).1 = 0 ∧ (openD s N l).2.fuse = -1) ∧ (∀ m, Rest N ((openD s N l).2.crashed m) x) ∧
    (((openD s N l).1 = 0 ∧ Clean N x (openD s N l).2 ∧ (openD s N l).2.keys = []) ∨ ((openD s N l).1 = 3 ∧ (openD s N l).2.up = false)) := by
  have hsr : ∀ i, i < N + 25 → s.safeAt i = s.readAt i := fun i hi => noKeys h.keys (by rw [h.n]; exact hi)
  unfold openD
  by_cases hnil : l = []
  · subst hnil
    rw [if_pos rfl]
    have hc : Clean N x s := by
      have hz : s.readAt N = zeroS := hh.trans hd_nil
      refine ⟨h.n, by rw [hsr N (by omega)]; exact hz, hz, fun i hi => ?_⟩
      have := hx i hi
      rw [hsr i (by omega)]
      exact ⟨this.symm, this.symm⟩
    exact ⟨rfl, fun hfu => ⟨rfl, hfu⟩, hc.crash, .inl ⟨rfl, hc, h.keys⟩⟩
  · rw [if_neg hnil]
    have hf := slotF_full hd N l l.length
    have hkk : ∀ i, i < N → ((slotF s N l l.length i).isSome = true ↔ i ∈ l) := fun i _ => slotF_some hl.asc i
    have hxl : ∀ i ∈ l, x i = val (slotF s N l l.length) i := fun i hi => by
      rw [hx i (hl.lt i hi)]
      unfold val
      obtain ⟨t, ht⟩ := Option.isSome_iff_exists.1 ((slotF_some (s := s) (N := N) hl.asc i).2 hi)
      rw [ht]
      rfl
    have hsv : ∀ j (hj : j < l.length), s.readAt (N + 1 + j) = val (slotF s N l l.length) l[j] := fun j hj => by
      unfold val
      rw [slotF_at hl.asc hj _ hj (Nat.le_refl _)]
      rfl
    have hM : MM N l (val (slotF s N l l.length)) x s := by
      refine ⟨h.n, by rw [hsr N (by omega)]; exact hh, hh, fun j hj => ?_, fun i hi hm => ?_⟩
      · have := hl.len
        rw [hsr _ (by omega)]
        exact ⟨hsv j hj, hsv j hj⟩
      · rw [hsr i (by omega)]
        have := hx i hi
        rw [slotF_none hm _ (Nat.le_refl _)] at this
        exact ⟨this.symm, this.symm⟩
    obtain ⟨k1, k2, k3⟩ := home_all hf hkk hxl hM
    refine ⟨k1, k2, fun m => ?_, ?_⟩
    · rcases k3 with ⟨_, hc, _⟩ | ⟨_, _, hME⟩
      · exact hc.crash m
      · rcases hME with hm | hm
        · exact hm.crash hl hxl m
        · rcases hm.crash hl m with hc | hc
          · exact hc
          · refine hc.congr fun i hi => ?_
            unfold over
            by_cases hi' : i ∈ l
            · rw [if_pos hi']; exact (hxl i hi').symm
            · rw [if_neg hi']
    · rcases k3 with ⟨e, hc, hkz⟩ | ⟨e, hdn, _⟩
      · exact .inl ⟨e, hc, hkz⟩
      · exact .inr ⟨e, hdn⟩
end Go.Proofs.Ytblhmfkohbdmeaa
