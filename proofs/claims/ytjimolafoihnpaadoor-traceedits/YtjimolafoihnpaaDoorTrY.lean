/-
  The program's goOn (row's closure), as data; what it changes in the world.
-/
import Derived.Test.YtjimolafoihnpaaDoorTrX
import Derived.Test.YtjimolafoihnpaaDoorTrT
import Derived.WalkSmall
import Derived.Test.YtjimolafoihnpaaDoorBeh
namespace Go.Proofs.YtjimolafoihnpaaDoor.tc
open Go.Maps Go.ChangeShapes Go.WideShapes Go.ChangeAt Go.RowKit Go.PlainAid

/-- How far row is. -/
structure Gs where
  at' : List Nat
  cm : List Nat
  row : List Nat
  lt : List Nat
/-- goOn of a document; `f`: how much deeper calls may be nested. -/
def goO (D : List (List (Nat × Int))) (H : List (List Nat)) : Nat → Nat → Gs → Option Gs
  | f, d, s =>
    match D[d]?, s.at'[d]? with
    | some r, some a =>
      if a = r.length then some s
      else match f with
        | 0 => if s.lt.length < 1048576 then some { s with lt := s.lt ++ [d] } else none
        | f + 1 =>
          match r[a]? with
          | none => none
          | some x =>
            match s.cm[x.1]?, H[x.1]? with
            | some c, some h =>
              if c + 1 < h.length then some { s with cm := s.cm.set x.1 (c + 1) }
              else if c + 1 = h.length ∧ s.row.length < 1048576 then
                h.foldlM (fun s o => match s.at'[o]? with
                  | some b => if b < 1048576 then goO D H f o { s with at' := s.at'.set o (b + 1) } else none
                  | none => none) { s with cm := s.cm.set x.1 (c + 1), row := s.row ++ [x.1] }
              else none
            | _, _ => none
    | _, _ => none
/-- One of those that have a name. -/
def stO (D : List (List (Nat × Int))) (H : List (List Nat)) (f : Nat) (s : Gs) (o : Nat) : Option Gs :=
  match s.at'[o]? with
  | some b => if b < 1048576 then goO D H f o { s with at' := s.at'.set o (b + 1) } else none
  | none => none

/-- Numbers as cells. -/
def cv (l : List Nat) : List Value := l.map fun n : Nat => .int .i64 (n : Int)
theorem cv_flat (l : List Nat) : (l.map cD).flatten = cv l := by
  induction l with
  | nil => rfl
  | cons a l ih => rw [List.map_cons, List.flatten_cons, ih]; rfl
theorem cv_at {l : List Nat} {i a : Nat} (h : l[i]? = some a) : (cv l)[i]? = some (.int .i64 (a : Int)) := by simp [cv, h]
theorem cv_set (l : List Nat) (i a : Nat) : (cv l).set i (.int .i64 (a : Int)) = cv (l.set i a) := by simp [cv, List.map_set]
theorem cv_app (l : List Nat) (a : Nat) : cv (l ++ [a]) = cv l ++ [.int .i64 (a : Int)] := by simp [cv]
theorem cv_len (l : List Nat) : (cv l).length = l.length := by simp [cv]

/-- The closure. -/
def clo (q b1 : Nat) : Value := .func (.func 52) #[] #[.pointer (some ⟨q + 4, 0, none⟩), .pointer (some ⟨b1, 0, none⟩), .pointer (some ⟨q + 6, 0, none⟩), .pointer (some ⟨q + 2, 0, none⟩), .pointer (some ⟨q, 0, none⟩), .pointer (some ⟨q + 5, 0, none⟩), .pointer (some ⟨q + 7, 0, none⟩)]
/-- It in the world. -/
structure Gw (w1 W : World) (q b1 nD nN : Nat) (vh : Value) (s : Gs) (vr vl : Value) : Prop where
  bel : Below q w1 W
  hav : W.heap[q]? = some (.cells #[vh] 124 (0, 0))
  cam : W.ownsRow q 3 1 (.slice (some ⟨q + 1, 0, none⟩) nN nN) nN (cv s.cm)
  camB : W.heap[q + 2]? = some (.cells #[.slice (some ⟨q + 1, 0, none⟩) nN nN] 68 (0, 0))
  att : W.ownsRow q 3 1 (.slice (some ⟨q + 3, 0, none⟩) nD nD) nD (cv s.at')
  attB : W.heap[q + 4]? = some (.cells #[.slice (some ⟨q + 3, 0, none⟩) nD nD] 68 (0, 0))
  rowB : W.heap[q + 5]? = some (.cells #[vr] 68 (0, 0))
  latB : W.heap[q + 6]? = some (.cells #[vl] 68 (0, 0))
  gob : W.heap[q + 7]? = some (.cells #[clo q b1] 126 (0, 0))
  row : W.ownsRow (q + 8) 3 1 vr s.row.length (cv s.row)
  lat : W.ownsRow (q + 8) 3 1 vl s.lt.length (cv s.lt)
  ne : vr.ownBlock = none ∨ vr.ownBlock ≠ vl.ownBlock
theorem hp_kept {W W' : World} {r : Option Nat} {k : Nat} {o : Obj} (hg : W.grownBy W' r) (h : W.heap[k]? = some o) (hne : some k ≠ r) : W'.heap[k]? = some o := (hg.block k (lt_heap h) hne).trans h
theorem Gw.below {w1 W W' : World} {q b1 nD nN : Nat} {vh : Value} {s : Gs} {vr vl : Value} (h : Gw w1 W q b1 nD nN vh s vr vl) (hb : Below W.heap.size W W') : Gw w1 W' q b1 nD nN vh s vr vl := by
  have k : ∀ {i : Nat} {o : Obj}, W.heap[i]? = some o → W'.heap[i]? = some o := fun e => (hb.block _ (lt_heap e)).trans e
  have hq : q ≤ W.heap.size := Nat.le_of_lt (lt_heap h.hav)
  exact ⟨h.bel.trans (hb.mono hq), k h.hav, own_below h.cam hb, k h.camB, own_below h.att hb, k h.attB, k h.rowB, k h.latB, k h.gob, own_below h.row hb, own_below h.lat hb, h.ne⟩
theorem ne_sym {a b : Option Nat} (h : a = none ∨ a ≠ b) : b = none ∨ b ≠ a := by
  rcases h with h | h
  · cases b
    · exact .inl rfl
    · right; rw [h]; simp
  · exact .inr fun e => h e.symm
theorem own_ge {W : World} {B e z n : Nat} {v : Value} {L : List Value} (h : W.ownsRow B e z v n L) (k : Nat) (hk : k < B) : some k ≠ v.ownBlock := fun e => by
  have := (h.lt k e.symm).1
  omega
theorem Gw.setAt {w1 W : World} {q b1 nD nN : Nat} {vh : Value} {s : Gs} {vr vl : Value} (h : Gw w1 W q b1 nD nN vh s vr vl) (d a : Nat) : Gw w1 (W.setCell ⟨q + 3, d, none⟩ (.int .i64 (a : Int))) q b1 nD nN vh { s with at' := s.at'.set d a } vr vl := by
  obtain ⟨h1, hg⟩ := h.att.stored d (.int .i64 (a : Int))
  rw [cv_set] at h1
  have k : ∀ {i : Nat} {o : Obj}, i ≠ q + 3 → W.heap[i]? = some o → (W.setCell ⟨q + 3, d, none⟩ (.int .i64 (a : Int))).heap[i]? = some o := fun hne e => hp_kept hg e (by simpa using hne)
  refine ⟨h.bel.grown hg (Nat.le_of_lt (lt_heap h.hav)) (fun k hk => by injection hk with hk; omega), k (by omega) h.hav, h.cam.kept hg (.inr (by simp [Value.ownBlock])), k (by omega) h.camB, h1, k (by omega) h.attB, k (by omega) h.rowB, k (by omega) h.latB, k (by omega) h.gob, h.row.kept hg (.inr fun e => own_ge h.row (q + 3) (by omega) e.symm), h.lat.kept hg (.inr fun e => own_ge h.lat (q + 3) (by omega) e.symm), h.ne⟩
theorem Gw.setCm {w1 W : World} {q b1 nD nN : Nat} {vh : Value} {s : Gs} {vr vl : Value} (h : Gw w1 W q b1 nD nN vh s vr vl) (d a : Nat) : Gw w1 (W.setCell ⟨q + 1, d, none⟩ (.int .i64 (a : Int))) q b1 nD nN vh { s with cm := s.cm.set d a } vr vl := by
  obtain ⟨h1, hg⟩ := h.cam.stored d (.int .i64 (a : Int))
  rw [cv_set] at h1
  have k : ∀ {i : Nat} {o : Obj}, i ≠ q + 1 → W.heap[i]? = some o → (W.setCell ⟨q + 1, d, none⟩ (.int .i64 (a : Int))).heap[i]? = some o := fun hne e => hp_kept hg e (by simpa using hne)
  refine ⟨h.bel.grown hg (Nat.le_of_lt (lt_heap h.hav)) (fun k hk => by injection hk with hk; omega), k (by omega) h.hav, h1, k (by omega) h.camB, h.att.kept hg (.inr (by simp [Value.ownBlock])), k (by omega) h.attB, k (by omega) h.rowB, k (by omega) h.latB, k (by omega) h.gob, h.row.kept hg (.inr fun e => own_ge h.row (q + 1) (by omega) e.symm), h.lat.kept hg (.inr fun e => own_ge h.lat (q + 1) (by omega) e.symm), h.ne⟩
/-- A box of a row is written. -/
theorem Gw.setRow {w1 W W9 : World} {q b1 nD nN : Nat} {vh : Value} {s : Gs} {vr vl : Value} {x g cap : Nat} (h : Gw w1 W q b1 nD nN vh s vr vl) (ho : W9.ownsRow (q + 8) 3 1 (.slice (some ⟨g, 0, none⟩) (s.row.length + 1) cap) (s.row.length + 1) (cv s.row ++ [.int .i64 (x : Int)])) (hg : W.grownBy W9 vr.ownBlock) (hl : vr.ownBlock = some g ∨ g = W.heap.size) :
    Gw w1 (W9.setCell ⟨q + 5, 0, none⟩ (.slice (some ⟨g, 0, none⟩) (s.row.length + 1) cap)) q b1 nD nN vh { s with row := s.row ++ [x] } (.slice (some ⟨g, 0, none⟩) (s.row.length + 1) cap) vl := by
  have hr := fun k hk => own_ge h.row k hk
  have k1 : ∀ {i : Nat} {o : Obj}, i < q + 8 → W.heap[i]? = some o → W9.heap[i]? = some o := fun hi e => hp_kept hg e (hr _ hi)
  have e5 := k1 (by omega) h.rowB
  have hg2 := gb_set W9 (q + 5) 0 (.slice (some ⟨g, 0, none⟩) (s.row.length + 1) cap)
  have k2 : ∀ {i : Nat} {o : Obj}, i < q + 8 → i ≠ q + 5 → W.heap[i]? = some o → (W9.setCell ⟨q + 5, 0, none⟩ (.slice (some ⟨g, 0, none⟩) (s.row.length + 1) cap)).heap[i]? = some o := fun hi hne e => hp_kept hg2 (k1 hi e) (by simpa using hne)
  have hq := Nat.le_of_lt (lt_heap h.hav)
  have o1 : ∀ {v n xs} (c : Nat), W.ownsRow q 3 1 v n xs → v.ownBlock = some c → c < q + 5 → (W9.setCell ⟨q + 5, 0, none⟩ (.slice (some ⟨g, 0, none⟩) (s.row.length + 1) cap)).ownsRow q 3 1 v n xs := fun c a e hc => (a.kept hg (.inr (by rw [e]; exact hr _ (by omega)))).kept hg2 (.inr (by rw [e]; simp; omega))
  refine ⟨(h.bel.grown hg hq (fun k hk => (Nat.lt_or_ge k q).elim (fun h9 => absurd hk.symm (hr k (by omega))) id)).grown hg2 (Nat.le_trans hq hg.size) (fun k hk => by injection hk with hk; omega), k2 (by omega) (by omega) h.hav, o1 (q + 1) h.cam rfl (by omega), k2 (by omega) (by omega) h.camB, o1 (q + 3) h.att rfl (by omega), k2 (by omega) (by omega) h.attB, ?_, k2 (by omega) (by omega) h.latB, k2 (by omega) (by omega) h.gob, ?_, (h.lat.kept hg (ne_sym h.ne)).kept hg2 (.inr fun e => own_ge h.lat (q + 5) (by omega) e.symm), ?_⟩
  · exact hp_set e5 0 _
  · rw [show ({ s with row := s.row ++ [x] } : Gs).row = s.row ++ [x] from rfl, List.length_append, cv_app]
    refine ho.kept hg2 (.inr fun e => own_ge ho (q + 5) (by omega) e.symm)
  · rcases hl with hl | hl
    · rw [show (Value.slice (some ⟨g, 0, none⟩) (s.row.length + 1) cap).ownBlock = some g from rfl, ← hl]
      exact h.ne
    · right
      intro e
      have := (h.lat.lt g e.symm).2
      omega
theorem Gw.setLat {w1 W W9 : World} {q b1 nD nN : Nat} {vh : Value} {s : Gs} {vr vl : Value} {x g cap : Nat} (h : Gw w1 W q b1 nD nN vh s vr vl) (ho : W9.ownsRow (q + 8) 3 1 (.slice (some ⟨g, 0, none⟩) (s.lt.length + 1) cap) (s.lt.length + 1) (cv s.lt ++ [.int .i64 (x : Int)])) (hg : W.grownBy W9 vl.ownBlock) (hl : vl.ownBlock = some g ∨ g = W.heap.size) :
    Gw w1 (W9.setCell ⟨q + 6, 0, none⟩ (.slice (some ⟨g, 0, none⟩) (s.lt.length + 1) cap)) q b1 nD nN vh { s with lt := s.lt ++ [x] } vr (.slice (some ⟨g, 0, none⟩) (s.lt.length + 1) cap) := by
  have hr := fun k hk => own_ge h.lat k hk
  have k1 : ∀ {i : Nat} {o : Obj}, i < q + 8 → W.heap[i]? = some o → W9.heap[i]? = some o := fun hi e => hp_kept hg e (hr _ hi)
  have e5 := k1 (by omega) h.latB
  have hg2 := gb_set W9 (q + 6) 0 (.slice (some ⟨g, 0, none⟩) (s.lt.length + 1) cap)
  have k2 : ∀ {i : Nat} {o : Obj}, i < q + 8 → i ≠ q + 6 → W.heap[i]? = some o → (W9.setCell ⟨q + 6, 0, none⟩ (.slice (some ⟨g, 0, none⟩) (s.lt.length + 1) cap)).heap[i]? = some o := fun hi hne e => hp_kept hg2 (k1 hi e) (by simpa using hne)
  have hq := Nat.le_of_lt (lt_heap h.hav)
  have o1 : ∀ {v n xs} (c : Nat), W.ownsRow q 3 1 v n xs → v.ownBlock = some c → c < q + 5 → (W9.setCell ⟨q + 6, 0, none⟩ (.slice (some ⟨g, 0, none⟩) (s.lt.length + 1) cap)).ownsRow q 3 1 v n xs := fun c a e hc => (a.kept hg (.inr (by rw [e]; exact hr _ (by omega)))).kept hg2 (.inr (by rw [e]; simp; omega))
  refine ⟨(h.bel.grown hg hq (fun k hk => (Nat.lt_or_ge k q).elim (fun h9 => absurd hk.symm (hr k (by omega))) id)).grown hg2 (Nat.le_trans hq hg.size) (fun k hk => by injection hk with hk; omega), k2 (by omega) (by omega) h.hav, o1 (q + 1) h.cam rfl (by omega), k2 (by omega) (by omega) h.camB, o1 (q + 3) h.att rfl (by omega), k2 (by omega) (by omega) h.attB, k2 (by omega) (by omega) h.rowB, ?_, k2 (by omega) (by omega) h.gob, (h.row.kept hg h.ne).kept hg2 (.inr fun e => own_ge h.row (q + 6) (by omega) e.symm), ?_, ?_⟩
  · exact hp_set e5 0 _
  · rw [show ({ s with lt := s.lt ++ [x] } : Gs).lt = s.lt ++ [x] from rfl, List.length_append, cv_app]
    refine ho.kept hg2 (.inr fun e => own_ge ho (q + 6) (by omega) e.symm)
  · rcases hl with hl | hl
    · rw [show (Value.slice (some ⟨g, 0, none⟩) (s.lt.length + 1) cap).ownBlock = some g from rfl, ← hl]
      exact h.ne
    · right
      intro e
      have := (h.row.lt g e).2
      omega
/-- The last of those that come later is taken. -/
theorem Gw.popLat {w1 W : World} {q b1 nD nN : Nat} {vh : Value} {s : Gs} {vr : Value} {l : List Nat} {x g cap : Nat} (h : Gw w1 W q b1 nD nN vh s vr (.slice (some ⟨g, 0, none⟩) (l.length + 1) cap)) (hs : s.lt = l ++ [x]) :
    Gw w1 (W.setCell ⟨q + 6, 0, none⟩ (.slice (some ⟨g, 0, none⟩) l.length cap)) q b1 nD nN vh { s with lt := l } vr (.slice (some ⟨g, 0, none⟩) l.length cap) := by
  have hg2 := gb_set W (q + 6) 0 (.slice (some ⟨g, 0, none⟩) l.length cap)
  have k2 : ∀ {i : Nat} {o : Obj}, i ≠ q + 6 → W.heap[i]? = some o → (W.setCell ⟨q + 6, 0, none⟩ (.slice (some ⟨g, 0, none⟩) l.length cap)).heap[i]? = some o := fun hne e => hp_kept hg2 e (by simpa using hne)
  have hq := Nat.le_of_lt (lt_heap h.hav)
  have hl := h.lat
  rw [hs, List.length_append, cv_app] at hl
  have hp := ownsRow_pop (by rw [cv_len]; omega) hl
  refine ⟨h.bel.grown hg2 hq (fun k hk => by injection hk with hk; omega), k2 (by omega) h.hav, h.cam.kept hg2 (.inr (by simp [Value.ownBlock])), k2 (by omega) h.camB, h.att.kept hg2 (.inr (by simp [Value.ownBlock])), k2 (by omega) h.attB, k2 (by omega) h.rowB, hp_set h.latB 0 _, k2 (by omega) h.gob, h.row.kept hg2 (.inr fun e => own_ge h.row (q + 6) (by omega) e.symm), hp.kept hg2 (.inr fun e => own_ge hp (q + 6) (by omega) e.symm), h.ne⟩
end Go.Proofs.YtjimolafoihnpaaDoor.tc

/-
  The program's goOn.
-/
namespace Go.Proofs.YtjimolafoihnpaaDoor.tc
open Go.Maps Go.ChangeShapes Go.WideShapes Go.ChangeAt Go.RowKit Go.PlainAid

theorem goO_inv {D : List (List (Nat × Int))} {H : List (List Nat)} {f d : Nat} {s s' : Gs} (h : goO D H f d s = some s') :
    ∃ r a, D[d]? = some r ∧ s.at'[d]? = some a ∧ ((a = r.length ∧ s' = s) ∨ (a ≠ r.length ∧ f = 0 ∧ s.lt.length < 1048576 ∧ s' = { s with lt := s.lt ++ [d] }) ∨
      (a ≠ r.length ∧ ∃ f' x c h, f = f' + 1 ∧ r[a]? = some x ∧ s.cm[x.1]? = some c ∧ H[x.1]? = some h ∧
        ((c + 1 < h.length ∧ s' = { s with cm := s.cm.set x.1 (c + 1) }) ∨
         (c + 1 = h.length ∧ s.row.length < 1048576 ∧ h.foldlM (stO D H f') { s with cm := s.cm.set x.1 (c + 1), row := s.row ++ [x.1] } = some s')))) := by
  unfold goO at h
  split at h
  · rename_i r a hr ha
    refine ⟨r, a, hr, ha, ?_⟩
    split at h
    · injection h with h
      exact .inl ⟨‹_›, h.symm⟩
    · rename_i hne
      right
      split at h
      · split at h
        · injection h with h
          exact .inl ⟨hne, rfl, ‹_›, h.symm⟩
        · cases h
      · rename_i f'
        right
        split at h
        · cases h
        · rename_i x hx
          split at h
          · rename_i c hh hc hH
            refine ⟨hne, f', x, c, hh, rfl, hx, hc, hH, ?_⟩
            split at h
            · injection h with h
              exact .inl ⟨‹_›, h.symm⟩
            · split at h
              · rename_i hcc
                exact .inr ⟨hcc.1, hcc.2, h⟩
              · cases h
          · cases h
  · cases h
theorem stO_inv {D : List (List (Nat × Int))} {H : List (List Nat)} {f o : Nat} {s s' : Gs} (h : stO D H f s o = some s') :
    ∃ b, s.at'[o]? = some b ∧ b < 1048576 ∧ goO D H f o { s with at' := s.at'.set o (b + 1) } = some s' := by
  unfold stO at h
  split at h
  · split at h
    · exact ⟨_, ‹_›, ‹_›, h⟩
    · cases h
  · cases h
set_option maxRecDepth 20000 in
set_option maxHeartbeats 2000000 in
theorem goOn_any (q b b1 : Nat) (D : List (List (Nat × Int))) (N : List AtK) (H : List (List Nat)) (vh : Value) (w1 : World) (hq : q = w1.heap.size) (hr : BkR w1 b D N) (hc1 : w1.cell? ⟨b1, 0, none⟩ = some (.pointer (some ⟨b, 0, none⟩))) (hb1 : b1 < q) (hH : Tb w1 3 cD 68 vh H) (hHl : H.length = N.length) (hrow : ∀ r ∈ D, r.length ≤ 1048576 ∧ ∀ x ∈ r, x.1 < N.length) (hHd : ∀ h ∈ H, h.length ≤ 1048576 ∧ ∀ o ∈ h, o < D.length) :
    ∀ (f d : Nat) (s s' : Gs) (z : Int) (W : World) (vr vl : Value), goO D H f d s = some s' → Gw w1 W q b1 D.length N.length vh s vr vl → z + f = 1000 → f ≤ 1000 →
      Calls Tryd.prog 52 #[.int .i64 (d : Int), .int .i64 z, .pointer (some ⟨q + 4, 0, none⟩), .pointer (some ⟨b1, 0, none⟩), .pointer (some ⟨q + 6, 0, none⟩), .pointer (some ⟨q + 2, 0, none⟩), .pointer (some ⟨q, 0, none⟩), .pointer (some ⟨q + 5, 0, none⟩), .pointer (some ⟨q + 7, 0, none⟩)] W fun e w' => e = .returned (.tuple #[]) ∧ ∃ vr vl, Gw w1 w' q b1 D.length N.length vh s' vr vl := by
  intro f
  induction f using Nat.strongRecOn with
  | ind f ih =>
  intro d s s' z W vr vl hg hw hz hf
  obtain ⟨r, a, hDd, had, hcase⟩ := goO_inv hg
  obtain ⟨dv, nvv, hbx, htb, hln⟩ := hr
  obtain ⟨ad, cd, rfl, hcd⟩ := htb.form
  obtain ⟨ah, ch, rfl, hch⟩ := hH.form
  obtain ⟨i0, hi, hz0, hz1, hz2⟩ := info_parts infoInt
  have hb := hw.bel
  rw [hq] at hb
  have HQ : Hid (q = w1.heap.size) := hq
  have HHl : Hid (H.length = N.length) := hHl
  clear hq hHl
  obtain ⟨x0, -, -, -⟩ := (hbx.below hb).cells
  obtain ⟨gd, od, rv, e1, hgd, c0, hlr⟩ := (htb.below hb).at hDd
  obtain ⟨ar, kr, rfl, hkr⟩ := hlr.form
  subst e1
  have p0 := cell_of_row W (q + 4) 0 _ _ (0, 0) hw.attB
  have hatd := hw.att.cells (g := q + 3) rfl d _ (cv_at had)
  rw [addr4, Nat.zero_add] at hatd
  have p3 : W.cell? ⟨b1, 0, none⟩ = _ := (hw.bel.cell (p := ⟨b1, 0, none⟩) hb1).trans hc1
  have B0 : ∀ s : Beh W, s.it.cell? ⟨q + 4, 0, none⟩ = some (.slice (some ⟨q + 3, 0, none⟩) D.length D.length) := fun s => (s.h.cell (p := ⟨q + 4, 0, none⟩) (lt_heap hw.attB)).trans p0
  have B1 : ∀ s : Beh W, s.it.cell? ⟨q + 3, d, none⟩ = some (.int .i64 (a : Int)) := fun s => (s.h.cell (p := ⟨q + 3, d, none⟩) (Nat.lt_trans (Nat.lt_succ_self _) (lt_heap hw.attB))).trans hatd
  have B2 : ∀ s : Beh W, s.it.cell? ⟨b1, 0, none⟩ = some (.pointer (some ⟨b, 0, none⟩)) := fun s => (s.h.cell (p := ⟨b1, 0, none⟩) (World.block_lt_of_cell? _ _ p3)).trans p3
  have B3 : ∀ s : Beh W, s.it.cell? ⟨b, 0, none⟩ = some (.slice (some ⟨gd, od, none⟩) D.length cd) := fun s => (s.h.cell (p := ⟨b, 0, none⟩) (World.block_lt_of_cell? _ _ x0)).trans x0
  have B4 : ∀ s : Beh W, s.it.cell? ⟨gd, od + d, none⟩ = some (.slice ar r.length kr) := fun s => (s.h.cell (p := ⟨gd, od + d, none⟩) hgd).trans c0
  have hdD : (d : Int) < (D.length : Int) := by have := (List.getElem?_eq_some_iff.1 hDd).1; omega
  go_enter Tryd.func52, Tryd.ntmps52
  go_upto_region 0 with fail
  refine wp_region_beh (by kernel_rfl) (by kernel_rfl) ?_
  repeat (go_big_quiet_step (fail))
  refine wpQuiet_nil ?_
  intro wq hw'
  have hwq := Beh.out hw'
  have hw2 := hw.below hwq
  clear hw' B0 B1 B2 B3 B4 p0 hatd p3 x0 hln hlr
  clear hwq hw
  rcases hcase with ⟨rfl, rfl⟩ | ⟨hne, rfl, hlt, rfl⟩ | ⟨hne, f', x, c, h, rfl, hx, hcm, hHx, hcase⟩
  · have he : ((r.length : Int) == (r.length : Int)) = true := by simp
    go_wp2_with fail
    refine bodyPost_ret (results_none rfl _ _ _) rfl ?_
    exact ⟨rfl, _, _, hw2⟩
  · have hne' : ¬ (a : Int) = (r.length : Int) := by omega
    have hne2 : ((a : Int) == (r.length : Int)) = false := by simpa using hne'
    have hz' : z = 1000 := by omega
    subst hz'
    have l0 := cell_of_row wq (q + 6) 0 _ _ (0, 0) hw2.latB
    change wq.cell? _ = some vl at l0
    obtain ⟨al, kl, rfl⟩ := own_form hw2.lat
    have hal := hw2.below (alloc_b wq (.cells #[.int .i64 (d : Int)] 3))
    have hsz := lt_heap hw2.gob
    generalize hsn : s.lt.length = n at *
    have hlat := hw2.lat
    rw [hsn] at hlat
    go_wp2_with (at_builtin; refine wpList_append_lies _ rfl (.tmp 29) (.tmp 31) 68 rfl (q + 8) 3 i0 (.int .i64 0) 1 8 Tryd.underlying68 hi hz0 hz1 hz2 rfl (by decide) (.slice al n kl) n (cv s.lt) rfl (hlat.alloc _) ⟨wq.heap.size, 0, none⟩ 1 1 [.int .i64 (d : Int)] rfl rfl (World.news_of_block (heap_alloc_new wq _)) (by simp [Value.oneCell']) (by decide) (by unfold maxLen; omega) (by omega) (by simp; omega) (wq.heap.size + 1) (by simp) ?_; intro g cap w9 ho9 hg9 hl9 hlt9; have z9 := frz (hp_kept hg9 hal.latB (own_ge hal.lat _ (by omega))) 0; have y9 := cell_of_row w9 (q + 6) 0 _ _ (0, 0) (hp_kept hg9 hal.latB (own_ge hal.lat _ (by omega))); change w9.cell? _ = some (.slice al n kl) at y9)
    subst hsn
    have hfin := hal.setLat ho9 hg9 (by rcases hl9 with h9 | h9; exact .inl h9; exact .inr (by rw [h9]; simp))
    refine bodyPost_ret (results_none rfl _ _ _) rfl ?_
    exact ⟨rfl, _, _, hfin⟩
  · have hne' : ¬ (a : Int) = (r.length : Int) := by omega
    have hne2 : ((a : Int) == (r.length : Int)) = false := by simpa using hne'
    have hz' : ¬ z = 1000 := by omega
    have hz2' : (z == 1000) = false := by simpa using hz'
    have hxN : x.1 < N.length := (hrow r (List.mem_of_getElem? hDd)).2 x (List.mem_of_getElem? hx)
    have hxN' : (x.1 : Int) < (N.length : Int) := by omega
    have haR : (a : Int) < (r.length : Int) := by have := (List.getElem?_eq_some_iff.1 hx).1; omega
    have hq2 : q ≤ wq.heap.size := Nat.le_of_lt (lt_heap hw2.hav)
    have hbq := hw2.bel
    rw [HQ.out] at hbq
    have hbx2 := hbx.below hbq
    have htb2 := htb.below hbq
    have hH2 := hH.below hbq
    obtain ⟨x0, -, -, -⟩ := hbx2.cells
    obtain ⟨gd2, od2, rv2, e1, hgd2, c0', hlr2⟩ := htb2.at hDd
    injection e1 with e1
    injection e1 with e11 e12
    subst e11 e12
    obtain ⟨ar2, kr2, rfl, -⟩ := hlr2.form
    have f0 := flat_at cA 2 cA_len r a x hx 0 (by decide)
    obtain ⟨gr, or, cur, e2, hgr, hcell⟩ := hlr2.at f0
    subst e2
    have r0 : wq.cell? ⟨gr, or + a * 2, none⟩ = some (.int .i64 (x.1 : Int)) := hcell _ _ f0
    have p3 : wq.cell? ⟨b1, 0, none⟩ = some (.pointer (some ⟨b, 0, none⟩)) := (hw2.bel.cell (p := ⟨b1, 0, none⟩) hb1).trans hc1
    have p0 := cell_of_row wq (q + 4) 0 _ _ (0, 0) hw2.attB
    change wq.cell? _ = some (.slice (some ⟨q + 3, 0, none⟩) D.length D.length) at p0
    have hatd := hw2.att.cells (g := q + 3) rfl d _ (cv_at had)
    rw [addr4, Nat.zero_add] at hatd
    have B0 : ∀ s : Beh wq, s.it.cell? ⟨q + 4, 0, none⟩ = some (.slice (some ⟨q + 3, 0, none⟩) D.length D.length) := fun s => (s.h.cell (p := ⟨q + 4, 0, none⟩) (lt_heap hw2.attB)).trans p0
    have B1 : ∀ s : Beh wq, s.it.cell? ⟨q + 3, d, none⟩ = some (.int .i64 (a : Int)) := fun s => (s.h.cell (p := ⟨q + 3, d, none⟩) (Nat.lt_trans (Nat.lt_succ_self _) (lt_heap hw2.attB))).trans hatd
    have B2 : ∀ s : Beh wq, s.it.cell? ⟨b1, 0, none⟩ = some (.pointer (some ⟨b, 0, none⟩)) := fun s => (s.h.cell (p := ⟨b1, 0, none⟩) (World.block_lt_of_cell? _ _ p3)).trans p3
    have B3 : ∀ s : Beh wq, s.it.cell? ⟨b, 0, none⟩ = some (.slice (some ⟨gd, od, none⟩) D.length cd) := fun s => (s.h.cell (p := ⟨b, 0, none⟩) (World.block_lt_of_cell? _ _ x0)).trans x0
    have B4 : ∀ s : Beh wq, s.it.cell? ⟨gd, od + d, none⟩ = some (.slice (some ⟨gr, or, none⟩) r.length kr2) := fun s => (s.h.cell (p := ⟨gd, od + d, none⟩) hgd2).trans c0'
    have B5 : ∀ s : Beh wq, s.it.cell? ⟨gr, or + a * 2, none⟩ = some (.int .i64 (x.1 : Int)) := fun s => (s.h.cell (p := ⟨gr, or + a * 2, none⟩) (lt_heap hgr)).trans r0
    go_upto_region 3 with fail
    refine wp_region_beh (by kernel_rfl) (by kernel_rfl) ?_
    repeat (go_big_quiet_step (fail))
    refine wpQuiet_nil ?_
    intro wr hw'
    have hwr := Beh.out hw'
    have hw3 := hw2.below hwr
    have hh9 := hHd h (List.mem_of_getElem? hHx)
    clear hw' B0 B1 B2 B3 B4 B5 p0 hatd p3 x0 hbx2 htb2 hH2 hlr2 c0' r0 hcell hgr f0 hbq hwr hw2 hq2 hgd2 cur
    have m0 := cell_of_row wr (q + 2) 0 _ _ (0, 0) hw3.camB
    change wr.cell? _ = some (.slice (some ⟨q + 1, 0, none⟩) N.length N.length) at m0
    have m1 := hw3.cam.cells (g := q + 1) rfl x.1 _ (cv_at hcm)
    rw [addr4, Nat.zero_add] at m1
    obtain ⟨cuc, hcuc⟩ := own_kind hw3.cam (g := q + 1) rfl
    have z1 := frz hcuc x.1
    have hch9 : c + 1 ≤ h.length := by rcases hcase with h1 | h1 <;> omega
    have hcw : IntKind.i64.wrap ((c : Int) + 1) = ((c + 1 : Nat) : Int) := by rw [IntKind.wrap_i64]; omega
    go_upto_region 5 with fail
    have hw4 := hw3.setCm x.1 (c + 1)
    rw [show Value.int .i64 ((c + 1 : Nat) : Int) = Value.int .i64 ((c : Int) + 1) from rfl] at hw4
    clear m0 m1 z1 hcuc hw3
    generalize wr.setCell _ _ = w4 at *
    have m0 := cell_of_row w4 (q + 2) 0 _ _ (0, 0) hw4.camB
    change w4.cell? _ = some (.slice (some ⟨q + 1, 0, none⟩) N.length N.length) at m0
    have hcl : s.cm.length = N.length := by have := hw4.cam.1; rw [cv_len] at this; simpa using this
    have m1 := hw4.cam.cells (g := q + 1) rfl x.1 _ (cv_at (show (s.cm.set x.1 (c + 1))[x.1]? = some (c + 1) by rw [List.getElem?_set_self (by omega)]))
    rw [addr4, Nat.zero_add] at m1
    have m2 := cell_of_row w4 q 0 _ _ (0, 0) hw4.hav
    change w4.cell? _ = some (.slice ah H.length ch) at m2
    have hbq := hw4.bel
    rw [HQ.out] at hbq
    obtain ⟨gh, oh, rh, e3, hgh, c3, hlh⟩ := (hH.below hbq).at hHx
    subst e3
    obtain ⟨ax, kx, rfl, hkx⟩ := hlh.form
    have hxH' : (x.1 : Int) < (H.length : Int) := by have := HHl.out; omega
    have L0 : ∀ s : Beh w4, s.it.cell? ⟨q + 2, 0, none⟩ = some (.slice (some ⟨q + 1, 0, none⟩) N.length N.length) := fun s => (s.h.cell (p := ⟨q + 2, 0, none⟩) (lt_heap hw4.camB)).trans m0
    have L1 : ∀ s : Beh w4, s.it.cell? ⟨q + 1, x.1, none⟩ = some (.int .i64 ((c : Int) + 1)) := fun s => (s.h.cell (p := ⟨q + 1, x.1, none⟩) (Nat.lt_trans (Nat.lt_succ_self _) (lt_heap hw4.camB))).trans m1
    have L2 : ∀ s : Beh w4, s.it.cell? ⟨q, 0, none⟩ = some (.slice (some ⟨gh, oh, none⟩) H.length ch) := fun s => (s.h.cell (p := ⟨q, 0, none⟩) (lt_heap hw4.hav)).trans m2
    have L3 : ∀ s : Beh w4, s.it.cell? ⟨gh, oh + x.1, none⟩ = some (.slice ax h.length kx) := fun s => (s.h.cell (p := ⟨gh, oh + x.1, none⟩) hgh).trans c3
    refine wp_region_beh (by kernel_rfl) (by kernel_rfl) ?_
    repeat (go_big_quiet_step (fail))
    refine wpQuiet_nil ?_
    intro w5 hw'
    have hw5 := hw4.below (Beh.out hw')
    clear hw' L0 L1 L2 L3 m0 m1 m2 hbq c3 hgh hlh hw4
    rcases hcase with ⟨hlt, rfl⟩ | ⟨heq, hrl, hfo⟩
    · have hd : decide ((c : Int) + 1 < (h.length : Int)) = true := decide_eq_true (by omega)
      go_wp2_with fail
      refine bodyPost_ret (results_none rfl _ _ _) rfl ?_
      exact ⟨rfl, _, _, hw5⟩
    · have hd : decide ((c : Int) + 1 < (h.length : Int)) = false := decide_eq_false (by omega)
      have l0 := cell_of_row w5 (q + 5) 0 _ _ (0, 0) hw5.rowB
      change w5.cell? _ = some vr at l0
      obtain ⟨al, kl, rfl⟩ := own_form hw5.row
      have hal := hw5.below (alloc_b w5 (.cells #[.int .i64 (x.1 : Int)] 3))
      have hsz := lt_heap hw5.gob
      generalize hsn : s.row.length = n at *
      have hlat := hw5.row
      change w5.ownsRow (q + 8) 3 1 (.slice al n kl) s.row.length (cv s.row) at hlat
      rw [hsn] at hlat
      clear hd
      have hd : decide ((c : Int) + 1 < (h.length : Int)) = false := decide_eq_false (by omega)
      go_upto_region 7 with (at_builtin; refine wpList_append_lies _ rfl (.tmp 63) (.tmp 65) 68 rfl (q + 8) 3 i0 (.int .i64 0) 1 8 Tryd.underlying68 hi hz0 hz1 hz2 rfl (by decide) (.slice al n kl) n (cv s.row) rfl (hlat.alloc _) ⟨w5.heap.size, 0, none⟩ 1 1 [.int .i64 (x.1 : Int)] rfl rfl (World.news_of_block (heap_alloc_new w5 _)) (by simp [Value.oneCell']) (by decide) (by unfold maxLen; omega) (by omega) (by simp; omega) (w5.heap.size + 1) (by simp) ?_; intro g cap w9 ho9 hg9 hl9 hlt9; have z9 := frz (hp_kept hg9 hal.rowB (own_ge hal.row _ (by omega))) 0; have y9 := cell_of_row w9 (q + 5) 0 _ _ (0, 0) (hp_kept hg9 hal.rowB (own_ge hal.row _ (by omega))); change w9.cell? _ = some (.slice al n kl) at y9)
      subst hsn
      have hw6 := hal.setRow ho9 hg9 (by rcases hl9 with h9 | h9; exact .inl h9; exact .inr (by rw [h9]; simp))
      change Gw _ (w9.setCell ⟨q + 5, 0, none⟩ (.slice (some ⟨g, 0, none⟩) (s.row.length + 1) cap)) _ _ _ _ _ { at' := s.at', cm := s.cm.set x.1 (c + 1), row := s.row ++ [x.1], lt := s.lt } _ _ at hw6
      generalize w9.setCell _ _ = w6 at *
      generalize hs6 : ({ at' := s.at', cm := s.cm.set x.1 (c + 1), row := s.row ++ [x.1], lt := s.lt } : Gs) = s6 at *
      clear ho9 hg9 hl9 hlt9 z9 y9 hal l0 hlat hw5 hsz hs6 hcl
      have m2 := cell_of_row w6 q 0 _ _ (0, 0) hw6.hav
      change w6.cell? _ = some (.slice (some ⟨gh, oh, none⟩) H.length ch) at m2
      have hbq := hw6.bel
      rw [HQ.out] at hbq
      obtain ⟨gh2, oh2, rh2, e3, hgh, c3, hlh⟩ := (hH.below hbq).at hHx
      injection e3 with e3
      injection e3 with e31 e32
      subst e31 e32
      obtain ⟨ax2, kx2, rfl, -⟩ := hlh.form
      have hlh1 : Ln w1 3 (.slice ax2 h.length kx2) h.length (h.map cD).flatten := by
        obtain ⟨gh3, oh3, rh3, e4, hgh3, c4, hlh3⟩ := hH.at hHx
        injection e4 with e4
        injection e4 with e41 e42
        subst e41 e42
        rw [hbq.cell (p := ⟨gh, oh + x.1, none⟩) hgh3, c4] at c3
        injection c3 with c3
        subst c3
        exact hlh3
      clear hbq hlh
      go_wp2_with fail
      clear m2 c3 hgh
      go_loopw [72] (fun iv' wr => ∃ (k : Nat) (sk : Gs) (vr vl : Value), k ≤ h.length ∧ iv' = .int .i64 (k : Int) ∧ Hid ((h.drop k).foldlM (stO D H f') sk = some s') ∧ Gw w1 wr q b1 D.length N.length (.slice (some ⟨gh, oh, none⟩) H.length ch) sk vr vl) (fun iv' _ => h.length - (Go.RowKit.intOf iv').toNat)
      case atStart => exact ⟨0, s6, _, _, by omega, rfl, hfo, hw6⟩
      case round =>
        obtain ⟨k, sk, vr, vl, hk, rfl, HF, hwk⟩ := hrel
        clear hw6 hfo
        by_cases hlt : k < h.length
        · have hlt' : (k : Int) < (h.length : Int) := by omega
          obtain ⟨o, ho⟩ : ∃ o, h[k]? = some o := ⟨_, List.getElem?_eq_getElem hlt⟩
          obtain ⟨s2, hs2, HF2⟩ : ∃ s2, stO D H f' sk o = some s2 ∧ Hid ((h.drop (k + 1)).foldlM (stO D H f') s2 = some s') := by
            have h9 := HF.out
            rw [List.drop_eq_getElem_cons hlt, show h[k] = o by have := List.getElem?_eq_getElem hlt; rw [ho] at this; injection this with this; exact this.symm] at h9
            rw [List.foldlM_cons] at h9
            cases h10 : stO D H f' sk o with
            | none => rw [h10] at h9; cases h9
            | some s2 => rw [h10] at h9; exact ⟨s2, rfl, h9⟩
          obtain ⟨bo, hbo, hb9, hgo⟩ := stO_inv hs2
          have hoD : (o : Int) < (D.length : Int) := by have := hh9.2 o (List.mem_of_getElem? ho); omega
          have hbq := hwk.bel
          rw [HQ.out] at hbq
          have f0 := flat_at cD 1 cD_len h k o ho 0 (by decide)
          simp only [Nat.mul_one, Nat.add_zero] at f0
          obtain ⟨gx, ox, cur, e5, hgx, hcell⟩ := (hlh1.below hbq).at f0
          subst e5
          have r0 : wr.cell? ⟨gx, ox + k, none⟩ = some (.int .i64 (o : Int)) := hcell _ _ f0
          have m0 := cell_of_row wr (q + 4) 0 _ _ (0, 0) hwk.attB
          change wr.cell? _ = some (.slice (some ⟨q + 3, 0, none⟩) D.length D.length) at m0
          have m1 := hwk.att.cells (g := q + 3) rfl o _ (cv_at hbo)
          rw [addr4, Nat.zero_add] at m1
          obtain ⟨cuc, hcuc⟩ := own_kind hwk.att (g := q + 3) rfl
          have z1 := frz hcuc o
          have hbw : IntKind.i64.wrap ((bo : Int) + 1) = (bo : Int) + 1 := by rw [IntKind.wrap_i64]; omega
          have hzw : IntKind.i64.wrap (z + 1) = z + 1 := by rw [IntKind.wrap_i64]; omega
          clear hcell hgx f0 hbq cur hs2 HF
          go_upto_region 11 with fail
          have hw7 := hwk.setAt o (bo + 1)
          rw [show Value.int .i64 ((bo + 1 : Nat) : Int) = Value.int .i64 ((bo : Int) + 1) from rfl] at hw7
          generalize wr.setCell _ _ = w7 at *
          have cI := ih f' (by omega) o _ s2 (z + 1) w7 vr vl hgo hw7 (by omega) (by omega)
          have g0 := cell_of_row w7 (q + 7) 0 _ _ (0, 0) hw7.gob
          change w7.cell? _ = some (clo q b1) at g0
          unfold clo at g0
          clear hgo hw7 hwk m0 m1 hcuc z1 r0
          go_wp2_with (refine cI.mono ?_; rintro e w8 ⟨rfl, vr8, vl8, hw8⟩)
          exact ⟨⟨k + 1, s2, vr8, vl8, by omega, by go_num, HF2, hw8⟩, by simp [Go.RowKit.intOf]; omega⟩
        · obtain rfl : k = h.length := by omega
          have h9 := HF.out
          rw [List.drop_length] at h9
          injection h9 with h9
          subst h9
          clear HF
          go_wp2_with fail
          go_end0
          exact ⟨rfl, _, _, hwk⟩
end Go.Proofs.YtjimolafoihnpaaDoor.tc
