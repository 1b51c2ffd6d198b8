/-
  wrong, content, base, sameTexts.
-/
import Derived.Test.YtblhmfkohbdmeaaWArgs
namespace Go.Proofs.Ytblhmfkohbdmeaa
open Go.RowKit Go.Maps

theorem OkW.bad {N : Nat} {l : List WrD} {i : Nat} (hi : i < l.length) (h : l[i].good N = false) : ¬ OkW N l := fun hk => by
  have := hk.1 l[i] (List.getElem_mem hi)
  rw [h] at this
  cases this
theorem OkW.twice {N : Nat} {l : List WrD} {i k : Nat} (hi : i < l.length) (hk : k < i) (h : (l[k]'(by omega)).k = l[i].k) : ¬ OkW N l := fun ho =>
  List.pairwise_iff_getElem.1 ho.2 k i (by omega) hi hk h

set_option maxRecDepth 20000 in
set_option maxHeartbeats 4000000 in
theorem wrong_any {w : World} {v : Value} {l : List WrD} (N : Nat) (hN : N ≤ 8192) (hv : RdWr w v l) (hl : l.length ≤ maxLen) (ho : ∀ o ∈ l, o.Ok) :
    Calls Try.prog 27 #[v, .int .i64 (N : Int)] w fun e w' => e = .returned (.int .i64 (apartE N l)) ∧ Below w.heap.size w w' := by
  obtain ⟨ao, cp, rfl, hcp, hop⟩ := hv
  unfold maxLen at hl
  have hN' : (N : Int) ≤ 8192 := by omega
  go_enter Try.func27, Try.ntmps27
  go_wp2_with fail
  go_loopw [5] (fun i wr => ∃ j : Nat, j ≤ l.length ∧ i = .int .i64 (j : Int) ∧ OkW N (l.take j) ∧ ∃ q, wr = w.drewN q) (fun i _ => l.length - (intOf i).toNat)
  case atStart => exact ⟨0, Nat.zero_le _, rfl, ⟨by simp, by simp⟩, 0, rfl⟩
  case round =>
    obtain ⟨j, hj, rfl, hok, q, rfl⟩ := hrel
    by_cases hlt : j < l.length
    · have hlt' : (j : Int) < (l.length : Int) := by omega
      have hoj := ho l[j] (List.getElem_mem hlt)
      obtain ⟨b, off, rfl, hbl, e0, e1⟩ := hop j l[j] (by simp [hlt])
      have e0' : (w.drewN q).cell? ⟨b, off + j * 2, none⟩ = some (.int .i64 l[j].k) := e0
      have e1' : (w.drewN q).cell? ⟨b, off + j * 2 + 1, none⟩ = some (.string l[j].x) := e1
      have hxs : (l[j].x.size : Int) ≤ 9223372036854775807 := by have := hoj.x1; unfold maxLen at this; omega
      have k0 := hoj.k0
      have k1 := hoj.k1
      cases hg : l[j].good N with
      | false =>
        have hE : Hid (apartE N l = 1) := by show apartE N l = 1; unfold apartE; rw [if_neg (OkW.bad hlt hg)]
        have hB : Below w.heap.size w (w.drewN q) := (Only.drewN [] w q).nil_below
        clear hop ho hok e0 e1 hoj
        generalize l[j] = o at *
        by_cases a1 : o.k < 0
        · clear hg
          go_wp2_with fail
          go_ret
          exact ⟨by rw [hE.out]; rfl, hB⟩
        · by_cases a2 : (N : Int) ≤ o.k
          · clear hg
            go_wp2_with fail
            go_ret
            exact ⟨by rw [hE.out]; rfl, hB⟩
          · have a3 : ((o.x.size : Int) != 64) = true := by
              rw [bne_iff_ne]
              intro h
              have h64 : o.x.size = 64 := by omega
              have : o.good N = true := by simp [WrD.good, h64]; omega
              rw [hg] at this
              cases this
            clear hg
            go_wp2_with fail
            go_ret
            exact ⟨by rw [hE.out]; rfl, hB⟩
      | true =>
        obtain ⟨g1, g2, g3⟩ := good_parts hg
        have a1 : ¬ l[j].k < 0 := by omega
        have a2 : ¬ (N : Int) ≤ l[j].k := by omega
        have a3 : ((l[j].x.size : Int) != 64) = false := by rw [g3]; rfl
        have HG : Hid (l[j].good N = true) := hg
        clear hg g1 g2 g3
        go_wp2_with fail
        go_loopw [6] (fun i wr => ∃ m : Nat, m ≤ j ∧ i = .int .i64 (m : Int) ∧ (∀ x ∈ l.take m, x.k ≠ l[j].k) ∧ ∃ q, wr = w.drewN q) (fun i _ => j - (intOf i).toNat)
        case atStart => exact ⟨0, Nat.zero_le _, rfl, by simp, q, rfl⟩
        case round =>
          obtain ⟨m, hm, rfl, hne, q2, rfl⟩ := hrel
          have f0 : (w.drewN q2).cell? ⟨b, off + j * 2, none⟩ = some (.int .i64 l[j].k) := e0
          by_cases hmj : m < j
          · have hmj' : (m : Int) < (j : Int) := by omega
            obtain ⟨b', off', hbo, _, d0, _⟩ := hop m (l[m]'(by omega)) (by simp [show m < l.length by omega])
            obtain ⟨rfl, rfl⟩ : b' = b ∧ off' = off := by simp at hbo; exact ⟨hbo.1.symm, hbo.2.symm⟩
            have f1 : (w.drewN q2).cell? ⟨b', off' + m * 2, none⟩ = some (.int .i64 (l[m]'(by omega)).k) := d0
            have hml : (m : Int) < (l.length : Int) := by omega
            by_cases heq : (l[m]'(by omega)).k = l[j].k
            · have hE : Hid (apartE N l = 1) := by show apartE N l = 1; unfold apartE; rw [if_neg (OkW.twice hlt hmj heq)]
              have hB : ∀ q, Below w.heap.size w ((w.drewN q2).drewN q) := fun q => ((Only.drewN [] w q2).trans (Only.drewN [] _ q)).nil_below
              rw [heq] at d0
              clear hop ho hok e1 hoj f0 f1 hne heq hbo e0' e1' HG a1 a2 a3
              generalize l[j].k = kk at *
              go_wp2_with fail
              go_quiet (fail)
              go_wp2_with fail
              go_ret
              exact ⟨by rw [hE.out]; rfl, hB _⟩
            · have heq' : ((l[m]'(by omega)).k == l[j].k) = false := by simpa using heq
              have hne' : ∀ x ∈ l.take (m + 1), x.k ≠ l[j].k := by
                rw [take_snoc l m (by omega)]
                intro x hx
                rw [List.mem_append, List.mem_singleton] at hx
                rcases hx with hx | rfl
                · exact hne x hx
                · exact heq
              have HN : Hid (∀ x ∈ l.take (m + 1), x.k ≠ l[j].k) := hne'
              clear hop ho hok e1 hoj f0 f1 hne heq hbo e0' e1' HG a1 a2 a3 hne'
              go_wp2_with fail
              go_quiet (fail)
              go_wp2_with fail
              go_roundw
              case rel => exact ⟨m + 1, by omega, by go_num, HN.out, _, rfl⟩
              case measure => simp [intOf]; omega
          · obtain rfl : m = j := by omega
            have hmj' : ¬ (m : Int) < (m : Int) := by omega
            have hok' : OkW N (l.take (m + 1)) := by
              rw [take_snoc l m hlt, OkW.snoc]
              exact ⟨hok, HG.out, hne⟩
            clear hop ho hok e0 e1 hoj hne e0' e1' HG a1 a2 a3 f0
            go_wp2_with fail
            go_roundw
            case rel => exact ⟨m + 1, by omega, by go_num, hok', _, rfl⟩
            case measure => simp [intOf]; omega
    · obtain rfl : j = l.length := by omega
      have hlt' : ¬ (l.length : Int) < (l.length : Int) := by omega
      rw [List.take_length] at hok
      have hB : Below w.heap.size w (w.drewN q) := (Only.drewN [] w q).nil_below
      by_cases h24 : 24 < l.length
      · have hE : Hid (apartE N l = 4) := by show apartE N l = 4; unfold apartE; rw [if_pos hok, if_pos h24]
        have h24' : (24 : Int) < (l.length : Int) := by omega
        clear hok hop ho
        go_wp2_with fail
        go_ret
        exact ⟨by rw [hE.out]; rfl, hB⟩
      · have hE : Hid (apartE N l = 0) := by show apartE N l = 0; unfold apartE; rw [if_pos hok, if_neg h24]
        have h24' : ¬ (24 : Int) < (l.length : Int) := by omega
        clear hok hop ho
        go_wp2_with fail
        go_ret
        exact ⟨by rw [hE.out]; rfl, hB⟩
end Go.Proofs.Ytblhmfkohbdmeaa
