/-
  record: Load, walked.
-/
import Derived.Test.YtdheddgdlindmaaRcT
import Derived.Test.YtdheddgdlindmaaRcU
namespace Go.Proofs.Ytdheddgdlindmaa
open Go.ChangeShapes Go.WideShapes Go.ChangeAt Go.RowKit Go.PlainAid

def ldM (l : List PaD) : Option StD → StD × Int
  | none => (zeroS, 150)
  | some S => if (prE S).2 = 0 ∧ (prE S).1 = l then (S, 0) else (zeroS, 150)
theorem ldE_eq (l : List PaD) : ldE l = ldM l (ldG zeroS l) := by
  unfold ldE ldM
  cases ldG zeroS l <;> rfl
set_option maxRecDepth 20000 in
set_option maxHeartbeats 3000000 in
theorem load_any (v : Value) (l : List PaD) (w : World) (hr : RdPa w v l) (hl : l.length ≤ 1048576) (hs : ∀ x ∈ l, x.v.size ≤ 1099511627776) :
    Calls Try.prog 14 #[v] w fun e w' => ∃ v1 v2 v3, e = .returned (.tuple #[.agg ((ldE l).1.fs v1 v2 v3), .int .i64 (ldE l).2]) ∧ (∃ us ls, OwSt w' w.heap.size v1 v2 v3 (ldE l).1 us ls) ∧ Below w.heap.size w w' := by
  have hr' := hr
  obtain ⟨ao, cp, rfl, hcs⟩ := hr
  have h0 := ld_new w
  obtain ⟨R, HR⟩ : ∃ R, Hid (ldE l = R) := ⟨_, rfl⟩
  rw [HR.out]
  obtain ⟨G, HG⟩ : ∃ G, Hid (ldG zeroS l = G) := ⟨_, rfl⟩
  have HR2 : Hid (ldM l G = R) := by
    show _ = _
    rw [← HG.out, ← ldE_eq]
    exact HR
  clear HR
  simp only [StD.fs, zeroS] at h0
  go_enter Try.func14, Try.ntmps14
  go_wp2_with fail
  go_loopw [11] (fun i wr => ∃ (k : Nat) (S : StD) (v1 v2 v3 : Value) (us : List (Value × Value × Value)) (ls : List Value), k ≤ l.length ∧ i = .int .i64 (k : Int) ∧ Ld w S v1 v2 v3 us ls wr ∧ S.Fit ∧ (S.bs.length ≤ k ∧ S.cs.length ≤ k ∧ S.us.length ≤ k) ∧ Hid (ldG S (l.drop k) = G)) (fun i _ => l.length - (Go.RowKit.intOf i).toNat)
  case atStart => exact ⟨0, zeroS, _, _, _, _, _, by omega, rfl, h0, zero_fit, by simp [zeroS], by simpa using HG⟩
  case round =>
    clear h0 HG
    obtain ⟨k, S, v1, v2, v3, us, ls, hk, rfl, hD, hF, hlen, HG⟩ := hrel
    by_cases hlt : k < l.length
    · have hlt' : (k : Int) < (l.length : Int) := by omega
      obtain ⟨g, off, rfl, hg, c0, c1⟩ := hcs k l[k] (by simp [hlt])
      have hsx := hs l[k] (List.getElem_mem hlt)
      have cb := fun (p : Addr) (hp : p.block < w.heap.size) => hD.b.cell (p := p) hp
      rw [← cb ⟨g, _, none⟩ hg] at c0 c1
      have HG2 : Hid ((if (tkF S l[k]).2 = true then ldG (tkF S l[k]).1 (l.drop (k + 1)) else none) = G) := by
        show _ = _
        rw [← HG.out, List.drop_eq_getElem_cons hlt, ldG]
      have hmr := tkF_more S l[k]
      have hft := tkF_fit l[k] hF
      clear cb HG hcs
      generalize l[k] = x at *
      have hal := alloc_bR wr (.cells #[.string x.k, .string x.v] 44)
      have hD1 := hD.below hal
      have cT := take_any (w.heap.size + 1) S v1 v2 v3 us ls x _ hD1.s hD1.o hsx (by omega)
      have hnew := heap_alloc_new wr (.cells #[.string x.k, .string x.v] 44)
      have n0 : (wr.alloc (.cells #[.string x.k, .string x.v] 44)).cell? ⟨wr.heap.size, 0, none⟩ = some (.string x.k) := cell_of_row _ _ 0 _ _ (0, 0) hnew
      have n1 : (wr.alloc (.cells #[.string x.k, .string x.v] 44)).cell? ⟨wr.heap.size, 1, none⟩ = some (.string x.v) := cell_of_row _ _ 1 _ _ (0, 0) hnew
      clear hnew
      generalize tkF S x = T at *
      go_wp2_with fail
      refine cT.mono ?_
      rintro e w2 ⟨u1, u2, u3, us2, ls2, rfl, hs2, ho2, hb2⟩
      have hD2 : Ld w T.1 u1 u2 u3 us2 ls2 w2 := ⟨(hb2.block _ (by omega)).trans hD1.z, hs2, ho2, hD1.b.trans (hb2.mono (by omega))⟩
      clear cT hD hD1 c0 c1 n0 n1
      obtain ⟨T1, T2⟩ := T
      simp only at *
      cases T2 with
      | true =>
        rw [if_pos rfl] at HG2
        go_wp2_with fail
        exact ⟨⟨k + 1, T1, u1, u2, u3, us2, ls2, by omega, by go_num, hD2, hft, by omega, HG2⟩, by simp [Go.RowKit.intOf]; omega⟩
      | false =>
        have eG : G = none := by rw [← HG2.out, if_neg (by decide)]
        subst eG
        have e : R = (zeroS, 150) := HR2.out.symm
        subst e
        clear HG2 HR2
        obtain ⟨e0, e1, e2, e3, e4⟩ := cellsSB hD2.z
        obtain ⟨q0, q1, q2, q3, q4⟩ := frzS hD2.z
        go_wp2_with fail
        have hfin := hD2.z.put zeroS (.slice none 0 0) (.slice none 0 0) (.slice none 0 0)
        refine bodyPost_ret (results_row_tmpR rfl _ _ w.heap.size 26 _ (0, 0) _ rfl hfin Try.underlying26 rfl Try.sizeSt) rfl ?_
        exact ⟨_, _, _, rfl, ⟨_, _, owst_nil _ _⟩, below_putS hD2.b (Nat.le_refl _) zeroS _ _ _⟩
    · have hlt' : ¬ (k : Int) < (l.length : Int) := by omega
      have eG : G = some S := by rw [← HG.out, List.drop_of_length_le (by omega), ldG]
      subst eG
      have HR3 : Hid ((if (prE S).2 = 0 ∧ (prE S).1 = l then (S, 0) else (zeroS, 150)) = R) := HR2
      have cP := pairs_any S v1 v2 v3 wr hD.o.rd hF
      obtain ⟨a1, k1, rfl⟩ := own_form hD.o.c.row
      obtain ⟨a2, k2, rfl⟩ := own_form hD.o.b.row
      obtain ⟨a3, k3, rfl⟩ := own_form hD.o.u
      simp only [StD.fs] at cP
      obtain ⟨y0, y1, y2, y3, y4⟩ := cellsSB hD.s
      clear HG HR2 hcs
      obtain ⟨X, HX⟩ : ∃ X, Hid (prE S = X) := ⟨_, rfl⟩
      have hpl := prE_len S
      rw [HX.out] at cP hpl
      have HR4 : Hid ((if X.2 = 0 ∧ X.1 = l then (S, 0) else (zeroS, 150)) = R) := by
        show _ = _
        rw [← HX.out]
        exact HR3
      clear HX HR3
      go_wp2_with fail
      refine cP.mono ?_
      rintro e w3 ⟨dv, rfl, hod, hb3⟩
      have hD3 := hD.below hb3
      have cE := equalPa_any dv (.slice ao l.length cp) X.1 l w3 (rdpa_own hod) (hr'.below hD3.b) (by omega)
      obtain ⟨ad, kd, rfl⟩ := own_form hod
      clear cP y0 y1 y2 y3 y4 hD
      obtain ⟨X1, X2⟩ := X
      simp only at *
      by_cases hx2 : X2 = 0
      · subst hx2
        by_cases he : X1 = l
        · subst he
          have e : R = (S, 0) := by rw [← HR4.out, if_pos ⟨rfl, rfl⟩]
          subst e
          rw [decide_eq_true rfl] at cE
          clear HR4
          go_wp2_with fail
          refine cE.mono ?_
          rintro e w4 ⟨rfl, hb4⟩
          have hD4 := hD3.below hb4
          obtain ⟨e0, e1, e2, e3, e4⟩ := cellsSB hD4.z
          obtain ⟨q0, q1, q2, q3, q4⟩ := frzS hD4.z
          obtain ⟨y0, y1, y2, y3, y4⟩ := cellsSB hD4.s
          clear cE hD3
          go_wp2_with fail
          have hfin := hD4.z.put S (.slice a1 S.cs.length k1) (.slice a2 S.bs.length k2) (.slice a3 S.us.length k3)
          refine bodyPost_ret (results_row_tmpR rfl _ _ w.heap.size 26 _ (0, 0) _ rfl hfin Try.underlying26 rfl Try.sizeSt) rfl ?_
          exact ⟨_, _, _, rfl, ⟨us, ls, ow_putS hD4.z (hD4.o.lower (by omega))⟩, below_putS hD4.b (Nat.le_refl _) S _ _ _⟩
        · have e : R = (zeroS, 150) := by rw [← HR4.out, if_neg (fun h => he h.2)]
          subst e
          rw [decide_eq_false he] at cE
          clear HR4
          go_wp2_with fail
          refine cE.mono ?_
          rintro e w4 ⟨rfl, hb4⟩
          have hD4 := hD3.below hb4
          obtain ⟨e0, e1, e2, e3, e4⟩ := cellsSB hD4.z
          obtain ⟨q0, q1, q2, q3, q4⟩ := frzS hD4.z
          clear cE hD3
          go_wp2_with fail
          have hfin := hD4.z.put zeroS (.slice none 0 0) (.slice none 0 0) (.slice none 0 0)
          refine bodyPost_ret (results_row_tmpR rfl _ _ w.heap.size 26 _ (0, 0) _ rfl hfin Try.underlying26 rfl Try.sizeSt) rfl ?_
          exact ⟨_, _, _, rfl, ⟨_, _, owst_nil _ _⟩, below_putS hD4.b (Nat.le_refl _) zeroS _ _ _⟩
      · have e : R = (zeroS, 150) := by rw [← HR4.out, if_neg (fun h => hx2 h.1)]
        subst e
        clear HR4 cE
        obtain ⟨e0, e1, e2, e3, e4⟩ := cellsSB hD3.z
        obtain ⟨q0, q1, q2, q3, q4⟩ := frzS hD3.z
        go_wp2_with fail
        have hfin := hD3.z.put zeroS (.slice none 0 0) (.slice none 0 0) (.slice none 0 0)
        refine bodyPost_ret (results_row_tmpR rfl _ _ w.heap.size 26 _ (0, 0) _ rfl hfin Try.underlying26 rfl Try.sizeSt) rfl ?_
        exact ⟨_, _, _, rfl, ⟨_, _, owst_nil _ _⟩, below_putS hD3.b (Nat.le_refl _) zeroS _ _ _⟩
end Go.Proofs.Ytdheddgdlindmaa
