/-
  The reference's Load, walked.
-/
import Derived.Test.YtdheddgdlindmaaRgH
import Derived.Test.YtdheddgdlindmaaRfD
import Derived.Test.YtdheddgdlindmaaRcY
import Derived.Test.YtdheddgdlindmaaRcW
import Derived.Test.YtdheddgdlindmaaRfE
namespace Go.Proofs.Ytdheddgdlindmaa
open Go.ChangeShapes Go.WideShapes Go.ChangeAt Go.RowKit Go.PlainAid

theorem raw_sm {st : St} (h : st.Raw) : st.op.Sm := by
  cases st with
  | keep n => show ByteArray.size ⟨#[]⟩ ≤ _; decide
  | rem n => show ByteArray.size ⟨#[]⟩ ≤ _; decide
  | ins t => simp only [St.Raw] at h; show t.size ≤ _; omega
theorem dec_smR (s : ByteArray) : ∀ o ∈ (decR s).1, o.Sm := by
  unfold decR
  split
  · simp
  · rename_i hn
    have h0 : (pk.tk s 0 1125899906842624).2.2 = 0 := by omega
    rcases pk.tk_cases s 0 1125899906842624 with ⟨n, p, hr, -, -, hp, -⟩ | ⟨er, hr, her⟩
    · rw [hr] at hn ⊢
      simp only
      cases hg : decGo s (n : Int).toNat (p : Int) [] with
      | none => simp [decF]
      | some r =>
        obtain ⟨l, q⟩ := r
        unfold decF
        simp only
        split
        · simp
        · rename_i hc
          obtain ⟨m, e1, -, e2, -⟩ := decGo_of _ p [] l q hp hg
          rw [List.nil_append] at e1
          subst e1
          intro o ho
          simp only [List.mem_map] at ho
          obtain ⟨st, h1, rfl⟩ := ho
          exact raw_sm (e2 st h1)
    · rw [hr] at h0
      simp only at h0
      omega
theorem adF_sm {S : StD} (x : PaD) (h : S.Sm) : (adF S x).1.Sm := by
  unfold adF
  split
  · exact h
  · split
    · exact h
    · split
      · intro y hy
        rcases List.mem_append.1 hy with hy | hy
        · exact h y hy
        · rw [List.mem_singleton.1 hy]
          exact ⟨dec_smR _, dec_smR _⟩
      · split
        · exact h
        · exact h
set_option maxRecDepth 20000 in
set_option maxHeartbeats 3000000 in
theorem refLoad_short (v : Value) (l : List PaD) (w : World) (hr : RdPa w v l) (hl : l.length ≤ 1048576) (hs : ∀ x ∈ l, x.v.size ≤ 1099511627776) (hlong : ¬ (1000 : Int) < (l.length : Int)) :
    Calls Try.prog 15 #[v] w fun e w' => ∃ v1 v2 v3, e = .returned (.tuple #[.agg ((ldE l).1.fs v1 v2 v3), .int .i64 (ldE l).2]) ∧ (∃ us ls, OwSt w' w.heap.size v1 v2 v3 (ldE l).1 us ls) ∧ Below w.heap.size w w' := by
  have hr' := hr
  obtain ⟨ao, cp, rfl, hcs⟩ := hr
  have h0 := ld_new w
  obtain ⟨R, HR⟩ : ∃ R, Hid (ldE l = R) := ⟨_, rfl⟩
  rw [HR.out]
  obtain ⟨G, HG⟩ : ∃ G, Hid (lhG zeroS l = G) := ⟨_, rfl⟩
  have HR2 : Hid (ldM l G = R) := by
    show _ = _
    rw [← HG.out, lh_eq]
    exact HR
  simp only [StD.fs, zeroS] at h0
  clear HR
  go_enter Try.func15, Try.ntmps15
  go_wp2_with fail
  go_loopw [5] (fun i wr => ∃ (k : Nat) (S : StD) (v1 v2 v3 : Value) (us : List (Value × Value × Value)) (ls : List Value), k ≤ l.length ∧ i = .int .i64 (k : Int) ∧ Ld w S v1 v2 v3 us ls wr ∧ S.Fit ∧ S.Sm ∧ (S.bs.length ≤ k ∧ S.cs.length ≤ k ∧ S.us.length ≤ k) ∧ Hid (lhG S (l.drop k) = G)) (fun i _ => l.length - (Go.RowKit.intOf i).toNat)
  case atStart => exact ⟨0, zeroS, _, _, _, _, _, by omega, rfl, h0, zero_fit, (fun y hy => by simp [zeroS] at hy), by simp [zeroS], by simpa using HG⟩
  case round =>
    clear h0 HG
    obtain ⟨k, S, v1, v2, v3, us, ls, hk, rfl, hD, hF, hSm, hlen, HG⟩ := hrel
    by_cases hlt : k < l.length
    · have hlt' : (k : Int) < (l.length : Int) := by omega
      obtain ⟨g, off, rfl, hg, c0, c1⟩ := hcs k l[k] (by simp [hlt])
      have hsx := hs l[k] (List.getElem_mem hlt)
      have cb := fun (p : Addr) (hp : p.block < w.heap.size) => hD.b.cell (p := p) hp
      rw [← cb ⟨g, _, none⟩ hg] at c0 c1
      have HG2 : Hid ((if (adF S l[k]).2 = true then lhG (adF S l[k]).1 (l.drop (k + 1)) else none) = G) := by
        show _ = _
        rw [← HG.out, List.drop_eq_getElem_cons hlt, lhG]
      have hmr := adF_more S l[k]
      have hft := adF_fit l[k] hF
      have hst := adF_sm l[k] hSm
      clear cb HG hcs
      generalize l[k] = x at *
      have cT := add_any (w.heap.size + 1) S v1 v2 v3 us ls x _ hD.s hD.o hsx (by omega)
      generalize adF S x = T at *
      go_wp2_with fail
      refine cT.mono ?_
      rintro e w2 ⟨u1, u2, u3, us2, ls2, rfl, hs2, ho2, hb2⟩
      have hD2 : Ld w T.1 u1 u2 u3 us2 ls2 w2 := ⟨(hb2.block _ (by omega)).trans hD.z, hs2, ho2, hD.b.trans (hb2.mono (by omega))⟩
      clear cT hD c0 c1
      obtain ⟨T1, T2⟩ := T
      simp only at *
      cases T2 with
      | true =>
        rw [if_pos rfl] at HG2
        go_wp2_with fail
        exact ⟨⟨k + 1, T1, u1, u2, u3, us2, ls2, by omega, by go_num, hD2, hft, hst, by omega, HG2⟩, by simp [Go.RowKit.intOf]; omega⟩
      | false =>
        have eG : G = none := by rw [← HG2.out, if_neg (by decide)]
        subst eG
        have e : R = (zeroS, 150) := HR2.out.symm
        subst e
        clear HG2 HR2
        obtain ⟨e0, e1, e2, e3, e4⟩ := cellsSB hD2.z
        obtain ⟨q0, q1, q2, q3, q4⟩ := frzS hD2.z
        go_wp2_with fail
        have hfin := hD2.z.put zeroS (.slice none 0 0) (.slice none 0 0) (.slice none 0 0)
        refine bodyPost_ret (results_row_tmpR rfl _ _ w.heap.size 26 _ (0, 0) _ rfl hfin Try.underlying26 rfl Try.sizeSt) rfl ?_
        exact ⟨_, _, _, rfl, ⟨_, _, owst_nil _ _⟩, below_putS hD2.b (Nat.le_refl _) zeroS _ _ _⟩
    · have hlt' : ¬ (k : Int) < (l.length : Int) := by omega
      have eG : G = some S := by rw [← HG.out, List.drop_of_length_le (by omega), lhG]
      subst eG
      have HR3 : Hid ((if (prE S).2 = 0 ∧ (prE S).1 = l then (S, 0) else (zeroS, 150)) = R) := HR2
      have cP := pairs15_any S v1 v2 v3 wr hD.o.rd hF hSm
      obtain ⟨a1, k1, rfl⟩ := own_form hD.o.c.row
      obtain ⟨a2, k2, rfl⟩ := own_form hD.o.b.row
      obtain ⟨a3, k3, rfl⟩ := own_form hD.o.u
      simp only [StD.fs] at cP
      obtain ⟨y0, y1, y2, y3, y4⟩ := cellsSB hD.s
      clear HG HR2 hcs
      obtain ⟨X, HX⟩ : ∃ X, Hid (prE S = X) := ⟨_, rfl⟩
      have hpl := prE_len S
      rw [HX.out] at cP hpl
      have HR4 : Hid ((if X.2 = 0 ∧ X.1 = l then (S, 0) else (zeroS, 150)) = R) := by
        show _ = _
        rw [← HX.out]
        exact HR3
      clear HX HR3
      go_wp2_with fail
      refine cP.mono ?_
      rintro e w3 ⟨dv, rfl, hod, hb3⟩
      have hD3 := hD.below hb3
      have cE := samePa_any dv (.slice ao l.length cp) X.1 l w3 (rdpa_own hod) (hr'.below hD3.b) (by omega)
      obtain ⟨ad, kd, rfl⟩ := own_form hod
      clear cP y0 y1 y2 y3 y4 hD
      obtain ⟨X1, X2⟩ := X
      simp only at *
      by_cases hx2 : X2 = 0
      · subst hx2
        by_cases he : X1 = l
        · subst he
          have e : R = (S, 0) := by rw [← HR4.out, if_pos ⟨rfl, rfl⟩]
          subst e
          rw [decide_eq_true rfl] at cE
          clear HR4
          go_wp2_with fail
          refine cE.mono ?_
          rintro e w4 ⟨rfl, hb4⟩
          have hD4 := hD3.below hb4
          obtain ⟨e0, e1, e2, e3, e4⟩ := cellsSB hD4.z
          obtain ⟨q0, q1, q2, q3, q4⟩ := frzS hD4.z
          obtain ⟨y0, y1, y2, y3, y4⟩ := cellsSB hD4.s
          clear cE hD3
          go_wp2_with fail
          have hfin := hD4.z.put S (.slice a1 S.cs.length k1) (.slice a2 S.bs.length k2) (.slice a3 S.us.length k3)
          refine bodyPost_ret (results_row_tmpR rfl _ _ w.heap.size 26 _ (0, 0) _ rfl hfin Try.underlying26 rfl Try.sizeSt) rfl ?_
          exact ⟨_, _, _, rfl, ⟨us, ls, ow_putS hD4.z (hD4.o.lower (by omega))⟩, below_putS hD4.b (Nat.le_refl _) S _ _ _⟩
        · have e : R = (zeroS, 150) := by rw [← HR4.out, if_neg (fun h => he h.2)]
          subst e
          rw [decide_eq_false he] at cE
          clear HR4
          go_wp2_with fail
          refine cE.mono ?_
          rintro e w4 ⟨rfl, hb4⟩
          have hD4 := hD3.below hb4
          obtain ⟨e0, e1, e2, e3, e4⟩ := cellsSB hD4.z
          obtain ⟨q0, q1, q2, q3, q4⟩ := frzS hD4.z
          clear cE hD3
          go_wp2_with fail
          have hfin := hD4.z.put zeroS (.slice none 0 0) (.slice none 0 0) (.slice none 0 0)
          refine bodyPost_ret (results_row_tmpR rfl _ _ w.heap.size 26 _ (0, 0) _ rfl hfin Try.underlying26 rfl Try.sizeSt) rfl ?_
          exact ⟨_, _, _, rfl, ⟨_, _, owst_nil _ _⟩, below_putS hD4.b (Nat.le_refl _) zeroS _ _ _⟩
      · have e : R = (zeroS, 150) := by rw [← HR4.out, if_neg (fun h => hx2 h.1)]
        subst e
        clear HR4 cE
        obtain ⟨e0, e1, e2, e3, e4⟩ := cellsSB hD3.z
        obtain ⟨q0, q1, q2, q3, q4⟩ := frzS hD3.z
        go_wp2_with fail
        have hfin := hD3.z.put zeroS (.slice none 0 0) (.slice none 0 0) (.slice none 0 0)
        refine bodyPost_ret (results_row_tmpR rfl _ _ w.heap.size 26 _ (0, 0) _ rfl hfin Try.underlying26 rfl Try.sizeSt) rfl ?_
        exact ⟨_, _, _, rfl, ⟨_, _, owst_nil _ _⟩, below_putS hD3.b (Nat.le_refl _) zeroS _ _ _⟩
end Go.Proofs.Ytdheddgdlindmaa

/-
  The reference's Load, of a long list.
-/
namespace Go.Proofs.Ytdheddgdlindmaa
open Go.ChangeShapes Go.WideShapes Go.ChangeAt Go.RowKit Go.PlainAid

set_option maxRecDepth 20000 in
set_option maxHeartbeats 400000 in
theorem refLoad_long (ao : Option Addr) (cp : Nat) (l : List PaD) (w : World) (hlong : (1000 : Int) < (l.length : Int)) :
    Calls Try.prog 15 #[.slice ao l.length cp] w fun e w' => ∃ v1 v2 v3, e = .returned (.tuple #[.agg (zeroS.fs v1 v2 v3), .int .i64 150]) ∧ (∃ us ls, OwSt w' w.heap.size v1 v2 v3 zeroS us ls) ∧ Below w.heap.size w w' := by
  have h0 := ld_new w
  simp only [StD.fs, zeroS] at h0
  go_enter Try.func15, Try.ntmps15
  go_upto_region 3 with fail
  generalize (w.alloc (.cells #[.int .i64 0, .int .i64 0, .slice none 0 0, .slice none 0 0, .slice none 0 0] 26)).alloc (.cells #[.int .i64 0, .int .i64 0, .slice none 0 0, .slice none 0 0, .slice none 0 0] 26) = W0 at *
  obtain ⟨y0, y1, y2, y3, y4⟩ := cellsSB h0.s
  obtain ⟨e0, e1, e2, e3, e4⟩ := cellsSB h0.z
  obtain ⟨q0, q1, q2, q3, q4⟩ := frzS h0.z
  go_wp2_with fail
  have hfin := h0.z.put zeroS (.slice none 0 0) (.slice none 0 0) (.slice none 0 0)
  refine bodyPost_ret (results_row_tmpR rfl _ _ w.heap.size 26 _ (0, 0) _ rfl hfin Try.underlying26 rfl Try.sizeSt) rfl ?_
  exact ⟨_, _, _, rfl, ⟨_, _, owst_nil _ _⟩, below_putS h0.b (Nat.le_refl _) zeroS _ _ _⟩
theorem refLoad_any (v : Value) (l : List PaD) (w : World) (hr : RdPa w v l) (hl : l.length ≤ 1048576) (hs : ∀ x ∈ l, x.v.size ≤ 1099511627776) :
    Calls Try.prog 15 #[v] w fun e w' => ∃ v1 v2 v3, e = .returned (.tuple #[.agg ((ldE l).1.fs v1 v2 v3), .int .i64 (ldE l).2]) ∧ (∃ us ls, OwSt w' w.heap.size v1 v2 v3 (ldE l).1 us ls) ∧ Below w.heap.size w w' := by
  by_cases hlong : (1000 : Int) < (l.length : Int)
  · obtain ⟨ao, cp, rfl, -⟩ := hr
    rw [lh_long l (by omega)]
    exact refLoad_long ao cp l w hlong
  · exact refLoad_short v l w hr hl hs hlong
end Go.Proofs.Ytdheddgdlindmaa

/-
  Pairs that came in; what Load gives fits.
-/
namespace Go.Proofs.Ytdheddgdlindmaa
open Go.ChangeShapes Go.WideShapes Go.ChangeAt Go.RowKit Go.PlainAid

theorem ldE_fits (l : List PaD) : (ldE l).1.Fit ∧ ((ldE l).1.cs.length ≤ 9223372036854775000 ∧ (ldE l).1.bs.length ≤ 9223372036854775000 ∧ (ldE l).1.us.length ≤ 9223372036854775000) := by
  rw [← lh_eq]
  cases h : lhG zeroS l with
  | none => exact ⟨zero_fit, by simp [ldM, zeroS]⟩
  | some T =>
    have hF := lhG_fit l zeroS T zero_fit h
    unfold ldM
    simp only
    split
    · rename_i h1
      refine ⟨hF, ?_⟩
      have h0 := h1.1
      unfold prE at h0
      split at h0
      · rename_i h2
        have := st_ok h2
        have h1 := this.cl
        have h2 := this.bl
        have h3 := this.ul
        simp only
        omega
      · simp at h0
    · exact ⟨zero_fit, by simp [zeroS]⟩
/-- Pairs that came in, not too great. -/
structure PaU (l : List PaD) : Prop where
  ln : l.length ≤ 1048576
  el : ∀ x ∈ l, x.k.size ≤ 1048576 ∧ x.v.size ≤ 1048576
instance : Inhabited PaD := ⟨⟨⟨#[]⟩, ⟨#[]⟩⟩⟩
section
variable {H : Type} {enc : TypeId × Value → H} {w : World} {spare : Nat → Bool} {held : Bool}
theorem sz_str {t : TypeId} {a : ByteArray} {d : DataW H × List MemPlace} (h : Sz true t d.1) (e : d = (.lit (.string a.data.toList), [])) : a.size ≤ 1048576 := by
  unfold Sz at h
  rw [e] at h
  simp only [Rows.uptoBulk] at h
  have := data_len a
  omega
set_option maxRecDepth 20000 in
theorem open_pair {n : Nat} {cs : List Value} {x : DataW H × List MemPlace} (h : DataW.trod enc Try.prog w 0 spare held n 44 cs = some x) (hz : Sz true 44 x.1) :
    ∃ (c : PaD), cs = [.string c.k, .string c.v] ∧ (c.k.size ≤ 1048576 ∧ c.v.size ≤ 1048576) := by
  obtain ⟨xs, m, _, hx, hl, _, hf⟩ := DataW.trod_struct Try.underlying44 h
  have h4 : Try.prog.cellsOf 44 = 2 := by kernel_rfl
  have c9 : Try.prog.cellsOf 9 = 1 := by kernel_rfl
  rw [h4] at hl
  have hxl : xs.length = 2 := by assumption
  match xs, hxl, cs, hl with
  | [y0, y1], _, [v0, v1], _ =>
    have g0 := hf 0 _ rfl
    have g1 := hf 1 _ rfl
    simp [c9] at g0 g1
    obtain ⟨a0, e0, f0, -⟩ := DataW.trod_string Try.underlying9 g0
    obtain ⟨a1, e1, f1, -⟩ := DataW.trod_string Try.underlying9 g1
    simp at e0 e1
    rw [hx] at hz
    simp only [List.map] at hz
    have z0 : Sz true 9 y0.1 := sz_part (j := 0) (d := y0.1) Try.underlying44 hz rfl rfl
    have z1 : Sz true 9 y1.1 := sz_part (j := 1) (d := y1.1) Try.underlying44 hz rfl rfl
    exact ⟨⟨a0, a1⟩, by rw [e0, e1], sz_str z0 f0, sz_str z1 f1⟩
theorem open_pa {fuel : Nat} {v : Value} {x : DataW H × List MemPlace} (h : DataW.trod enc Try.prog w 0 spare held fuel 28 [v] = some x) (hz : Rows.uptoBulk x.1 ≤ 1048576) : ∃ l, RdPa w v l ∧ PaU l := by
  obtain ⟨l, ao, cp, rfl, -, hL, hc⟩ := open_rowG (up := true) (α := PaD) (sz := 2) (by8 := 32) (fun a cs => cs = [.string a.k, .string a.v] ∧ (a.k.size ≤ 1048576 ∧ a.v.size ≤ 1048576)) Try.underlying28 (by kernel_rfl) (by decide) (by kernel_rfl) (by decide) (fun h hz => open_pair h hz) h hz
  refine ⟨l, ⟨ao, cp, rfl, fun i a hi => ?_⟩, ⟨hL.2 rfl, row_mem (fun i a hi => by obtain ⟨b, off, cs, -, -, h, -⟩ := hc i a hi; exact h.2)⟩⟩
  obtain ⟨b, off, cs, e, hb, ⟨rfl, -⟩, h1⟩ := hc i a hi
  exact ⟨b, off, e, hb, h1 0 _ rfl, h1 1 _ rfl⟩
end
theorem rdpa_src {W : World} {ao : Option Addr} {cp : Nat} {l : List PaD} (h : RdPa W (.slice ao l.length cp) l) : (∀ ad, ao = some ad → ∀ j u, (pcs l)[j]? = some u → W.cell? (ad.add j) = some u) ∧ (ao = none → l.length = 0) := by
  obtain ⟨ao', cp', e, hc⟩ := h
  simp only [Value.slice.injEq] at e
  obtain ⟨rfl, -, rfl⟩ := e
  refine ⟨fun ad had j u hj => ?_, fun hn => ?_⟩
  · have hjl := (List.getElem?_eq_some_iff.1 hj).1
    rw [pcs_len] at hjl
    have hi : j / 2 < l.length := by omega
    obtain ⟨b, off, e, -, c0, c1⟩ := hc (j / 2) l[j / 2] (by simp [hi])
    obtain ⟨q0, q1⟩ := pcs_at l (j / 2) l[j / 2] (by simp [hi])
    rw [had] at e
    cases e
    rw [adK]
    rcases Nat.mod_two_eq_zero_or_one j with hm | hm
    · have : j = j / 2 * 2 := by omega
      rw [← this] at q0 c0
      rw [hj] at q0
      cases q0
      exact c0
    · have : j = j / 2 * 2 + 1 := by omega
      rw [Nat.add_assoc, ← this] at c1
      rw [← this] at q1
      rw [hj] at q1
      cases q1
      exact c1
  · cases l with
    | nil => rfl
    | cons x l =>
      obtain ⟨b, off, e, -⟩ := hc 0 x rfl
      rw [hn] at e
      cases e
theorem pcs_ones : ∀ (l : List PaD), ∀ u ∈ pcs l, u.oneCell' = true
  | [], u, hu => by simp [pcs] at hu
  | o :: l, u, hu => by
    have ih := pcs_ones l u
    simp [pcs] at hu
    rcases hu with rfl | rfl | hu
    · rfl
    · rfl
    · exact ih hu
end Go.Proofs.Ytdheddgdlindmaa
