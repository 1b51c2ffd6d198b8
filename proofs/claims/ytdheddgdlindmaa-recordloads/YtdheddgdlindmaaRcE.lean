/-
  record: which numbers, names, clients, branches and commits have a form.
-/
import Derived.Test.YtdheddgdlindmaaRcD
import Derived.Test.YtdheddgdlindmaaDrB
namespace Go.Proofs.Ytdheddgdlindmaa
open Go.WideShapes Go.RowKit Go.ChangeShapes Go.ChangeAt Go.PlainAid

/-- All these numbers are from lo to hi. -/
def wtl (lo hi : Int) (l : List Int) : Bool := l.all fun n => decide (lo ≤ n) && decide (n ≤ hi)
theorem wtl_iff {lo hi : Int} {l : List Int} : wtl lo hi l = true ↔ ∀ n ∈ l, lo ≤ n ∧ n ≤ hi := by
  simp [wtl]
set_option maxRecDepth 20000 in
set_option maxHeartbeats 1000000 in
theorem withinR_any (lo hi : Int) (v : Value) (l : List Int) (w : World) (hr : RdI w v l) (hl : l.length ≤ 9223372036854775000) :
    Calls Try.prog 37 #[.int .i64 lo, .int .i64 hi, v] w fun e w' => e = .returned (.bool (wtl lo hi l)) ∧ Below w.heap.size w w' := by
  obtain ⟨ao, cp, rfl, hcs⟩ := hr
  obtain ⟨R, HR⟩ : ∃ R, Hid (wtl lo hi l = R) := ⟨_, rfl⟩
  rw [HR.out]
  go_enter Try.func37, Try.ntmps37
  go_wp2_with fail
  go_loopw [11] (fun i wr => ∃ k : Nat, k ≤ l.length ∧ i = .int .i64 (k : Int) ∧ wr = w ∧ Hid (∀ n ∈ l.take k, lo ≤ n ∧ n ≤ hi)) (fun i _ => l.length - (Go.RowKit.intOf i).toNat)
  case atStart => exact ⟨0, by omega, rfl, rfl, (fun n hn => by simp at hn)⟩
  case round =>
    obtain ⟨k, hk, rfl, rfl, HA⟩ := hrel
    by_cases hlt : k < l.length
    · have hlt' : (k : Int) < (l.length : Int) := by omega
      obtain ⟨g, off, rfl, -, c0⟩ := hcs k l[k] (by simp [hlt])
      have Hno : ¬ (lo ≤ l[k] ∧ l[k] ≤ hi) → R = false := fun h => by
        rw [← HR.out]
        cases hw : wtl lo hi l with
        | false => rfl
        | true => exact absurd (wtl_iff.1 hw _ (List.getElem_mem hlt)) h
      have Hyes : lo ≤ l[k] ∧ l[k] ≤ hi → Hid (∀ n ∈ l.take (k + 1), lo ≤ n ∧ n ≤ hi) := fun h n hn => by
        rw [List.take_succ_eq_append_getElem hlt] at hn
        rcases List.mem_append.1 hn with h1 | h1
        · exact HA.out n h1
        · rw [List.mem_singleton.1 h1]; exact h
      generalize l[k] = n at *
      clear hcs HA HR
      by_cases h1 : n < lo
      · have e := Hno (by omega)
        subst e
        clear Hno Hyes
        go_wp2_with fail
        go_ret
        exact ⟨rfl, Below.refl _ _⟩
      · by_cases h2 : n > hi
        · have e := Hno (by omega)
          subst e
          clear Hno Hyes
          go_wp2_with fail
          go_ret
          exact ⟨rfl, Below.refl _ _⟩
        · have H2 := Hyes (by omega)
          clear Hno Hyes
          go_wp2_with fail
          exact ⟨⟨k + 1, by omega, by go_num, trivial, H2⟩, by simp [Go.RowKit.intOf]; omega⟩
    · have hlt' : ¬ (k : Int) < (l.length : Int) := by omega
      have e : R = true := by
        rw [← HR.out]
        refine wtl_iff.2 (fun n hn => HA.out n ?_)
        rw [List.take_of_length_le (by omega)]
        exact hn
      subst e
      clear hcs HA HR
      go_wp2_with fail
      go_ret
      exact ⟨rfl, Below.refl _ _⟩
/-- A client that has a form. -/
def cuF (x : CuD) : Bool := decide (1 ≤ x.b) && decide (x.b ≤ 1000000) && decide (1 ≤ x.s) && decide (x.s ≤ 100000)
theorem withinR_one (lo hi n : Int) (w : World) : Calls Try.prog 37 #[.int .i64 lo, .int .i64 hi, .slice (some ⟨w.heap.size, 0, none⟩) 1 1] (w.alloc (.cells #[.int .i64 n] 3)) fun e w' => e = .returned (.bool (decide (lo ≤ n) && decide (n ≤ hi))) ∧ Below w.heap.size w w' := by
  have h := withinR_any lo hi (.slice (some ⟨w.heap.size, 0, none⟩) 1 1) [n] (w.alloc (.cells #[.int .i64 n] 3)) (rdi_lit (l := [n]) (heap_alloc_new w _)) (by simp)
  refine h.mono ?_
  rintro e w' ⟨rfl, hb⟩
  exact ⟨by simp [wtl], (alloc_bR w _).trans (hb.mono (alloc_bR w _).size)⟩
set_option maxRecDepth 20000 in
set_option maxHeartbeats 1000000 in
theorem clientHF_any (x : CuD) (w : World) :
    Calls Try.prog 46 #[.agg #[.int .i64 x.c, .int .i64 x.b, .int .i64 x.s]] w fun e w' => e = .returned (.bool (cuF x)) ∧ Below w.heap.size w w' := by
  have hal := alloc_bR w (.cells #[.int .i64 x.c, .int .i64 x.b, .int .i64 x.s] 61)
  have hx := heap_alloc_new w (.cells #[.int .i64 x.c, .int .i64 x.b, .int .i64 x.s] 61)
  generalize hw1 : w.alloc (.cells #[.int .i64 x.c, .int .i64 x.b, .int .i64 x.s] 61) = w1 at *
  have q := fun (W' : World) (h : Below w1.heap.size w1 W') j => cell_of_row W' w.heap.size j _ _ (0, 0) ((h.block _ (heap_lt hx)).trans hx)
  have x1 : w1.cell? ⟨w.heap.size, 1, none⟩ = some (.int .i64 x.b) := q w1 (Below.refl _ _) 1
  have c1 := withinR_one 1 1000000 x.b w1
  have c2 := fun W => withinR_one 1 100000 x.s W
  have e0 : cuF x = ((decide (1 ≤ x.b) && decide (x.b ≤ 1000000)) && (decide (1 ≤ x.s) && decide (x.s ≤ 100000))) := by unfold cuF; simp only [Bool.and_assoc]
  rw [e0]
  generalize (decide (1 ≤ x.b) && decide (x.b ≤ 1000000)) = t1 at *
  generalize (decide (1 ≤ x.s) && decide (x.s ≤ 100000)) = t2 at *
  clear hx
  go_enter Try.func46, Try.ntmps46
  go_wp2_with fail
  refine c1.mono ?_
  rintro e w2 ⟨rfl, hb2⟩
  have x2 : w2.cell? ⟨w.heap.size, 2, none⟩ = some (.int .i64 x.s) := q w2 hb2 2
  have hB2 := hal.trans (hb2.mono hal.size)
  clear c1 q x1
  cases t1 with
  | false =>
    go_wp2_with fail
    go_ret
    exact ⟨rfl, hB2⟩
  | true =>
    go_wp2_with fail
    refine (c2 w2).mono ?_
    rintro e w3 ⟨rfl, hb3⟩
    go_wp2_with fail
    go_ret
    exact ⟨by simp, hB2.trans (hb3.mono hB2.size)⟩
/-- A name. -/
def chOk (c : UInt8) : Bool := (decide (97 ≤ c.toNat) && decide (c.toNat ≤ 122)) || (decide (48 ≤ c.toNat) && decide (c.toNat ≤ 57))
def nmOk (s : ByteArray) : Bool := decide (1 ≤ s.size) && decide (s.size ≤ 12) && s.data.toList.all chOk
theorem bytes_cells {W : World} {g : Nat} {cur : Array Value} {fz : Nat × Nat} {l : List UInt8} (hg : W.heap[g]? = some (.cells cur 5 fz)) (htk : cur.toList.take l.length = bv l) : ∀ i c, l[i]? = some c → W.cell? ⟨g, i, none⟩ = some (.int .u8 (c.toNat : Int)) := by
  intro i c hc
  have hi : i < l.length := (List.getElem?_eq_some_iff.1 hc).1
  have q := cell_of_row W g i _ _ fz hg
  have q2 := congrArg (fun L => L[i]?) htk
  simp only [List.getElem?_take_of_lt hi, bv, List.getElem?_map, hc, Option.map_some] at q2
  rw [q, ← Array.getElem?_toList, q2]
set_option maxRecDepth 20000 in
set_option maxHeartbeats 1000000 in
theorem isName_any (s : ByteArray) (w : World) (hs : s.size ≤ 140737488355328) :
    Calls Try.prog 69 #[.string s] w fun e w' => e = .returned (.bool (nmOk s)) ∧ Below w.heap.size w w' := by
  have hdl := data_len s
  by_cases h1 : (s.size : Int) < 1
  · have e : nmOk s = false := by unfold nmOk; rw [decide_eq_false (by omega)]; rfl
    rw [e]
    go_enter Try.func69, Try.ntmps69
    go_wp2_with fail
    go_ret
    exact ⟨rfl, Below.refl _ _⟩
  · by_cases h2 : (s.size : Int) > 12
    · have e : nmOk s = false := by unfold nmOk; rw [decide_eq_false (p := s.size ≤ 12) (by omega), Bool.and_false]; rfl
      rw [e]
      go_enter Try.func69, Try.ntmps69
      go_wp2_with fail
      go_ret
      exact ⟨rfl, Below.refl _ _⟩
    · have e : nmOk s = s.data.toList.all chOk := by unfold nmOk; rw [decide_eq_true (p := 1 ≤ s.size) (by omega), decide_eq_true (p := s.size ≤ 12) (by omega)]; rfl
      rw [e]
      obtain ⟨v0, w0, hcv, ⟨g, cap, cur, fz, rfl, -, hg, -, hlc, -, -, htk⟩, hb0⟩ := conv_made s.data.toList w.heap.size w (Nat.le_refl _) (by unfold maxLen; omega)
      rw [mk_data] at hcv
      have hcs := bytes_cells hg htk
      obtain ⟨R, HR⟩ : ∃ R, Hid (s.data.toList.all chOk = R) := ⟨_, rfl⟩
      rw [HR.out]
      rw [hdl] at hcv
      clear hg htk e
      go_enter Try.func69, Try.ntmps69
      go_wp2_with fail
      go_loopw [16] (fun i wr => ∃ k : Nat, k ≤ s.data.toList.length ∧ i = .int .i64 (k : Int) ∧ wr = w0 ∧ Hid ((s.data.toList.take k).all chOk = true)) (fun i _ => s.data.toList.length - (Go.RowKit.intOf i).toNat)
      case atStart => exact ⟨0, by omega, rfl, rfl, (by show _ = _; rfl)⟩
      case round =>
        obtain ⟨k, hk, rfl, rfl, HA⟩ := hrel
        by_cases hlt : k < s.data.toList.length
        · have hlt' : (k : Int) < (s.size : Int) := by omega
          have c0 := hcs k s.data.toList[k] (by rw [List.getElem?_eq_getElem hlt])
          have Hno : chOk s.data.toList[k] = false → R = false := fun h => by
            rw [← HR.out]
            exact List.all_eq_false.2 ⟨_, List.getElem_mem hlt, by rw [h]; decide⟩
          have Hyes : chOk s.data.toList[k] = true → Hid ((s.data.toList.take (k + 1)).all chOk = true) := fun h => by
            show _ = _
            rw [List.take_succ_eq_append_getElem hlt, List.all_append, HA.out, Bool.true_and, List.all_cons, h, List.all_nil]
            rfl
          have hc8 : s.data.toList[k].toNat < 256 := s.data.toList[k].toNat_lt
          generalize s.data.toList[k] = c at *
          have hch : chOk c = ((decide (97 ≤ c.toNat) && decide (c.toNat ≤ 122)) || (decide (48 ≤ c.toNat) && decide (c.toNat ≤ 57))) := rfl
          generalize hcn : c.toNat = n at *
          clear hcs HA HR hcv
          by_cases a1 : (n : Int) < 97
          · by_cases b1 : (n : Int) < 48
            · have e := Hno (by rw [hch, decide_eq_false (p := 97 ≤ n) (by omega), decide_eq_false (p := 48 ≤ n) (by omega)]; rfl)
              subst e
              clear Hno Hyes hch
              go_wp2_with fail
              go_ret
              exact ⟨rfl, hb0⟩
            · by_cases b2 : (n : Int) > 57
              · have e := Hno (by rw [hch, decide_eq_false (p := 97 ≤ n) (by omega), decide_eq_false (p := n ≤ 57) (by omega), Bool.and_false]; rfl)
                subst e
                clear Hno Hyes hch
                go_wp2_with fail
                go_ret
                exact ⟨rfl, hb0⟩
              · have H2 := Hyes (by rw [hch, decide_eq_true (p := 48 ≤ n) (by omega), decide_eq_true (p := n ≤ 57) (by omega)]; simp)
                clear Hno Hyes hch
                go_wp2_with fail
                exact ⟨⟨k + 1, by omega, by go_num, trivial, H2⟩, by simp [Go.RowKit.intOf]; omega⟩
          · by_cases a2 : (n : Int) > 122
            · by_cases b1 : (n : Int) < 48
              · omega
              · have e := Hno (by rw [hch, decide_eq_false (p := n ≤ 122) (by omega), decide_eq_false (p := n ≤ 57) (by omega), Bool.and_false, Bool.and_false]; rfl)
                subst e
                clear Hno Hyes hch
                have b2 : (n : Int) > 57 := by omega
                go_wp2_with fail
                go_ret
                exact ⟨rfl, hb0⟩
            · have H2 := Hyes (by rw [hch, decide_eq_true (p := 97 ≤ n) (by omega), decide_eq_true (p := n ≤ 122) (by omega)]; rfl)
              clear Hno Hyes hch
              go_wp2_with fail
              exact ⟨⟨k + 1, by omega, by go_num, trivial, H2⟩, by simp [Go.RowKit.intOf]; omega⟩
        · have hlt' : ¬ (k : Int) < (s.size : Int) := by omega
          have e : R = true := by
            rw [← HR.out]
            have := HA.out
            rwa [List.take_of_length_le (by omega)] at this
          subst e
          clear hcs HA HR hcv
          go_wp2_with fail
          go_ret
          exact ⟨rfl, hb0⟩
/-- A branch that has a form. -/
def brF (x : BrD) : Bool := nmOk x.nm && (decide (x.lg.length ≤ 300) && wtl 1 1000000 x.lg)
set_option maxRecDepth 20000 in
set_option maxHeartbeats 1000000 in
theorem branchHF_any (x : BrD) (lv : Value) (w : World) (hr : RdI w lv x.lg) (hs : x.nm.size ≤ 140737488355328) (hl : x.lg.length ≤ 9223372036854775000) :
    Calls Try.prog 43 #[.agg #[.int .i64 x.i, .string x.nm, lv]] w fun e w' => e = .returned (.bool (brF x)) ∧ Below w.heap.size w w' := by
  have hal := alloc_bR w (.cells #[.int .i64 x.i, .string x.nm, lv] 50)
  have hx := heap_alloc_new w (.cells #[.int .i64 x.i, .string x.nm, lv] 50)
  obtain ⟨ao, cp, rfl⟩ := rdi_len hr
  generalize hw1 : w.alloc (.cells #[.int .i64 x.i, .string x.nm, .slice ao x.lg.length cp] 50) = w1 at *
  have q := fun (W' : World) (h : Below w1.heap.size w1 W') j => cell_of_row W' w.heap.size j _ _ (0, 0) ((h.block _ (heap_lt hx)).trans hx)
  have x1 : w1.cell? ⟨w.heap.size, 1, none⟩ = some (.string x.nm) := q w1 (Below.refl _ _) 1
  have c1 := isName_any x.nm w1 hs
  have c2 := fun W (h : Below w.heap.size w W) => withinR_any 1 1000000 _ x.lg W (hr.below h) hl
  unfold brF
  generalize nmOk x.nm = t1 at *
  generalize wtl 1 1000000 x.lg = t2 at *
  clear hx hr
  go_enter Try.func43, Try.ntmps43
  go_wp2_with fail
  refine c1.mono ?_
  rintro e w2 ⟨rfl, hb2⟩
  have x2 : w2.cell? ⟨w.heap.size, 2, none⟩ = some (.slice ao x.lg.length cp) := q w2 hb2 2
  have hB2 := hal.trans (hb2.mono hal.size)
  clear c1 q x1
  cases t1 with
  | false =>
    go_wp2_with fail
    go_ret
    exact ⟨rfl, hB2⟩
  | true =>
    by_cases h3 : (x.lg.length : Int) ≤ 300
    · have e3 : decide (x.lg.length ≤ 300) = true := decide_eq_true (by omega)
      go_wp2_with fail
      refine (c2 w2 hB2).mono ?_
      rintro e w3 ⟨rfl, hb3⟩
      go_wp2_with fail
      go_ret
      exact ⟨by rw [e3]; simp, hB2.trans (hb3.mono hB2.size)⟩
    · have e3 : decide (x.lg.length ≤ 300) = false := decide_eq_false (by omega)
      go_wp2_with fail
      go_ret
      exact ⟨rfl, hB2⟩
/-- A commit that has a form. -/
def coF (x : CoD) : Bool := decide (x.ps.length ≤ 2) && (wtl 1 1000000 x.ps && (decide (chk x.d = 0) && (decide (chk x.o = 0) && ((decide (0 ≤ x.c) && decide (x.c ≤ 8)) && (decide (0 ≤ x.s) && decide (x.s ≤ 100000))))))
set_option maxRecDepth 20000 in
set_option maxHeartbeats 2000000 in
theorem commitHF_any (x : CoD) (pv dv ov : Value) (w : World) (hr : RdI w pv x.ps) (hd : RdD w dv x.d) (ho : RdD w ov x.o) (hdl : x.d.length ≤ maxLen) (hdi : ∀ o ∈ x.d, o.In) (hol : x.o.length ≤ maxLen) (hoi : ∀ o ∈ x.o, o.In) (hl : x.ps.length ≤ 9223372036854775000) :
    Calls Try.prog 40 #[.agg #[.int .i64 x.n, pv, dv, ov, .int .i64 x.c, .int .i64 x.s]] w fun e w' => e = .returned (.bool (coF x)) ∧ Below w.heap.size w w' := by
  obtain ⟨ao, cp, rfl⟩ := rdi_len hr
  obtain ⟨ad, kd, ed, -⟩ := id hd
  subst ed
  obtain ⟨ae, ke, ee, -⟩ := id ho
  subst ee
  have hal := alloc_bR w (.cells #[.int .i64 x.n, .slice ao x.ps.length cp, .slice ad x.d.length kd, .slice ae x.o.length ke, .int .i64 x.c, .int .i64 x.s] 48)
  have hx := heap_alloc_new w (.cells #[.int .i64 x.n, .slice ao x.ps.length cp, .slice ad x.d.length kd, .slice ae x.o.length ke, .int .i64 x.c, .int .i64 x.s] 48)
  generalize hw1 : w.alloc (.cells #[.int .i64 x.n, .slice ao x.ps.length cp, .slice ad x.d.length kd, .slice ae x.o.length ke, .int .i64 x.c, .int .i64 x.s] 48) = w1 at *
  have hcell : ∀ W', Below w1.heap.size w1 W' → W'.cell? ⟨w.heap.size, 1, none⟩ = some (.slice ao x.ps.length cp) ∧ W'.cell? ⟨w.heap.size, 2, none⟩ = some (.slice ad x.d.length kd) ∧ W'.cell? ⟨w.heap.size, 3, none⟩ = some (.slice ae x.o.length ke) ∧ W'.cell? ⟨w.heap.size, 4, none⟩ = some (.int .i64 x.c) ∧ W'.cell? ⟨w.heap.size, 5, none⟩ = some (.int .i64 x.s) := fun W' h => by
    have q := fun j => cell_of_row W' w.heap.size j _ _ (0, 0) ((h.block _ (heap_lt hx)).trans hx)
    exact ⟨q 1, q 2, q 3, q 4, q 5⟩
  have low : ∀ W', Below w1.heap.size w1 W' → Below w.heap.size w W' := fun W' h => hal.trans (h.mono hal.size)
  have c1 := withinR_any 1 1000000 _ x.ps w1 (hr.below hal) hl
  have c2 := fun W (h : Below w.heap.size w W) => check_any _ x.d W (hd.below h) hdl hdi
  have c3 := fun W (h : Below w.heap.size w W) => check_any _ x.o W (ho.below h) hol hoi
  have c4 := fun W => withinR_one 0 8 x.c W
  have c5 := fun W => withinR_one 0 100000 x.s W
  obtain ⟨y1, y2, y3, y4, y5⟩ := hcell w1 (Below.refl _ _)
  unfold coF
  generalize wtl 1 1000000 x.ps = t1 at *
  generalize (decide (0 ≤ x.c) && decide (x.c ≤ 8)) = t4 at *
  generalize (decide (0 ≤ x.s) && decide (x.s ≤ 100000)) = t5 at *
  generalize chk x.d = k2 at *
  generalize chk x.o = k3 at *
  obtain ⟨R, HR⟩ : ∃ R, Hid ((decide (x.ps.length ≤ 2) && (t1 && (decide (k2 = 0) && (decide (k3 = 0) && (t4 && t5))))) = R) := ⟨_, rfl⟩
  rw [HR.out]
  clear hx hr hd ho hdi hoi
  by_cases h2 : (x.ps.length : Int) ≤ 2
  · have e2 : decide (x.ps.length ≤ 2) = true := decide_eq_true (by omega)
    rw [e2, Bool.true_and] at HR
    clear e2
    go_enter Try.func40, Try.ntmps40
    go_wp2_with fail
    refine c1.mono ?_
    rintro e w2 ⟨rfl, hb2⟩
    clear c1 y1 y2 y3 y4 y5
    obtain ⟨y1, y2, y3, y4, y5⟩ := hcell w2 hb2
    cases t1 with
    | false =>
      have e : R = false := HR.out.symm
      subst e
      clear HR
      go_wp2_with fail
      go_ret
      exact ⟨rfl, low _ hb2⟩
    | true =>
      go_wp2_with fail
      refine (c2 w2 (low _ hb2)).mono ?_
      rintro e w3 ⟨rfl, hb3⟩
      have hB3 := hb2.trans (hb3.mono hb2.size)
      clear y1 y2 y3 y4 y5 c2
      obtain ⟨y1, y2, y3, y4, y5⟩ := hcell w3 hB3
      by_cases z2 : k2 = 0
      · subst z2
        go_wp2_with fail
        refine (c3 w3 (low _ hB3)).mono ?_
        rintro e w4 ⟨rfl, hb4⟩
        have hB4 := hB3.trans (hb4.mono hB3.size)
        clear y1 y2 y3 y4 y5 c3
        obtain ⟨y1, y2, y3, y4, y5⟩ := hcell w4 hB4
        by_cases z3 : k3 = 0
        · subst z3
          go_wp2_with fail
          refine (c4 w4).mono ?_
          rintro e w5 ⟨rfl, hb5⟩
          have hB5 := hB4.trans (hb5.mono hB4.size)
          clear y1 y2 y3 y4 y5 c4
          obtain ⟨y1, y2, y3, y4, y5⟩ := hcell w5 hB5
          cases t4 with
          | false =>
            have e : R = false := HR.out.symm
            subst e
            clear HR
            go_wp2_with fail
            go_ret
            exact ⟨rfl, low _ hB5⟩
          | true =>
            have e : R = t5 := by rw [← HR.out]; simp
            subst e
            clear HR
            go_wp2_with fail
            refine (c5 w5).mono ?_
            rintro e w6 ⟨rfl, hb6⟩
            have hB6 := hB5.trans (hb6.mono hB5.size)
            go_wp2_with fail
            go_ret
            exact ⟨rfl, low _ hB6⟩
        · have e : R = false := by rw [← HR.out, decide_eq_false z3]; simp
          subst e
          have z3' : (k3 == 0) = false := beq_eq_false_iff_ne.2 z3
          clear HR
          go_wp2_with fail
          go_ret
          exact ⟨rfl, low _ hB4⟩
      · have e : R = false := by rw [← HR.out, decide_eq_false z2]; simp
        subst e
        have z2' : (k2 == 0) = false := beq_eq_false_iff_ne.2 z2
        clear HR
        go_wp2_with fail
        go_ret
        exact ⟨rfl, low _ hB3⟩
  · have e2 : decide (x.ps.length ≤ 2) = false := decide_eq_false (by omega)
    have e : R = false := by rw [← HR.out, e2]; rfl
    subst e
    clear HR e2
    go_enter Try.func40, Try.ntmps40
    go_wp2_with fail
    go_ret
    exact ⟨rfl, hal⟩
end Go.Proofs.Ytdheddgdlindmaa
