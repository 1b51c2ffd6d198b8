/-
  The contract of Take.
-/
import Derived.Test.YtdkhfehoohiflaaNtI
namespace Go.Proofs.Ytdkhfehoohiflaa.nt
open Go.Maps Go.WideShapes Go.RowKit Go.ChangeShapes Go.ChangeAt Go.PlainAid

theorem results_cell2 {P : Program} {fn : Func} {p a : Tmp} {ty : TypeId} (h : fn.results = #[.cell p ty, .tmp a]) (tmps : Array Value) (w : World) (g : Nat) (t : TypeId) (cs : Array Value) (fr : Nat × Nat) (d : TypeDesc)
    (hp : tmps.getD p undef = .pointer (some ⟨g, 0, none⟩)) (hg : w.heap[g]? = some (.cells cs t fr))
    (hu : P.underlying ty = some d) (hd : (match d with | .struct _ | .array _ _ => true | _ => false) = true) (hi : (P.info? ty).map (·.size) = some cs.size) (x : Value) (hx : tmps.getD a undef = x) :
    (results fn tmps).run P w = .ok (.tuple #[.agg cs, x]) w := by
  have hp' : tmps[p]?.getD undef = .pointer (some ⟨g, 0, none⟩) := by simpa using hp
  have hx' : tmps[a]?.getD undef = x := by simpa using hx
  simp [results, h, hp', hx', asAddr, run_loadVar_row w g t ty cs fr d hg hu hd hi]

def noL : LtD := ⟨0, ⟨#[]⟩⟩
/-- What Take gives, answers and leaves. -/
def NtS.tkV (N : NtS) (i : Int) : LtD := if N.hasI i = true then (N.L[i.toNat]?).getD noL else noL
def NtS.tkE (N : NtS) (i : Int) : Int := if N.hasI i = true then 0 else 171
def NtS.tkL (N : NtS) (i : Int) : List LtD := if N.hasI i = true then N.L.eraseIdx i.toNat else N.L

theorem cnt_erase {L : List LtD} {k : Nat} {x : LtD} (h : L[k]? = some x) : cnt (L.eraseIdx k) x + 1 = cnt L x ∧ ∀ y, y ≠ x → cnt (L.eraseIdx k) y = cnt L y := by
  obtain ⟨hk, hx⟩ := List.getElem?_eq_some_iff.1 h
  have e : L = L.take k ++ x :: L.drop (k + 1) := by
    rw [← hx, ← List.drop_eq_getElem_cons hk, List.take_append_drop]
  have e2 : L.eraseIdx k = L.take k ++ L.drop (k + 1) := List.eraseIdx_eq_take_drop_succ ..
  unfold cnt
  refine ⟨?_, fun y hy => ?_⟩
  · rw [e2, List.count_append]
    conv => rhs; rw [e, List.count_append, List.count_cons_self]
    omega
  · rw [e2, List.count_append]
    conv => rhs; rw [e, List.count_append, List.count_cons_of_ne (fun e => hy e.symm)]

/-- Take on its way: the row has gone, the map counts C. -/
structure TkI (w W : World) (N : NtS) (u : Value) (L C : List LtD) (n : Nat) (x : LtD) : Prop where
  bx : W.heap[N.p]? = some (.cells #[.int .i64 N.room, u, .map (some N.mb)] 60)
  row : W.ownsRow 0 37 2 u L.length (lcs L)
  ub : u.ownBlock = N.u.ownBlock
  map : Cnt W N.mb n C
  rb : LB W w.heap.size noL
  lb : LB W (w.heap.size + 1) x
  on : Only N.bl w W
theorem TkI.cells {w W : World} {N : NtS} {u : Value} {L C : List LtD} {n : Nat} {x : LtD} (h : TkI w W N u L C n x) : W.cell? ⟨N.p, 0, none⟩ = some (.int .i64 N.room) ∧ W.cell? ⟨N.p, 1, none⟩ = some u ∧ W.cell? ⟨N.p, 2, none⟩ = some (.map (some N.mb)) :=
  ⟨cell_of_row _ _ 0 _ _ (0, 0) h.bx, cell_of_row _ _ 1 _ _ (0, 0) h.bx, cell_of_row _ _ 2 _ _ (0, 0) h.bx⟩
theorem TkI.drew {w W : World} {N : NtS} {u : Value} {L C : List LtD} {n : Nat} {x : LtD} (h : TkI w W N u L C n x) : TkI w W.drew N u L C n x :=
  ⟨h.bx, own_only h.row (Only.drew [] _) (by simp), h.ub, h.map.only (Only.drew [] _) (by simp), h.rb, h.lb, h.on.trans (Only.drew _ _)⟩
/-- The map alone has turned. -/
theorem TkI.mp {w W W' : World} {N : NtS} {u : Value} {L C C' : List LtD} {n n' : Nat} {x : LtD} (hN : IsNet w N) (h : TkI w W N u L C n x) (ho : Only [N.mb] W W') (hc : Cnt W' N.mb n' C') : TkI w W' N u L C' n' x := by
  have hap := hN.apart
  have hlt := hN.lt N.mb (by simp [NtS.bl])
  refine ⟨only_heap h.bx ho (by simp; exact hap.1), own_only h.row ho (fun g hg => ?_), h.ub, hc, h.rb.only ho (by simp; omega), h.lb.only ho (by simp; omega), h.on.trans (ho.mono (by simp [NtS.bl]))⟩
  rw [h.ub] at hg
  simp
  rintro rfl
  exact hap.2.2 hg

set_option maxRecDepth 20000 in
set_option maxHeartbeats 1000000 in
theorem take_no (N : NtS) (i : Int) (w : World) (h : IsNet w N) (hI : N.hasI i = false) :
    Calls Try.prog 15 #[.pointer (some ⟨N.p, 0, none⟩), .int .i64 i] w fun e w' => e = .returned (.tuple #[noL.v, .int .i64 171]) ∧ Below w.heap.size w w' := by
  have hb : Below w.heap.size w (w.alloc (.cells #[.int .i64 0, .string ⟨#[]⟩] 37)) := (Below.refl _ w).alloc (Nat.le_refl _) _
  have hl := lb_new w noL
  have hh := has_any N i _ (h.below hb)
  rw [hI] at hh
  obtain ⟨y0, y1, y2, y3⟩ := hl.facts
  unfold LtD.v noL at *
  go_enter Try.func15, Try.ntmps15
  go_wp2_with (go_at_call 29; refine hh.mono ?_; rintro e w0 ⟨rfl, rfl⟩)
  refine bodyPost_ret (results_cell2 rfl _ _ w.heap.size 37 _ (0, 0) _ rfl hl Try.underlying37 rfl Try.sizeLt (.int .i64 171) rfl) rfl ?_
  exact ⟨rfl, hb⟩

theorem tk_bx {W W' : World} {N : NtS} {v : Value} (h : IsNet W N) (hu : N.u = v) (ho : Only v.ownBlock.toList W W') : W'.heap[N.p]? = some (.cells #[.int .i64 N.room, N.u, .map (some N.mb)] 60) := by
  rw [← hu] at ho
  exact only_heap h.bx ho (by simp; exact h.apart.2.1)

theorem tk_in {w W2 w3 : World} {N : NtS} {v u' : Value} {k : Nat} {x : LtD} (h : IsNet w N) (hN2 : IsNet W2 N) (hl : LB W2 w.heap.size noL) (hx : LB W2 (w.heap.size + 1) x) (hb : Below w.heap.size w W2) (hu : N.u = v) (hk : k < N.L.length)
    (hub : u'.ownBlock = v.ownBlock) (hr : w3.ownsRow 0 37 2 u' (N.L.length - 1) (lcs (N.L.eraseIdx k))) (ho : Only v.ownBlock.toList W2 w3) (hbx : w3.heap[N.p]? = some (.cells #[.int .i64 N.room, N.u, .map (some N.mb)] 60)) :
    TkI w (w3.setCell ⟨N.p, 1, none⟩ u') N u' (N.L.eraseIdx k) N.L N.n x := by
  subst hu
  have hap := h.apart
  have hlt := h.lt
  have hp := hlt N.p (by simp [NtS.bl])
  have hmb := hlt N.mb (by simp [NtS.bl])
  have o2 : Only [N.p] w3 (w3.setCell ⟨N.p, 1, none⟩ u') := Only.setCell w3 (p := ⟨N.p, 1, none⟩) (by simp) _
  have hg : ∀ g, N.u.ownBlock = some g → g < w.heap.size := fun g hg => hlt g (by simp [NtS.bl, hg])
  refine ⟨heap_setCell hbx 1 _, ?_, hub, ?_, ?_, ?_, ?_⟩
  · have := own_only hr o2 (fun g hg => by rw [hub] at hg; simp; rintro rfl; exact hap.2.1 hg)
    rw [List.length_eraseIdx_of_lt hk]
    exact this
  · exact (hN2.map.only ho (by simp; exact hap.2.2)).only o2 (by simp; exact fun e => hap.1 e.symm)
  · exact (hl.only ho (by simp; intro e; have := hg _ e; omega)).only o2 (by simp; omega)
  · exact (hx.only ho (by simp; intro e; have := hg _ e; omega)).only o2 (by simp; omega)
  · exact ((Only.of_below hb).trans (ho.mono (fun j hj => by simp at hj; simp [NtS.bl, hj]))).trans (o2.mono (by simp [NtS.bl]))

theorem tk_out {w W W' : World} {N : NtS} {u : Value} {k : Nat} {x y : LtD} (h : IsNet w N) (hk : k < N.L.length) (hj : TkI w W N u (N.L.eraseIdx k) (N.L.eraseIdx k) (N.n + 1) x) (hb : Below W.heap.size W W') :
    ∃ N', Aft w ((W'.setCell ⟨w.heap.size, 0, none⟩ (.int .i64 y.to)).setCell ⟨w.heap.size, 1, none⟩ (.string y.t)) N (N.L.eraseIdx k) N' := by
  have hlt := h.lt
  have hap := h.apart
  have hp := hlt N.p (by simp [NtS.bl])
  have hmb := hlt N.mb (by simp [NtS.bl])
  have o2 : Only [w.heap.size] W' ((W'.setCell ⟨w.heap.size, 0, none⟩ (.int .i64 y.to)).setCell ⟨w.heap.size, 1, none⟩ (.string y.t)) := (Only.setCell (p := ⟨w.heap.size, 0, none⟩) W' (by simp) _).trans (Only.setCell (p := ⟨w.heap.size, 1, none⟩) _ (by simp) _)
  have o1 : Only [w.heap.size] W ((W'.setCell ⟨w.heap.size, 0, none⟩ (.int .i64 y.to)).setCell ⟨w.heap.size, 1, none⟩ (.string y.t)) := (Only.of_below hb).trans o2
  refine ⟨{ N with u := u, L := N.L.eraseIdx k, n := N.n + 1 }, ⟨only_heap hj.bx o1 (by simp; omega), own_only hj.row o1 (fun g hg => ?_), hj.map.only o1 (by simp; omega), fun z hz => h.ok z ((List.eraseIdx_sublist _ _).subset hz), h.rm, ?_⟩, rfl, rfl, rfl, rfl, Nat.le_refl _, ?_, ?_⟩
  · rw [hj.ub] at hg
    have := hlt g (by simp [NtS.bl, hg])
    simp; omega
  · have := h.len
    show (((N.L.eraseIdx k).length : Nat) : Int) ≤ N.room
    rw [List.length_eraseIdx_of_lt hk]
    omega
  · exact hj.on.new o1 (fun i hi => .inr (by simp at hi; omega))
  · intro g hg
    exact .inl (by rw [hj.ub] at hg; simp [NtS.bl, hg])

set_option maxRecDepth 20000 in
set_option maxHeartbeats 1000000 in
theorem take_ok (N : NtS) (k : Nat) (x : LtD) (w : World) (h : IsNet w N) (hx : N.L[k]? = some x) (hn : N.n < 1152921504606846976) :
    Calls Try.prog 15 #[.pointer (some ⟨N.p, 0, none⟩), .int .i64 (k : Int)] w fun e w' => e = .returned (.tuple #[x.v, .int .i64 0]) ∧ ∃ N', Aft w w' N (N.L.eraseIdx k) N' := by
  obtain ⟨hk, hxe⟩ := List.getElem?_eq_some_iff.1 hx
  have hk' : (k : Int) < (N.L.length : Int) := by omega
  have hSm : x.Sm := h.ok x (by rw [← hxe]; simp)
  have hlen : N.L.length ≤ 3000 := by have := h.len; have := h.rm; omega
  have hb : Below w.heap.size w (w.alloc (.cells #[.int .i64 0, .string ⟨#[]⟩] 37)) := (Below.refl _ w).alloc (Nat.le_refl _) _
  have hl := lb_new w noL
  have hN1 := h.below hb
  have hh := has_any N (k : Int) _ hN1
  rw [hasI_iff.2 ⟨by omega, hk'⟩] at hh
  have hs1 : (w.alloc (.cells #[.int .i64 0, .string ⟨#[]⟩] 37)).heap.size = w.heap.size + 1 := by simp
  have hx2 := lb_new (w.alloc (.cells #[.int .i64 0, .string ⟨#[]⟩] 37)) x
  rw [hs1] at hx2
  have hb2 : Below w.heap.size w ((w.alloc (.cells #[.int .i64 0, .string ⟨#[]⟩] 37)).alloc (.cells #[.int .i64 x.to, .string x.t] 37)) := hb.alloc (by simp) _
  have hl2 := hl.alloc (.cells #[.int .i64 x.to, .string x.t] 37)
  have hN2 := h.below hb2
  have hdl := fun W hr => delete_any N.u N.L k W hr hk hlen
  obtain ⟨-, c1, -, -⟩ := hN1.cells
  obtain ⟨-, c2, -, c3⟩ := hN2.cells
  obtain ⟨ao, cp, hu⟩ := own_form h.row
  obtain ⟨b, off, rfl, hbw, d0, d1⟩ := rdl_cells hu (rdl_own hN1.row) hx
  rw [hu] at c1 c2 hdl
  have HU : Hid (N.u = .slice (some ⟨b, off, none⟩) N.L.length cp) := hu
  clear hu
  go_enter Try.func15, Try.ntmps15
  go_wp2_with (first | (go_at_call 29; refine hh.mono ?_; rintro e w0 ⟨rfl, rfl⟩) | (go_at_call 30; refine (hdl _ (by have := hN2.row; rw [HU.out] at this; exact this)).mono ?_; rintro e w3 ⟨u', rfl, hub, hrow3, ho3⟩; obtain ⟨a9, c9, rfl⟩ := own_form hrow3; have hbx3 := tk_bx hN2 HU.out ho3; obtain ⟨-, f1, f2, f3⟩ := IsNet.cells_of hbx3))
  have hI : TkI w (w3.setCell ⟨N.p, 1, none⟩ (.slice a9 (N.L.length - 1) c9)) N (.slice a9 (N.L.length - 1) c9) (N.L.eraseIdx k) N.L N.n x := tk_in h hN2 hl2 hx2 hb2 HU.out hk hub hrow3 ho3 hbx3
  generalize Value.slice a9 (N.L.length - 1) c9 = u9 at *
  generalize w3.setCell ⟨N.p, 1, none⟩ u9 = w4 at *
  clear hb hl hN1 hh hs1 hx2 hb2 hl2 hN2 hdl c1 c2 c3 d0 d1 hbw hub hrow3 ho3 hbx3 f1 f2 f3
  obtain ⟨e1, e2⟩ := cnt_erase hx
  have hcl := cnt_le N.L x
  have hI5 := hI.drew
  have hlk := hI5.map.look hSm.wf
  obtain ⟨v0, st, w5, hE, ho5, hC5, w6, hS, hM6, ho6⟩ := hI5.map.put (M := N.L.eraseIdx k) (by unfold maxLen; omega) hSm.wf e2 (by omega)
  have hj : TkI w w5 N u9 (N.L.eraseIdx k) N.L (N.n + 1) x := hI5.mp h ho5 hC5
  have hj6 : TkI w w6 N u9 (N.L.eraseIdx k) (N.L.eraseIdx k) (N.n + 1) x := hI5.mp h ho6 hM6
  have hlk5 := hC5.look hSm.wf
  have eN : (cnt (N.L.eraseIdx k) x : Int) = (cnt N.L x : Int) - 1 := by omega
  rw [eN] at hS
  have hS' : (Instr.entryStore 58 (.map (some N.mb)) (.int .i64 st) (.int .i64 ((cnt N.L x : Int) - 1))).run Try.prog w5 = .ok () w6 := hS
  unfold LtD.v at hE hlk hlk5
  have hE' : (Instr.mapEntry 58 (.map (some N.mb)) (.agg #[.int .i64 x.to, .string x.t])).run Try.prog w4.drew = .ok (.tuple #[v0, .int .i64 st]) w5 := hE
  obtain ⟨-, -, d2⟩ := hI.cells
  obtain ⟨-, -, g2⟩ := hj.cells
  obtain ⟨y0, y1, -, -⟩ := hI.lb.facts
  obtain ⟨z0, z1, -, -⟩ := hj.lb.facts
  clear hE hS e1 e2
  go_region
  clear hE' hS' hlk hlk5 hI hI5 hj ho5 hC5 ho6 hM6 d2 g2 y0 y1 z0 z1 eN
  have hj7 := hj6.drew
  have hlk := hj7.map.look hSm.wf
  have hcp := fun W => copyOf_any x W (by have := hSm.2; omega)
  obtain ⟨-, -, d2⟩ := hj6.cells
  obtain ⟨y0, y1, -, -⟩ := hj6.lb.facts
  unfold LtD.v at hlk hcp
  by_cases hz : cnt (N.L.eraseIdx k) x = 0
  · rw [hz] at hlk
    go_wp2_with fail
    go_region
    obtain ⟨w8, hd8, hc8, ho8⟩ := hj7.drew.map.drop hSm.wf hz 0
    have hj8 := hj7.drew.mp h ho8 hc8
    unfold LtD.v at hd8
    clear hlk hz hj6
    generalize w6.drew = w7 at *
    obtain ⟨-, -, d2⟩ := hj7.cells
    obtain ⟨y0, y1, -, -⟩ := hj7.lb.facts
    go_wp2_with fail
    go_region
    obtain ⟨y0, y1, -, -⟩ := hj8.lb.facts
    clear hd8 hc8 ho8 d2 hj7
    go_wp2_with (go_at_call 27; refine (hcp _).mono ?_; rintro e w9 ⟨rfl, hb8⟩; obtain ⟨z0, z1, z2, z3⟩ := (hj8.rb.below hb8).facts)
    refine bodyPost_ret (results_cell2 rfl _ _ w.heap.size 37 _ (0, 0) _ rfl (LB.set (hj8.rb.below hb8) x) Try.underlying37 rfl Try.sizeLt (.int .i64 0) rfl) rfl ?_
    exact ⟨rfl, tk_out h hk hj8 hb8⟩
  · have hz' : (((cnt (N.L.eraseIdx k) x : Nat) : Int) == 0) = false := beq_eq_false_iff_ne.2 (by omega)
    go_wp2_with fail
    go_region
    obtain ⟨y0, y1, -, -⟩ := hj7.lb.facts
    clear hlk d2 hz hz' hj6
    generalize w6.drew = w7 at *
    go_wp2_with (go_at_call 27; refine (hcp _).mono ?_; rintro e w8 ⟨rfl, hb8⟩; obtain ⟨z0, z1, z2, z3⟩ := (hj7.rb.below hb8).facts)
    refine bodyPost_ret (results_cell2 rfl _ _ w.heap.size 37 _ (0, 0) _ rfl (LB.set (hj7.rb.below hb8) x) Try.underlying37 rfl Try.sizeLt (.int .i64 0) rfl) rfl ?_
    exact ⟨rfl, tk_out h hk hj7 hb8⟩

theorem take_any (N : NtS) (i : Int) (w : World) (h : IsNet w N) (hn : N.n < 1152921504606846976) :
    Calls Try.prog 15 #[.pointer (some ⟨N.p, 0, none⟩), .int .i64 i] w fun e w' => e = .returned (.tuple #[(N.tkV i).v, .int .i64 (N.tkE i)]) ∧ ∃ N', Aft w w' N (N.tkL i) N' := by
  by_cases hI : N.hasI i = true
  · obtain ⟨k, rfl⟩ := Int.eq_ofNat_of_zero_le (hasI_iff.1 hI).1
    have hk : k < N.L.length := by have := (hasI_iff.1 hI).2; omega
    have e1 : N.tkV k = N.L[k] := by unfold NtS.tkV; rw [if_pos hI]; simp [hk]
    have e2 : N.tkE k = 0 := by unfold NtS.tkE; rw [if_pos hI]
    have e3 : N.tkL k = N.L.eraseIdx k := by unfold NtS.tkL; rw [if_pos hI]; simp
    rw [e1, e2, e3]
    exact take_ok N k N.L[k] w h (by simp [hk]) hn
  · have hI' : N.hasI i = false := by simpa using hI
    have e1 : N.tkV i = noL := by unfold NtS.tkV; rw [if_neg hI]
    have e2 : N.tkE i = 171 := by unfold NtS.tkE; rw [if_neg hI]
    have e3 : N.tkL i = N.L := by unfold NtS.tkL; rw [if_neg hI]
    rw [e1, e2, e3]
    refine (take_no N i w h hI').mono ?_
    rintro e w1 ⟨rfl, hb⟩
    exact ⟨rfl, N, Aft.same h hb⟩
end Go.Proofs.Ytdkhfehoohiflaa.nt
