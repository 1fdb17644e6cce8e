/- Own work. -/
import Derived.Test.YtblfffbmklkhmaaGreatAw24
import Derived.Laws.Rows
namespace Go.Proofs.YtblfffbmklkhmaaGreat
open Go.RowKit
def cellsV (V : Nat → Int) (i : Nat) : Array Value := #[.int .i64 (if 0 < i then V 0 else 0), .int .i64 (if 1 < i then V 1 else 0), .int .i64 (if 2 < i then V 2 else 0), .int .i64 (if 3 < i then V 3 else 0), .int .i64 (if 4 < i then V 4 else 0), .int .i64 (if 5 < i then V 5 else 0), .int .i64 (if 6 < i then V 6 else 0), .int .i64 (if 7 < i then V 7 else 0), .int .i64 (if 8 < i then V 8 else 0)]
def nineV (V : Nat → Int) : Array Value := #[.int .i64 (V 0), .int .i64 (V 1), .int .i64 (V 2), .int .i64 (V 3), .int .i64 (V 4), .int .i64 (V 5), .int .i64 (V 6), .int .i64 (V 7), .int .i64 (V 8)]
theorem cellsV_set (V : Nat → Int) : ∀ i, i < 9 → (cellsV V i).set! i (.int .i64 (V i)) = cellsV V (i + 1)
  | 0, _ => rfl
  | 1, _ => rfl
  | 2, _ => rfl
  | 3, _ => rfl
  | 4, _ => rfl
  | 5, _ => rfl
  | 6, _ => rfl
  | 7, _ => rfl
  | 8, _ => rfl
  | n + 9, h => by omega
theorem cellsV_at (V : Nat → Int) : ∀ i, i < 9 → (cellsV V i)[i]? = some (.int .i64 0)
  | 0, _ => rfl
  | 1, _ => rfl
  | 2, _ => rfl
  | 3, _ => rfl
  | 4, _ => rfl
  | 5, _ => rfl
  | 6, _ => rfl
  | 7, _ => rfl
  | 8, _ => rfl
  | n + 9, h => by omega
theorem results_cell_tmp {P : Program} {fn : Func} {s u : Tmp} {t : TypeId} (h : fn.results = #[.cell s t, .tmp u]) (tmps : Array Value) {w : World} {b : Nat} (hx : tmps.getD s undef = .pointer (some ⟨b, 0, none⟩)) {cs : Array Value} {ty : TypeId} {d : TypeDesc} (hc : w.heap[b]? = some (.cells cs ty)) (hu : P.underlying t = some d) (hd : (match d with | .struct _ | .array _ _ => true | _ => false) = true) (hi : (P.info? t).map (·.size) = some cs.size) :
    (results fn tmps).run P w = .ok (.tuple #[.agg cs, tmps.getD u undef]) w := by
  have hx' : tmps[s]?.getD undef = .pointer (some ⟨b, 0, none⟩) := by simpa using hx
  simp [results, h, hx', asAddr, run_loadVar_row w b ty t cs (0, 0) d hc hu hd hi]
theorem Tryz.size9 : (Tryz.prog.info? 38).map (·.size) = some 9 := by kernel_rfl
theorem Tryz.resall : Tryz.f22.results = #[.cell 4 38, .tmp 5] := by kernel_rfl
theorem set_at {w : World} {b o : Nat} {cs cs' : Array Value} {t : TypeId} {z : Nat × Nat} {u : Value} (h : w.heap[b]? = some (.cells cs t z)) (hc : cs.setIfInBounds o u = cs') : (w.setCell ⟨b, o, none⟩ u).heap[b]? = some (.cells cs' t z) := by rw [heap_setCell_row h, hc]
theorem nine_set {w : World} {b : Nat} {t : TypeId} {z : Nat × Nat} (V : Nat → Int) (h : w.heap[b]? = some (.cells #[.int .i64 0, .int .i64 0, .int .i64 0, .int .i64 0, .int .i64 0, .int .i64 0, .int .i64 0, .int .i64 0, .int .i64 0] t z)) : (((((((((w.setCell ⟨b, 0, none⟩ (.int .i64 (V 0))).setCell ⟨b, 1, none⟩ (.int .i64 (V 1))).setCell ⟨b, 2, none⟩ (.int .i64 (V 2))).setCell ⟨b, 3, none⟩ (.int .i64 (V 3))).setCell ⟨b, 4, none⟩ (.int .i64 (V 4))).setCell ⟨b, 5, none⟩ (.int .i64 (V 5))).setCell ⟨b, 6, none⟩ (.int .i64 (V 6))).setCell ⟨b, 7, none⟩ (.int .i64 (V 7))).setCell ⟨b, 8, none⟩ (.int .i64 (V 8))).heap[b]? = some (.cells #[.int .i64 (V 0), .int .i64 (V 1), .int .i64 (V 2), .int .i64 (V 3), .int .i64 (V 4), .int .i64 (V 5), .int .i64 (V 6), .int .i64 (V 7), .int .i64 (V 8)] t z) ∧ Fr w (((((((((w.setCell ⟨b, 0, none⟩ (.int .i64 (V 0))).setCell ⟨b, 1, none⟩ (.int .i64 (V 1))).setCell ⟨b, 2, none⟩ (.int .i64 (V 2))).setCell ⟨b, 3, none⟩ (.int .i64 (V 3))).setCell ⟨b, 4, none⟩ (.int .i64 (V 4))).setCell ⟨b, 5, none⟩ (.int .i64 (V 5))).setCell ⟨b, 6, none⟩ (.int .i64 (V 6))).setCell ⟨b, 7, none⟩ (.int .i64 (V 7))).setCell ⟨b, 8, none⟩ (.int .i64 (V 8))) (fun k => k = b) := by
  have e0 := set_at (o := 0) (u := .int .i64 (V 0)) (cs' := #[.int .i64 (V 0), .int .i64 0, .int .i64 0, .int .i64 0, .int .i64 0, .int .i64 0, .int .i64 0, .int .i64 0, .int .i64 0]) h rfl
  have e1 := set_at (o := 1) (u := .int .i64 (V 1)) (cs' := #[.int .i64 (V 0), .int .i64 (V 1), .int .i64 0, .int .i64 0, .int .i64 0, .int .i64 0, .int .i64 0, .int .i64 0, .int .i64 0]) e0 rfl
  have e2 := set_at (o := 2) (u := .int .i64 (V 2)) (cs' := #[.int .i64 (V 0), .int .i64 (V 1), .int .i64 (V 2), .int .i64 0, .int .i64 0, .int .i64 0, .int .i64 0, .int .i64 0, .int .i64 0]) e1 rfl
  have e3 := set_at (o := 3) (u := .int .i64 (V 3)) (cs' := #[.int .i64 (V 0), .int .i64 (V 1), .int .i64 (V 2), .int .i64 (V 3), .int .i64 0, .int .i64 0, .int .i64 0, .int .i64 0, .int .i64 0]) e2 rfl
  have e4 := set_at (o := 4) (u := .int .i64 (V 4)) (cs' := #[.int .i64 (V 0), .int .i64 (V 1), .int .i64 (V 2), .int .i64 (V 3), .int .i64 (V 4), .int .i64 0, .int .i64 0, .int .i64 0, .int .i64 0]) e3 rfl
  have e5 := set_at (o := 5) (u := .int .i64 (V 5)) (cs' := #[.int .i64 (V 0), .int .i64 (V 1), .int .i64 (V 2), .int .i64 (V 3), .int .i64 (V 4), .int .i64 (V 5), .int .i64 0, .int .i64 0, .int .i64 0]) e4 rfl
  have e6 := set_at (o := 6) (u := .int .i64 (V 6)) (cs' := #[.int .i64 (V 0), .int .i64 (V 1), .int .i64 (V 2), .int .i64 (V 3), .int .i64 (V 4), .int .i64 (V 5), .int .i64 (V 6), .int .i64 0, .int .i64 0]) e5 rfl
  have e7 := set_at (o := 7) (u := .int .i64 (V 7)) (cs' := #[.int .i64 (V 0), .int .i64 (V 1), .int .i64 (V 2), .int .i64 (V 3), .int .i64 (V 4), .int .i64 (V 5), .int .i64 (V 6), .int .i64 (V 7), .int .i64 0]) e6 rfl
  have e8 := set_at (o := 8) (u := .int .i64 (V 8)) (cs' := #[.int .i64 (V 0), .int .i64 (V 1), .int .i64 (V 2), .int .i64 (V 3), .int .i64 (V 4), .int .i64 (V 5), .int .i64 (V 6), .int .i64 (V 7), .int .i64 (V 8)]) e7 rfl
  exact ⟨e8, ((((((((((Fr.refl w (fun k => k = b)).set (p := ⟨b, 0, none⟩) (Or.inl rfl) (.int .i64 (V 0))).set (p := ⟨b, 1, none⟩) (Or.inl rfl) (.int .i64 (V 1))).set (p := ⟨b, 2, none⟩) (Or.inl rfl) (.int .i64 (V 2))).set (p := ⟨b, 3, none⟩) (Or.inl rfl) (.int .i64 (V 3))).set (p := ⟨b, 4, none⟩) (Or.inl rfl) (.int .i64 (V 4))).set (p := ⟨b, 5, none⟩) (Or.inl rfl) (.int .i64 (V 5))).set (p := ⟨b, 6, none⟩) (Or.inl rfl) (.int .i64 (V 6))).set (p := ⟨b, 7, none⟩) (Or.inl rfl) (.int .i64 (V 7))).set (p := ⟨b, 8, none⟩) (Or.inl rfl) (.int .i64 (V 8)))⟩
/-- All values of an element. -/
def valS (M : Nat → Mk) (S : List PNd) (rs : List PRu) (n : Nat) (p : Nat) : Int := (styleV (viewT (treeS S) M) rs n).getD p 0
/-- A grove whose document bears marks of its own. -/
structure GDM (DS : World → Value → Tree → Nat → (Nat → Mk) → List PRu → (Nat → Prop) → Prop) (w : World) (g : Nat) (px vl : Value) (made b : Nat) (M : Nat → Mk) (ns : List GN) (rs : List PRu) (Fg Fx : Nat → Prop) : Prop where
  gr : GR w g px vl made b ns
  pw : PW (ns.map GN.pl) made
  ds : DS w px (treeS (ns.map GN.pl)) made M rs Fx
  inb : Fg g
  inn : ∀ n ∈ ns, Fg n.b
  inl : ∀ j, vl.ownBlock = some j → Fg j
  ink : ∀ n ∈ ns, ∀ j, n.ks.ownBlock = some j → Fg j
  gx : ∀ k, Fg k → ¬ Fx k
  here : ∀ k, Fg k ∨ Fx k → k < w.heap.size
theorem GDM.mine {DS : World → Value → Tree → Nat → (Nat → Mk) → List PRu → (Nat → Prop) → Prop} {w : World} {g : Nat} {px vl : Value} {made b : Nat} {M : Nat → Mk} {ns : List GN} {rs : List PRu} {Fg Fx : Nat → Prop} (h : GDM DS w g px vl made b M ns rs Fg Fx) {k : Nat} (hk : k = g ∨ (∃ n ∈ ns, k = n.b) ∨ vl.ownBlock = some k ∨ ∃ n ∈ ns, n.ks.ownBlock = some k) : Fg k := by
  rcases hk with rfl | ⟨n, hn, rfl⟩ | hk | ⟨n, hn, hk⟩
  · exact h.inb
  · exact h.inn n hn
  · exact h.inl k hk
  · exact h.ink n hn k hk
theorem GD.gdm {DS : World → Value → Tree → Nat → (Nat → Mk) → List PRu → (Nat → Prop) → Prop} {w : World} {g : Nat} {px vl : Value} {made b : Nat} {ns : List GN} {rs : List PRu} {Fg Fx : Nat → Prop} (h : GD DS w g px vl made b ns rs Fg Fx) : GDM DS w g px vl made b (mOf b (ns.map GN.pl)) ns rs Fg Fx := ⟨h.gr, h.pw, h.ds, h.inb, h.inn, h.inl, h.ink, h.gx, h.here⟩
theorem GDM.gd {DS : World → Value → Tree → Nat → (Nat → Mk) → List PRu → (Nat → Prop) → Prop} {w : World} {g : Nat} {px vl : Value} {made b : Nat} {ns : List GN} {rs : List PRu} {Fg Fx : Nat → Prop} (h : GDM DS w g px vl made b (mOf b (ns.map GN.pl)) ns rs Fg Fx) : GD DS w g px vl made b ns rs Fg Fx := ⟨h.gr, h.pw, h.ds, h.inb, h.inn, h.inl, h.ink, h.gx, h.here⟩
def KAllPost (DS : World → Value → Tree → Nat → (Nat → Mk) → List PRu → (Nat → Prop) → Prop) (w : World) (g : Nat) (px vl : Value) (made b : Nat) (M : Nat → Mk) (ns : List GN) (rs : List PRu) (Fg Fx : Nat → Prop) (V : Nat → Int) (e : Ending) (w' : World) : Prop :=
  e = .returned (.tuple #[.agg (nineV V), .bool true]) ∧ ∃ Fx', GDM DS w' g px vl made b M ns rs Fg Fx' ∧ (∀ k, Fx' k → Fx k ∨ w.heap.size ≤ k) ∧ Fr w w' Fx
section
set_option maxRecDepth 100000
set_option maxHeartbeats 1500000
variable {DS : World → Value → Tree → Nat → (Nat → Mk) → List PRu → (Nat → Prop) → Prop}
theorem kall_any (hP : DocOK DS) (w : World) (g : Nat) (px vl : Value) (made b : Nat) (M : Nat → Mk) (ns : List GN) (rs : List PRu) (Fg Fx : Nat → Prop) (h : GDM DS w g px vl made b M ns rs Fg Fx) (n : GN) (hn : n ∈ ns) :
    Calls Tryz.prog 22 #[.pointer (some ⟨g, 0, none⟩), .int .i64 n.num] w fun e w' => KAllPost DS w g px vl made b M ns rs Fg Fx (valS M (ns.map GN.pl) rs n.num) e w' := by
  obtain ⟨pa, rfl⟩ := hP.ptr h.ds
  have HP : Hid (DocOK DS) := hP
  have HD : Hid (GDM DS w g (.pointer (some pa)) vl made b M ns rs Fg Fx ∧ n ∈ ns) := ⟨h, hn⟩
  have HQ : Hid (∀ p, p < 9 → qryErr (treeS (ns.map GN.pl)) n.num (prB p) = 0 ∧ qryVal (treeS (ns.map GN.pl)) M rs n.num (prB p) = valS M (ns.map GN.pl) rs n.num p) := fun p hp => ⟨qryErr_in h.pw (List.mem_map.2 ⟨n, hn, rfl⟩ : n.pl ∈ ns.map GN.pl) hp, qryVal_in h.pw _ rs (List.mem_map.2 ⟨n, hn, rfl⟩ : n.pl ∈ ns.map GN.pl) hp⟩
  generalize valS M (ns.map GN.pl) rs n.num = V at HQ
  have hgl := h.gr.lt
  clear h hn hP
  go_enter Tryz.func22, Tryz.ntmps22
  go_wp2_with fail
  go_loopg [7] 9 (fun gk iv wr => ∃ i : Nat, iv = .int .i64 i ∧ i ≤ 9 ∧ 9 - i ≤ gk ∧ Hid (wr.heap[w.heap.size]? = some (.cells (cellsV V 0) 38) ∧ wr.heap[w.heap.size + 1]? = some (.cells (cellsV V i) 38) ∧ Fr w wr Fx ∧ ∃ Fx', DS wr (.pointer (some pa)) (treeS (ns.map GN.pl)) made M rs Fx' ∧ ∀ k, Fx' k → k < wr.heap.size ∧ (Fx k ∨ w.heap.size + 2 ≤ k)))
  case atStart =>
    refine ⟨0, rfl, by omega, by omega, (Below.heap_alloc (w.alloc _) _ w.heap.size (by simp)).trans (heap_alloc_new w _), ?_, ((Fr.refl w Fx).alloc _).alloc _, fun k => Fx k ∧ k < w.heap.size, ?_, fun k hk => ⟨?_, Or.inl hk.1⟩⟩
    · have := heap_alloc_new (w.alloc (.cells (cellsV V 0) 38)) (.cells (cellsV V 0) 38)
      rw [show (w.alloc (.cells (cellsV V 0) 38)).heap.size = w.heap.size + 1 from by simp] at this
      exact this
    · exact HP.out.keep (HP.out.here HD.out.1.ds) (fun k hk hl => (Below.heap_alloc (w.alloc _) _ k (by simp; omega)).trans (Below.heap_alloc w _ k hl)) (by simp; omega)
    · have := hk.2
      simp
      omega
  case round =>
    obtain ⟨i, rfl, hi, hgk, HI⟩ := hrel
    obtain ⟨hb4, hb6, hfr, Fx', hds, hin⟩ := HI.out
    have HI2 : Hid (wr.heap[w.heap.size]? = some (.cells (cellsV V 0) 38) ∧ wr.heap[w.heap.size + 1]? = some (.cells (cellsV V i) 38) ∧ Fr w wr Fx ∧ DS wr (.pointer (some pa)) (treeS (ns.map GN.pl)) made M rs Fx' ∧ ∀ k, Fx' k → k < wr.heap.size ∧ (Fx k ∨ w.heap.size + 2 ≤ k)) := ⟨hb4, hb6, hfr, hds, hin⟩
    have HGr : Hid (GR wr g (.pointer (some pa)) vl made b ns) := HD.out.1.gr.keep (fun k hl hk => hfr.block k hl (HD.out.1.gx k (HD.out.1.mine hk)))
    clear HI hfr hds hin
    by_cases hlt : i < 9
    · have hd : decide ((i : Int) < 9) = true := by simp; omega
      have HNF : Hid (∀ k, Fg k → ¬ Fx' k) := fun k hk hx => by
        have h1 := HD.out.1.here k (Or.inl hk)
        rcases (HI2.out.2.2.2.2 k hx).2 with h2 | h2
        · exact HD.out.1.gx k hk h2
        · omega
      have HC4 : Hid (∀ wx, Fr wr.drew wx Fx' → wx.cell? ⟨g, 0, none⟩ = some (.pointer (some pa))) := fun wx hf => by
        have e1 : wx.heap[g]? = wr.heap[g]? := hf.block g HGr.out.lt (HNF.out g HD.out.1.inb)
        exact cell_of_blk (e1.trans HGr.out.blk) rfl
      have H04 : Hid (Fr wr.drew wr.drew Fx') := Fr.refl _ _
      have HDS3 : Hid (DS wr.drew (.pointer (some pa)) (treeS (ns.map GN.pl)) made M rs Fx') := HP.out.keep HI2.out.2.2.2.1 (fun k _ _ => rfl) (Nat.le_refl _)
      have hwr : IntKind.i64.wrap ((i : Int) + 1) = (i : Int) + 1 := by rw [IntKind.wrap_i64]; omega
      have hpa : (0 : Int) ≤ (i : Int) := by omega
      have hpb : (i : Int) ≤ (i : Int) + 1 := by omega
      have hpc : (i : Int) + 1 ≤ 9 := by omega
      have hpd : (i : Int) + 1 ≤ ((⟨#[65, 66, 67, 68, 69, 70, 88, 89, 90]⟩ : ByteArray).size : Int) := hpc
      have hpe : (0 : Int) ≤ (i : Int) + 1 := by omega
      have hii : (i : Int) < 9 := by omega
      clear hb4 hb6
      go_upto_region 5 with fail
      go_cut [8, 9] from 10 to 32 (fun v yv wx => v = .int .i64 (V i) ∧ yv = .int .i64 0 ∧ Hid (DS wx (.pointer (some pa)) (treeS (ns.map GN.pl)) made M rs (More Fx' wr.drew) ∧ Fr wr.drew wx Fx'))
      case first =>
        go_region_held3 (fun w' => w'.cell? ⟨g, 0, none⟩ = some (.pointer (some pa))) (first | exact HC4.out _ H04.out | exact HC4.out _ HX.out.2)
          (first | (go_at_call 37; refine (HP.out.qry _ (.pointer (some pa)) (treeS (ns.map GN.pl)) made M rs Fx' n.num (prB i) HDS3.out).mono ?_; rw [(HQ.out i hlt).1, (HQ.out i hlt).2]; rintro e w5 ⟨rfl, hds, hf5⟩; have HX : Hid (DS w5 (.pointer (some pa)) (treeS (ns.map GN.pl)) made M rs (More Fx' wr.drew) ∧ Fr wr.drew w5 Fx') := ⟨hds, hf5⟩; clear hds hf5))
        all_goals
          go_wp2_with fail
          go_meet
          exact ⟨rfl, rfl, HX⟩
      case rest =>
        obtain ⟨rfl, rfl, HX⟩ := hcut
        obtain ⟨W4, rfl⟩ : ∃ W4, W4 = wc := ⟨_, rfl⟩
        have hszr : w.heap.size + 2 ≤ wr.heap.size := by have := (Array.getElem?_eq_some_iff.1 HI2.out.2.1).1; omega
        have hno : ∀ k, w.heap.size ≤ k → k < w.heap.size + 2 → ¬ Fx' k := fun k h1 h2 hx => by
          rcases (HI2.out.2.2.2.2 k hx).2 with h3 | h3
          · have := HD.out.1.here k (Or.inr h3); omega
          · omega
        have HB4 : Hid (W4.heap[w.heap.size]? = some (.cells (cellsV V 0) 38)) := (HX.out.2.block w.heap.size (by show w.heap.size < wr.heap.size; omega) (hno _ (Nat.le_refl _) (by omega))).trans HI2.out.1
        have HB6 : Hid (W4.heap[w.heap.size + 1]? = some (.cells (cellsV V i) 38)) := (HX.out.2.block (w.heap.size + 1) (by show w.heap.size + 1 < wr.heap.size; omega) (hno _ (by omega) (by omega))).trans HI2.out.2.1
        have x6 : W4.cell? ⟨w.heap.size + 1, i, none⟩ = some (.int .i64 0) := cell_of_blk HB6.out (cellsV_at V i hlt)
        have x6f : W4.frozen? ⟨w.heap.size + 1, i, none⟩ = false := frozen_of_blk HB6.out
        have hl6 : w.heap.size + 1 < W4.heap.size := (Array.getElem?_eq_some_iff.1 HB6.out).1
        have HE : Hid ((W4.setCell ⟨w.heap.size + 1, i, none⟩ (.int .i64 (V i))).heap[w.heap.size]? = some (.cells (cellsV V 0) 38) ∧ (W4.setCell ⟨w.heap.size + 1, i, none⟩ (.int .i64 (V i))).heap[w.heap.size + 1]? = some (.cells (cellsV V (i + 1)) 38) ∧ Fr w (W4.setCell ⟨w.heap.size + 1, i, none⟩ (.int .i64 (V i))) Fx ∧ ∃ Fx', DS (W4.setCell ⟨w.heap.size + 1, i, none⟩ (.int .i64 (V i))) (.pointer (some pa)) (treeS (ns.map GN.pl)) made M rs Fx' ∧ ∀ k, Fx' k → k < (W4.setCell ⟨w.heap.size + 1, i, none⟩ (.int .i64 (V i))).heap.size ∧ (Fx k ∨ w.heap.size + 2 ≤ k)) := by
          refine ⟨(Below.heap_setCell W4 ⟨w.heap.size + 1, i, none⟩ _ w.heap.size (fun e => by replace e : w.heap.size = w.heap.size + 1 := e; omega)).trans HB4.out, ?_, ?_, fun k => More Fx' wr.drew k ∧ k < W4.heap.size, ?_, fun k hk => ⟨by have := hk.2; simpa using this, ?_⟩⟩
          · rw [heap_setCell_row HB6.out]
            have := cellsV_set V i hlt
            simp only [Array.set!] at this
            rw [this]
          · refine Fr.set (p := ⟨w.heap.size + 1, i, none⟩) ?_ (Or.inr (by show w.heap.size ≤ w.heap.size + 1; omega)) _
            exact HI2.out.2.2.1.drew1.comp HX.out.2 (fun k hk => ((HI2.out.2.2.2.2 k hk).2).imp id (fun h => by omega))
          · refine HP.out.keep (HP.out.here HX.out.1) (fun k hk hl => Below.heap_setCell W4 ⟨w.heap.size + 1, i, none⟩ _ k (fun e => ?_)) (by simp)
            replace e : k = w.heap.size + 1 := e
            rcases hk.1 with h1 | h1
            · exact hno k (by omega) (by omega) h1
            · have h3 : wr.heap.size ≤ k := h1
              omega
          · rcases hk.1 with h1 | h1
            · exact (HI2.out.2.2.2.2 k h1).2
            · have h3 : wr.heap.size ≤ k := h1
              exact Or.inr (by omega)
        clear HX HI2 HB4 HB6 HC4 H04 HDS3 HGr
        go_wp2
        go_roundg (9 - (i + 1))
        case measure => omega
        case rel => exact ⟨i + 1, by go_num, by omega, Nat.le_refl _, HE⟩
    · have hd : decide ((i : Int) < 9) = false := by simp; omega
      obtain rfl : i = 9 := by omega
      have HB6 : Hid (wr.heap[w.heap.size + 1]? = some (.cells (nineV V) 38)) := hb6
      have HB4 : Hid (wr.heap[w.heap.size]? = some (.cells (cellsV V 0) 38)) := hb4
      have y0 : wr.cell? ⟨w.heap.size + 1, 0, none⟩ = some (.int .i64 (V 0)) := cell_of_blk hb6 rfl
      have x0 : wr.cell? ⟨w.heap.size, 0, none⟩ = some (.int .i64 0) := cell_of_blk hb4 rfl
      have x0f : wr.frozen? ⟨w.heap.size, 0, none⟩ = false := frozen_of_blk hb4
      have y1 : wr.cell? ⟨w.heap.size + 1, 1, none⟩ = some (.int .i64 (V 1)) := cell_of_blk hb6 rfl
      have x1 : wr.cell? ⟨w.heap.size, 1, none⟩ = some (.int .i64 0) := cell_of_blk hb4 rfl
      have x1f : wr.frozen? ⟨w.heap.size, 1, none⟩ = false := frozen_of_blk hb4
      have y2 : wr.cell? ⟨w.heap.size + 1, 2, none⟩ = some (.int .i64 (V 2)) := cell_of_blk hb6 rfl
      have x2 : wr.cell? ⟨w.heap.size, 2, none⟩ = some (.int .i64 0) := cell_of_blk hb4 rfl
      have x2f : wr.frozen? ⟨w.heap.size, 2, none⟩ = false := frozen_of_blk hb4
      have y3 : wr.cell? ⟨w.heap.size + 1, 3, none⟩ = some (.int .i64 (V 3)) := cell_of_blk hb6 rfl
      have x3 : wr.cell? ⟨w.heap.size, 3, none⟩ = some (.int .i64 0) := cell_of_blk hb4 rfl
      have x3f : wr.frozen? ⟨w.heap.size, 3, none⟩ = false := frozen_of_blk hb4
      have y4 : wr.cell? ⟨w.heap.size + 1, 4, none⟩ = some (.int .i64 (V 4)) := cell_of_blk hb6 rfl
      have x4 : wr.cell? ⟨w.heap.size, 4, none⟩ = some (.int .i64 0) := cell_of_blk hb4 rfl
      have x4f : wr.frozen? ⟨w.heap.size, 4, none⟩ = false := frozen_of_blk hb4
      have y5 : wr.cell? ⟨w.heap.size + 1, 5, none⟩ = some (.int .i64 (V 5)) := cell_of_blk hb6 rfl
      have x5 : wr.cell? ⟨w.heap.size, 5, none⟩ = some (.int .i64 0) := cell_of_blk hb4 rfl
      have x5f : wr.frozen? ⟨w.heap.size, 5, none⟩ = false := frozen_of_blk hb4
      have y6 : wr.cell? ⟨w.heap.size + 1, 6, none⟩ = some (.int .i64 (V 6)) := cell_of_blk hb6 rfl
      have x6 : wr.cell? ⟨w.heap.size, 6, none⟩ = some (.int .i64 0) := cell_of_blk hb4 rfl
      have x6f : wr.frozen? ⟨w.heap.size, 6, none⟩ = false := frozen_of_blk hb4
      have y7 : wr.cell? ⟨w.heap.size + 1, 7, none⟩ = some (.int .i64 (V 7)) := cell_of_blk hb6 rfl
      have x7 : wr.cell? ⟨w.heap.size, 7, none⟩ = some (.int .i64 0) := cell_of_blk hb4 rfl
      have x7f : wr.frozen? ⟨w.heap.size, 7, none⟩ = false := frozen_of_blk hb4
      have y8 : wr.cell? ⟨w.heap.size + 1, 8, none⟩ = some (.int .i64 (V 8)) := cell_of_blk hb6 rfl
      have x8 : wr.cell? ⟨w.heap.size, 8, none⟩ = some (.int .i64 0) := cell_of_blk hb4 rfl
      have x8f : wr.frozen? ⟨w.heap.size, 8, none⟩ = false := frozen_of_blk hb4
      have hl4 : w.heap.size < wr.heap.size := (Array.getElem?_eq_some_iff.1 hb4).1
      have hl6 : w.heap.size + 1 < wr.heap.size := (Array.getElem?_eq_some_iff.1 hb6).1
      clear hb4 hb6
      have HW : Hid ((((((((((wr.setCell ⟨w.heap.size, 0, none⟩ (.int .i64 (V 0))).setCell ⟨w.heap.size, 1, none⟩ (.int .i64 (V 1))).setCell ⟨w.heap.size, 2, none⟩ (.int .i64 (V 2))).setCell ⟨w.heap.size, 3, none⟩ (.int .i64 (V 3))).setCell ⟨w.heap.size, 4, none⟩ (.int .i64 (V 4))).setCell ⟨w.heap.size, 5, none⟩ (.int .i64 (V 5))).setCell ⟨w.heap.size, 6, none⟩ (.int .i64 (V 6))).setCell ⟨w.heap.size, 7, none⟩ (.int .i64 (V 7))).setCell ⟨w.heap.size, 8, none⟩ (.int .i64 (V 8))).heap[w.heap.size]? = some (.cells (nineV V) 38) ∧ Fr wr (((((((((wr.setCell ⟨w.heap.size, 0, none⟩ (.int .i64 (V 0))).setCell ⟨w.heap.size, 1, none⟩ (.int .i64 (V 1))).setCell ⟨w.heap.size, 2, none⟩ (.int .i64 (V 2))).setCell ⟨w.heap.size, 3, none⟩ (.int .i64 (V 3))).setCell ⟨w.heap.size, 4, none⟩ (.int .i64 (V 4))).setCell ⟨w.heap.size, 5, none⟩ (.int .i64 (V 5))).setCell ⟨w.heap.size, 6, none⟩ (.int .i64 (V 6))).setCell ⟨w.heap.size, 7, none⟩ (.int .i64 (V 7))).setCell ⟨w.heap.size, 8, none⟩ (.int .i64 (V 8))) (fun k => k = w.heap.size)) := nine_set V HB4.out
      go_wp2
      clear x0 x0f y0 x1 x1f y1 x2 x2f y2 x3 x3f y3 x4 x4f y4 x5 x5f y5 x6 x6f y6 x7 x7f y7 x8 x8f y8 hl4 hl6 HB4 HB6
      generalize (((((((((wr.setCell ⟨w.heap.size, 0, none⟩ (.int .i64 (V 0))).setCell ⟨w.heap.size, 1, none⟩ (.int .i64 (V 1))).setCell ⟨w.heap.size, 2, none⟩ (.int .i64 (V 2))).setCell ⟨w.heap.size, 3, none⟩ (.int .i64 (V 3))).setCell ⟨w.heap.size, 4, none⟩ (.int .i64 (V 4))).setCell ⟨w.heap.size, 5, none⟩ (.int .i64 (V 5))).setCell ⟨w.heap.size, 6, none⟩ (.int .i64 (V 6))).setCell ⟨w.heap.size, 7, none⟩ (.int .i64 (V 7))).setCell ⟨w.heap.size, 8, none⟩ (.int .i64 (V 8))) = WN at HW ⊢
      have z0 : WN.cell? ⟨w.heap.size, 0, none⟩ = some (.int .i64 (V 0)) := cell_of_blk HW.out.1 rfl
      have z1 : WN.cell? ⟨w.heap.size, 1, none⟩ = some (.int .i64 (V 1)) := cell_of_blk HW.out.1 rfl
      have z2 : WN.cell? ⟨w.heap.size, 2, none⟩ = some (.int .i64 (V 2)) := cell_of_blk HW.out.1 rfl
      have z3 : WN.cell? ⟨w.heap.size, 3, none⟩ = some (.int .i64 (V 3)) := cell_of_blk HW.out.1 rfl
      have z4 : WN.cell? ⟨w.heap.size, 4, none⟩ = some (.int .i64 (V 4)) := cell_of_blk HW.out.1 rfl
      have z5 : WN.cell? ⟨w.heap.size, 5, none⟩ = some (.int .i64 (V 5)) := cell_of_blk HW.out.1 rfl
      have z6 : WN.cell? ⟨w.heap.size, 6, none⟩ = some (.int .i64 (V 6)) := cell_of_blk HW.out.1 rfl
      have z7 : WN.cell? ⟨w.heap.size, 7, none⟩ = some (.int .i64 (V 7)) := cell_of_blk HW.out.1 rfl
      have z8 : WN.cell? ⟨w.heap.size, 8, none⟩ = some (.int .i64 (V 8)) := cell_of_blk HW.out.1 rfl
      have hlN : w.heap.size < WN.heap.size := (Array.getElem?_eq_some_iff.1 HW.out.1).1
      have HR : Hid (KAllPost DS w g (.pointer (some pa)) vl made b M ns rs Fg Fx V (.returned (.tuple #[.agg #[.int .i64 (V 0), .int .i64 (V 1), .int .i64 (V 2), .int .i64 (V 3), .int .i64 (V 4), .int .i64 (V 5), .int .i64 (V 6), .int .i64 (V 7), .int .i64 (V 8)], .bool true])) WN) := by
        have hzN := HW.out.2.size
        have hzw : w.heap.size ≤ wr.heap.size := HI2.out.2.2.1.size
        refine ⟨rfl, Fx', ⟨HGr.out.keep (fun k hl hk => HW.out.2.block k hl (fun e => ?_)), HD.out.1.pw, HP.out.keep HI2.out.2.2.2.1 (fun k hk hl => HW.out.2.block k hl (fun e => ?_)) hzN, HD.out.1.inb, HD.out.1.inn, HD.out.1.inl, HD.out.1.ink, fun k hk hx => ?_, fun k hk => ?_⟩, fun k hk => (HI2.out.2.2.2.2 k hk).2.imp id (fun h => by omega), HI2.out.2.2.1.comp HW.out.2 (fun j hj => Or.inr (by rw [hj]; exact Nat.le_refl _))⟩
        · have := HD.out.1.here k (Or.inl (HD.out.1.mine hk))
          omega
        · rcases (HI2.out.2.2.2.2 k hk).2 with h3 | h3
          · have := HD.out.1.here k (Or.inr h3); omega
          · omega
        · have h1 := HD.out.1.here k (Or.inl hk)
          rcases (HI2.out.2.2.2.2 k hx).2 with h2 | h2
          · exact HD.out.1.gx k hk h2
          · omega
        · rcases hk with hk | hk
          · have := HD.out.1.here k (Or.inl hk); omega
          · have := (HI2.out.2.2.2.2 k hk).1; omega
      have HN9 : Hid (WN.heap[w.heap.size]? = some (.cells #[.int .i64 (V 0), .int .i64 (V 1), .int .i64 (V 2), .int .i64 (V 3), .int .i64 (V 4), .int .i64 (V 5), .int .i64 (V 6), .int .i64 (V 7), .int .i64 (V 8)] 38)) := HW.out.1
      clear HW HI2 HGr
      exact bodyPost_ret (results_cell_tmp Tryz.resall _ rfl HN9.out Tryz.underlying38 rfl Tryz.size9) rfl HR.out
end
end Go.Proofs.YtblfffbmklkhmaaGreat

namespace Go.Proofs.YtblfffbmklkhmaaGreat
open Go.RowKit
theorem nineV_at (V : Nat → Int) : ∀ i, i < 9 → (nineV V)[i]? = some (.int .i64 (V i))
  | 0, _ => rfl
  | 1, _ => rfl
  | 2, _ => rfl
  | 3, _ => rfl
  | 4, _ => rfl
  | 5, _ => rfl
  | 6, _ => rfl
  | 7, _ => rfl
  | 8, _ => rfl
  | n + 9, h => by omega
section
set_option maxRecDepth 100000
set_option maxHeartbeats 1500000
theorem ksame_any (w : World) (V U : Nat → Int) (h : ∀ p, p < 9 → V p = U p) : Calls Tryz.prog 23 #[.agg (nineV V), .agg (nineV U)] w fun e w' => e = .returned (.bool true) ∧ Below w.heap.size w w' := by
  have HE : Hid (∀ p, p < 9 → V p = U p) := h
  clear h
  show Calls Tryz.prog 23 #[.agg #[.int .i64 (V 0), .int .i64 (V 1), .int .i64 (V 2), .int .i64 (V 3), .int .i64 (V 4), .int .i64 (V 5), .int .i64 (V 6), .int .i64 (V 7), .int .i64 (V 8)], .agg #[.int .i64 (U 0), .int .i64 (U 1), .int .i64 (U 2), .int .i64 (U 3), .int .i64 (U 4), .int .i64 (U 5), .int .i64 (U 6), .int .i64 (U 7), .int .i64 (U 8)]] w _
  go_enter Tryz.func23, Tryz.ntmps23
  go_wp2_with fail
  have HB : Hid (Below w.heap.size w ((w.alloc (.cells (nineV V) 38)).alloc (.cells (nineV U) 38))) := ((Below.refl _ _).alloc (Nat.le_refl _) _).alloc (by simp) _
  have h1 : ((w.alloc (.cells (nineV V) 38)).alloc (.cells (nineV U) 38)).heap[w.heap.size]? = some (.cells (nineV V) 38) := (Below.heap_alloc (w.alloc _) _ w.heap.size (by simp)).trans (heap_alloc_new w _)
  have h2 : ((w.alloc (.cells (nineV V) 38)).alloc (.cells (nineV U) 38)).heap[w.heap.size + 1]? = some (.cells (nineV U) 38) := by
    have := heap_alloc_new (w.alloc (.cells (nineV V) 38)) (.cells (nineV U) 38)
    rw [show (w.alloc (.cells (nineV V) 38)).heap.size = w.heap.size + 1 from by simp] at this
    exact this
  have H12 : Hid (((w.alloc (.cells (nineV V) 38)).alloc (.cells (nineV U) 38)).heap[w.heap.size]? = some (.cells (nineV V) 38) ∧ ((w.alloc (.cells (nineV V) 38)).alloc (.cells (nineV U) 38)).heap[w.heap.size + 1]? = some (.cells (nineV U) 38)) := ⟨h1, h2⟩
  clear h1 h2
  change Code.wp _ _ _ _ ((w.alloc (.cells (nineV V) 38)).alloc (.cells (nineV U) 38))
  generalize (w.alloc (.cells (nineV V) 38)).alloc (.cells (nineV U) 38) = W1 at HB H12 ⊢
  go_loopg [5] 9 (fun gk iv wr => ∃ i : Nat, iv = .int .i64 i ∧ i ≤ 9 ∧ 9 - i ≤ gk ∧ Hid (∃ k, wr = W1.drewN k))
  case atStart => exact ⟨0, rfl, by omega, by omega, 0, rfl⟩
  case round =>
    obtain ⟨i, rfl, hi, hgk, HI⟩ := hrel
    obtain ⟨k, hk⟩ := HI.out
    have HB2 : Hid (Below w.heap.size w wr) := by unfold Hid; rw [hk]; exact below_draws HB.out k
    have h1 : wr.heap[w.heap.size]? = some (.cells (nineV V) 38) := by rw [hk]; exact H12.out.1
    have h2 : wr.heap[w.heap.size + 1]? = some (.cells (nineV U) 38) := by rw [hk]; exact H12.out.2
    have HK : Hid (∀ j, ∃ k, wr.drewN j = W1.drewN k) := fun j => ⟨k + j, by rw [hk, World.drewN_drewN]⟩
    by_cases hlt : i < 9
    · have hd : decide ((i : Int) < 9) = true := by simp; omega
      have x1 : wr.cell? ⟨w.heap.size, i, none⟩ = some (.int .i64 (U i)) := by rw [cell_of_blk h1 (nineV_at V i hlt), HE.out i hlt]
      have x2 : wr.cell? ⟨w.heap.size + 1, i, none⟩ = some (.int .i64 (U i)) := cell_of_blk h2 (nineV_at U i hlt)
      have l1 : w.heap.size < wr.heap.size := (Array.getElem?_eq_some_iff.1 h1).1
      have l2 : w.heap.size + 1 < wr.heap.size := (Array.getElem?_eq_some_iff.1 h2).1
      have hii : (i : Int) < 9 := by omega
      have hi0 : (0 : Int) ≤ (i : Int) := by omega
      clear h1 h2 hk
      generalize U i = u at x1 x2
      go_upto_region 4 with fail
      go_quiet (fail)
      go_wp2
      go_roundg (9 - (i + 1))
      case measure => omega
      case rel => exact ⟨i + 1, by go_num, by omega, Nat.le_refl _, HK.out _⟩
    · have hd : decide ((i : Int) < 9) = false := by simp; omega
      clear hk h1 h2
      go_wp2
      go_ret
      exact ⟨rfl, HB2.out⟩
end
end Go.Proofs.YtblfffbmklkhmaaGreat
