/- Own work. -/
import Derived.Test.YtblfffbmklkhmaaGreatTreeFX
import Derived.Test.YtblfffbmklkhmaaGreatLawStep
import Derived.Deep.RegionHeld3
namespace Go.Proofs.YtblfffbmklkhmaaGreat
open Go.RowKit

abbrev opBlk (kd at' X Y Z : Int) (S Tt : ByteArray) (on : Bool) : Obj := .cells #[.int .i64 kd, .int .i64 at', .int .i64 X, .int .i64 Y, .int .i64 Z, .string S, .string Tt, .bool on] 69

theorem Fr.cell {w w' : World} {S : Nat → Prop} (h : Fr w w' S) {p : Addr} (hl : p.block < w.heap.size) (hn : ¬ S p.block) : w'.cell? p = w.cell? p := by
  unfold World.cell?
  rw [h.block _ hl hn]
theorem Fr.comp {a w w1 : World} {G S : Nat → Prop} (h : Fr a w G) (k : Fr w w1 S) (hs : ∀ j, S j → G j ∨ a.heap.size ≤ j) : Fr a w1 G :=
  ⟨k.os.trans h.os, k.tape.trans h.tape, k.output.trans h.output, Nat.le_trans h.size k.size, fun i hi hn => (k.block i (Nat.lt_of_lt_of_le hi h.size) (fun x => (hs i x).elim hn (fun y => by omega))).trans (h.block i hi hn)⟩
theorem fr_drew (w : World) (S : Nat → Prop) : Fr w w.drew S := ⟨rfl, rfl, rfl, Nat.le_refl _, fun _ _ _ => rfl⟩

set_option maxHeartbeats 1000000 in
theorem errs_same (w : World) (y : Int) : Calls Tryz.prog 93 #[.int .i64 y, .int .i64 y] w fun e w' => e = .returned (.bool true) ∧ w' = w := by
  go_enter Tryz.func93, Tryz.ntmps93
  go_wp2_with fail
  refine (num_any _ y).mono ?_
  rintro e w1 ⟨rfl, rfl⟩
  obtain ⟨w, rfl⟩ : ∃ w, w = w1 := ⟨_, rfl⟩
  go_wp2_with fail
  refine (num_any _ y).mono ?_
  rintro e w1 ⟨rfl, rfl⟩
  obtain ⟨w, rfl⟩ : ∃ w, w = w1 := ⟨_, rfl⟩
  go_wp2
  go_ret
  exact ⟨by simp, rfl⟩

/-- A pair since the world w0: it lies in G and in what has been made; all else is as it was. -/
def PQ (PS : World → Value → Tree → Nat → (Nat → Prop) → Prop) (w0 : World) (G : Nat → Prop) (w : World) (b : Nat) (Tx : Tree) (mx : Nat) (Ty : Tree) (my : Nat) (px : Value) (d : Nat) (vm vy vs : Value) (cnt : Int) (held : Bool) (lm ly : List Nat) : Prop :=
  ∃ Fp Fx Fy, PJ PS w b Tx mx Ty my px d vm vy vs cnt held lm ly Fp Fx Fy ∧ (∀ k, Fp k ∨ Fx k ∨ Fy k → G k ∨ w0.heap.size ≤ k) ∧ Fr w0 w G

section
variable {PS : World → Value → Tree → Nat → (Nat → Prop) → Prop} {w0 : World} {G : Nat → Prop} {w : World} {b : Nat} {Tx : Tree} {mx : Nat} {Ty : Tree} {my : Nat} {px : Value} {d : Nat} {vm vy vs : Value} {cnt : Int} {held : Bool} {lm ly : List Nat}

theorem PQ.pb (h : PQ PS w0 G w b Tx mx Ty my px d vm vy vs cnt held lm ly) : PB w b px d vm vy cnt vs held := by
  obtain ⟨_, _, _, h, _⟩ := h
  exact h.pb
theorem PQ.fr (h : PQ PS w0 G w b Tx mx Ty my px d vm vy vs cnt held lm ly) : Fr w0 w G := by
  obtain ⟨_, _, _, _, _, h⟩ := h
  exact h
theorem PQ.drew (hP : ProgOK PS) (h : PQ PS w0 G w b Tx mx Ty my px d vm vy vs cnt held lm ly) : PQ PS w0 G w.drew b Tx mx Ty my px d vm vy vs cnt held lm ly := by
  obtain ⟨Fp, Fx, Fy, h1, h2, h3⟩ := h
  exact ⟨Fp, Fx, Fy, h1.keep hP (Nat.le_refl _) (fun _ _ => rfl), h2, h3.comp (fr_drew w (fun _ => False)) (fun _ x => x.elim)⟩
theorem PQ.prog (hP : ProgOK PS) (h : PQ PS w0 G w b Tx mx Ty my px d vm vy vs cnt held lm ly) : ∃ Fx, PS w px Tx mx Fx ∧ ∀ w1 T1 m1, PS w1 px T1 m1 (More Fx w) → Fr w w1 Fx → PQ PS w0 G w1 b T1 m1 Ty my px d vm vy vs cnt held lm ly := by
  obtain ⟨Fp, Fx, Fy, h1, h2, h3⟩ := h
  refine ⟨Fx, h1.ps, fun w1 T1 m1 hs hf => ⟨Fp, Grew Fx w w1, Fy, h1.prog hP hs hf, fun k hk => ?_, h3.comp hf (fun j hj => h2 j (Or.inr (Or.inl hj)))⟩⟩
  rcases hk with hk | hk | hk
  · exact h2 k (Or.inl hk)
  · exact hk.1.elim (fun x => h2 k (Or.inr (Or.inl x))) (fun x => Or.inr (Nat.le_trans h3.size x))
  · exact h2 k (Or.inr (Or.inr hk))
theorem PQ.ref (hP : ProgOK PS) (h : PQ PS w0 G w b Tx mx Ty my px d vm vy vs cnt held lm ly) : ∃ Fy, RS w d Ty my Fy ∧ ∀ w1 T1 m1, RS w1 d T1 m1 (More Fy w) → Fr w w1 Fy → PQ PS w0 G w1 b Tx mx T1 m1 px d vm vy vs cnt held lm ly := by
  obtain ⟨Fp, Fx, Fy, h1, h2, h3⟩ := h
  refine ⟨Fy, h1.rs, fun w1 T1 m1 hs hf => ⟨Fp, Fx, Grew Fy w w1, h1.ref hP hs hf, fun k hk => ?_, h3.comp hf (fun j hj => h2 j (Or.inr (Or.inr hj)))⟩⟩
  rcases hk with hk | hk | hk
  · exact h2 k (Or.inl hk)
  · exact h2 k (Or.inr (Or.inl hk))
  · exact hk.1.elim (fun x => h2 k (Or.inr (Or.inr x))) (fun x => Or.inr (Nat.le_trans h3.size x))
/-- The pair's own block and rows turn: the rest is as it was. -/
theorem PQ.pair (hP : ProgOK PS) (h : PQ PS w0 G w b Tx mx Ty my px d vm vy vs cnt held lm ly) {w1 : World} (hf : Fr w w1 (fun k => k = b)) {vm' vy' vs' : Value} {cnt' : Int} {held' : Bool} {lm' ly' : List Nat} (hb : PB w1 b px d vm' vy' cnt' vs' held')
    (hm : w1.ownsRow 0 3 1 vm' lm'.length (ints lm')) (hy : w1.ownsRow 0 3 1 vy' ly'.length (ints ly')) (im : ∀ j, vm'.ownBlock = some j → (vm.ownBlock = some j ∨ vy.ownBlock = some j) ∨ w.heap.size ≤ j) (iy : ∀ j, vy'.ownBlock = some j → (vm.ownBlock = some j ∨ vy.ownBlock = some j) ∨ w.heap.size ≤ j) : PQ PS w0 G w1 b Tx mx Ty my px d vm' vy' vs' cnt' held' lm' ly' := by
  obtain ⟨Fp, Fx, Fy, h1, h2, h3⟩ := h
  have hf' : Fr w w1 Fp := hf.mono (fun k hk => by rw [hk]; exact h1.inb)
  have own : ∀ j, (vm.ownBlock = some j ∨ vy.ownBlock = some j) → Fp j := fun j hj => hj.elim (h1.inm j) (h1.iny j)
  refine ⟨Grew Fp w w1, Fx, Fy, h1.pair hP hf' hb hm hy (fun j hj => (im j hj).imp (own j) id) (fun j hj => (iy j hj).imp (own j) id), fun k hk => ?_, h3.comp hf' (fun j hj => h2 j (Or.inl hj))⟩
  rcases hk with hk | hk | hk
  · exact hk.1.elim (fun x => h2 k (Or.inl x)) (fun x => Or.inr (Nat.le_trans h3.size x))
  · exact h2 k (Or.inr (Or.inl hk))
  · exact h2 k (Or.inr (Or.inr hk))
theorem PQ.must (h : PQ PS w0 G w b Tx mx Ty my px d vm vy vs cnt held lm ly) : w.ownsRow 0 3 1 vm lm.length (ints lm) := by
  obtain ⟨_, _, _, h, _⟩ := h
  exact h.must
theorem PQ.may (h : PQ PS w0 G w b Tx mx Ty my px d vm vy vs cnt held lm ly) : w.ownsRow 0 3 1 vy ly.length (ints ly) := by
  obtain ⟨_, _, _, h, _⟩ := h
  exact h.may
theorem PQ.rs (h : PQ PS w0 G w b Tx mx Ty my px d vm vy vs cnt held lm ly) : ∃ F, RS w d Ty my F := by
  obtain ⟨_, _, Fy, h, _⟩ := h
  exact ⟨Fy, h.rs⟩
/-- Another row for must, or for may. -/
theorem PQ.setMust (hP : ProgOK PS) (h : PQ PS w0 G w b Tx mx Ty my px d vm vy vs cnt held lm ly) {w1 : World} (hB : Below w.heap.size w w1) {v' : Value} {l' : List Nat} (ho : w1.ownsRow 0 3 1 v' l'.length (ints l')) (hi : ∀ j, v'.ownBlock = some j → vm.ownBlock = some j ∨ w.heap.size ≤ j) : PQ PS w0 G (w1.setCell ⟨b, 2, none⟩ v') b Tx mx Ty my px d v' vy vs cnt held l' ly := by
  have hb1 : w1.heap[b]? = _ := (hB.block b (Array.getElem?_eq_some_iff.1 h.pb.blk).1).trans h.pb.blk
  have hne := own_ne_type ho hb1 (by decide)
  have hy1 := own_below h.may hB
  refine h.pair hP (((Fr.refl w (fun k => k = b)).below hB).set (p := ⟨b, 2, none⟩) (Or.inl rfl) v') ?_ (own_set ho hne _) (own_set hy1 (own_ne_type hy1 hb1 (by decide)) _) (fun j hj => (hi j hj).imp Or.inl id) (fun j hj => Or.inl (Or.inr hj))
  show (World.setCell _ _ _).heap[b]? = _
  rw [heap_setCell_row hb1]; rfl
theorem PQ.setMay (hP : ProgOK PS) (h : PQ PS w0 G w b Tx mx Ty my px d vm vy vs cnt held lm ly) {w1 : World} (hB : Below w.heap.size w w1) {v' : Value} {l' : List Nat} (ho : w1.ownsRow 0 3 1 v' l'.length (ints l')) (hi : ∀ j, v'.ownBlock = some j → vy.ownBlock = some j ∨ w.heap.size ≤ j) : PQ PS w0 G (w1.setCell ⟨b, 3, none⟩ v') b Tx mx Ty my px d vm v' vs cnt held lm l' := by
  have hb1 : w1.heap[b]? = _ := (hB.block b (Array.getElem?_eq_some_iff.1 h.pb.blk).1).trans h.pb.blk
  have hne := own_ne_type ho hb1 (by decide)
  have hy1 := own_below h.must hB
  refine h.pair hP (((Fr.refl w (fun k => k = b)).below hB).set (p := ⟨b, 3, none⟩) (Or.inl rfl) v') ?_ (own_set hy1 (own_ne_type hy1 hb1 (by decide)) _) (own_set ho hne _) (fun j hj => Or.inl (Or.inl hj)) (fun j hj => (hi j hj).imp Or.inr id)
  show (World.setCell _ _ _).heap[b]? = _
  rw [heap_setCell_row hb1]; rfl
end

theorem LT.len {T : Tree} {l : List Nat} (h : LT T l) : l.length ≤ T.length := by
  have := nodup_len h.1 (m := T.map Prod.fst) (fun k hk => by
    obtain ⟨c, hc⟩ := h.2 k hk
    exact List.mem_map.2 ⟨_, hc, rfl⟩)
  simpa using this
theorem LT.ins {T : Tree} {l : List Nat} (h : LT T l) (p k n : Nat) : LT (tIns T p k n) l := by
  refine ⟨h.1, fun x hx => ?_⟩
  obtain ⟨c, hc⟩ := h.2 x hx
  exact ⟨if x = p then insL c k n else c, mem_tIns.2 (Or.inl ⟨(x, c), hc, rfl, rfl⟩)⟩
theorem LT.with {T : Tree} {l : List Nat} (h : LT T l) {n : Nat} {c : List Nat} (hn : (n, c) ∈ T) : LT T (withL l n) := by
  unfold withL
  split
  · exact h
  · rename_i hx
    rw [hasI_mem] at hx
    refine ⟨?_, fun k hk => ?_⟩
    · rw [List.nodup_append]
      refine ⟨h.1, by simp, fun a ha b hb => ?_⟩
      rw [List.mem_singleton] at hb
      rw [hb]
      exact fun e => hx (e ▸ ha)
    · rcases List.mem_append.1 hk with hk | hk
      · exact h.2 k hk
      · rw [List.mem_singleton] at hk
        rw [hk]
        exact ⟨c, hn⟩
theorem RS.few {w : World} {d : Nat} {T : Tree} {made : Nat} {F : Nat → Prop} (h : RS w d T made F) : T.length ≤ 24 := by
  obtain ⟨els, _, _, _, _, h1, rfl, _⟩ := h
  rw [abs_len]
  exact h1.few

end Go.Proofs.YtblfffbmklkhmaaGreat

namespace Go.Proofs.YtblfffbmklkhmaaGreat
open Go.RowKit

/-- What a step that turns a tree leaves of its pair. -/
def TurnPost (PS : World → Value → Tree → Nat → (Nat → Prop) → Prop) (w : World) (G : Nat → Prop) (b : Nat) (made : Nat) (px : Value) (d : Nat) (e : Ending) (w' : World) : Prop :=
  e = .returned (.bool true) ∧ ∃ T' made' vm' vy' vs' cnt' held' lm' ly', PQ PS w G w' b T' made' T' made' px d vm' vy' vs' cnt' held' lm' ly' ∧ TW T' made' ∧ LT T' lm' ∧ LT T' ly' ∧ made' ≤ made + 1

theorem PQ.from {PS : World → Value → Tree → Nat → (Nat → Prop) → Prop} {w : World} {o : Obj} {G : Nat → Prop} {w' : World} {b : Nat} {Tx : Tree} {mx : Nat} {Ty : Tree} {my : Nat} {px : Value} {d : Nat} {vm vy vs : Value} {cnt : Int} {held : Bool} {lm ly : List Nat} (h : PQ PS (w.alloc o) G w' b Tx mx Ty my px d vm vy vs cnt held lm ly) : PQ PS w G w' b Tx mx Ty my px d vm vy vs cnt held lm ly := by
  obtain ⟨Fp, Fx, Fy, h1, h2, h3⟩ := h
  have hsz : (w.alloc o).heap.size = w.heap.size + 1 := by simp
  exact ⟨Fp, Fx, Fy, h1, fun k hk => (h2 k hk).imp id (fun x => by omega), ⟨h3.os, h3.tape, h3.output, by have := h3.size; omega, fun k hk hn => (h3.block k (by omega) hn).trans (Below.heap_alloc w o k hk)⟩⟩
theorem PQ.alloc {PS : World → Value → Tree → Nat → (Nat → Prop) → Prop} {w : World} {G : Nat → Prop} {b : Nat} {Tx : Tree} {mx : Nat} {Ty : Tree} {my : Nat} {px : Value} {d : Nat} {vm vy vs : Value} {cnt : Int} {held : Bool} {lm ly : List Nat} {Fp Fx Fy : Nat → Prop} (hP : ProgOK PS) (h : PJ PS w b Tx mx Ty my px d vm vy vs cnt held lm ly Fp Fx Fy) (hG : ∀ k, Fp k ∨ Fx k ∨ Fy k → G k) (o : Obj) : PQ PS (w.alloc o) G (w.alloc o) b Tx mx Ty my px d vm vy vs cnt held lm ly :=
  ⟨Fp, Fx, Fy, h.keep hP (by simp) (fun k hk => Below.heap_alloc w o k (h.here k hk)), fun k hk => Or.inl (hG k hk), Fr.refl _ _⟩
/-- The step's own block is no part of the pair. -/
theorem PQ.op {PS : World → Value → Tree → Nat → (Nat → Prop) → Prop} {w : World} {o : Obj} {G : Nat → Prop} {w' : World} {b : Nat} {Tx : Tree} {mx : Nat} {Ty : Tree} {my : Nat} {px : Value} {d : Nat} {vm vy vs : Value} {cnt : Int} {held : Bool} {lm ly : List Nat} (h : PQ PS (w.alloc o) G w' b Tx mx Ty my px d vm vy vs cnt held lm ly) (hG : ∀ k, G k → k < w.heap.size) : w'.heap[w.heap.size]? = some o :=
  (h.fr.block w.heap.size (by simp) (fun x => by have := hG _ x; omega)).trans (heap_alloc_new w o)

set_option maxRecDepth 100000 in
set_option maxHeartbeats 8000000 in
theorem pinserted_any {PS : World → Value → Tree → Nat → (Nat → Prop) → Prop} (hP : ProgOK PS) (w : World) (b : Nat) (T : Tree) (made : Nat) (pa : Addr) (d : Nat) (vm vy vs : Value) (cnt : Int) (held : Bool) (lm ly : List Nat) (G Fp Fx Fy : Nat → Prop)
    (h : PJ PS w b T made T made (.pointer (some pa)) d vm vy vs cnt held lm ly Fp Fx Fy) (hG : ∀ k, Fp k ∨ Fx k ∨ Fy k → G k) (hGl : ∀ k, G k → k < w.heap.size) (hw : TW T made) (hlm : LT T lm) (hly : LT T ly) (hmade : made ≤ 1099511627776) (kd at' X Y Z : Int) (S Tt : ByteArray) (on : Bool) :
    Calls Tryz.prog 100 #[.pointer (some ⟨b, 0, none⟩), .agg #[.int .i64 kd, .int .i64 at', .int .i64 X, .int .i64 Y, .int .i64 Z, .string S, .string Tt, .bool on]] w fun e w' => TurnPost PS w G b made (.pointer (some pa)) d e w' := by
  have HP : Hid (ProgOK PS) := hP
  have HW : Hid (TW T made ∧ LT T lm ∧ LT T ly) := ⟨hw, hlm, hly⟩
  have HG : Hid (∀ k, G k → k < w.heap.size) := hGl
  have H0 : Hid (PQ PS (w.alloc (opBlk kd at' X Y Z S Tt on)) G (w.alloc (opBlk kd at' X Y Z S Tt on)).drew b T made T made (.pointer (some pa)) d vm vy vs cnt held lm ly) := (PQ.alloc hP h hG _).drew hP
  clear h hP hw hlm hly hG hGl
  obtain ⟨Fx1, hps1, hnx1⟩ := H0.out.prog HP.out
  have HPS1 : Hid (PS (w.alloc (opBlk kd at' X Y Z S Tt on)).drew (.pointer (some pa)) T made Fx1) := hps1
  have HNX1 : Hid (∀ w1 T1 m1, PS w1 (.pointer (some pa)) T1 m1 (More Fx1 (w.alloc (opBlk kd at' X Y Z S Tt on)).drew) → Fr (w.alloc (opBlk kd at' X Y Z S Tt on)).drew w1 Fx1 → PQ PS (w.alloc (opBlk kd at' X Y Z S Tt on)) G w1 b T1 m1 T made (.pointer (some pa)) d vm vy vs cnt held lm ly) := hnx1
  clear hps1 hnx1
  have HC : Hid (∀ (wx : World) Tx mx Ty my, PQ PS (w.alloc (opBlk kd at' X Y Z S Tt on)) G wx b Tx mx Ty my (.pointer (some pa)) d vm vy vs cnt held lm ly → wx.cell? ⟨b, 0, none⟩ = some (.pointer (some pa)) ∧ wx.cell? ⟨b, 1, none⟩ = some (.pointer (some ⟨d, 0, none⟩)) ∧ wx.cell? ⟨w.heap.size, 2, none⟩ = some (.int .i64 X) ∧ wx.cell? ⟨w.heap.size, 3, none⟩ = some (.int .i64 Y) ∧ wx.cell? ⟨w.heap.size, 6, none⟩ = some (.string Tt)) := fun wx Tx mx Ty my hq =>
    ⟨cell_of_blk hq.pb.blk rfl, cell_of_blk hq.pb.blk rfl, cell_of_blk (hq.op HG.out) rfl, cell_of_blk (hq.op HG.out) rfl, cell_of_blk (hq.op HG.out) rfl⟩
  go_enter Tryz.func100, Tryz.ntmps100
  go_upto_region 1 with fail
  go_cut [5, 6] (fun nv yv wx => ∃ (y n : Int) (T1 : Tree) (m1 : Nat), nv = .int .i64 n ∧ yv = .int .i64 y ∧ Hid (TIns T made X Y Tt y T1 m1 n ∧ PQ PS (w.alloc (opBlk kd at' X Y Z S Tt on)) G wx b T1 m1 T made (.pointer (some pa)) d vm vy vs cnt held lm ly))
  case first =>
    go_region_held3 (fun w' => w'.cell? ⟨b, 0, none⟩ = some (.pointer (some pa)) ∧ w'.cell? ⟨b, 1, none⟩ = some (.pointer (some ⟨d, 0, none⟩)) ∧ w'.cell? ⟨w.heap.size, 2, none⟩ = some (.int .i64 X) ∧ w'.cell? ⟨w.heap.size, 3, none⟩ = some (.int .i64 Y) ∧ w'.cell? ⟨w.heap.size, 6, none⟩ = some (.string Tt)) (first | exact HC.out _ _ _ _ _ H0.out | exact HC.out _ _ _ _ _ HT.out.2)
      (first | (go_at_call 36; refine (HP.out.ins _ (.pointer (some pa)) T made Fx1 X Y Tt HPS1.out HW.out.1 hmade).mono ?_; rintro e w1 ⟨y, T1, m1, n, rfl, hT, hps, hfr⟩; have HT : Hid (TIns T made X Y Tt y T1 m1 n ∧ PQ PS (w.alloc (opBlk kd at' X Y Z S Tt on)) G w1 b T1 m1 T made (.pointer (some pa)) d vm vy vs cnt held lm ly) := ⟨hT, HNX1.out w1 T1 m1 hps hfr⟩))
    all_goals
      go_wp2_with fail
      go_meet
      exact ⟨y, n, T1, m1, rfl, rfl, HT⟩
  case rest =>
    obtain ⟨y, n, T1, m1, rfl, rfl, HT⟩ := hcut
    obtain ⟨Fy2, hrs2, hny2⟩ := (HT.out.2.drew HP.out).ref HP.out
    have HRS2 : Hid (RS wc.drew d T made Fy2) := hrs2
    have HNY2 : Hid (∀ w1 T1' m1', RS w1 d T1' m1' (More Fy2 wc.drew) → Fr wc.drew w1 Fy2 → PQ PS (w.alloc (opBlk kd at' X Y Z S Tt on)) G w1 b T1 m1 T1' m1' (.pointer (some pa)) d vm vy vs cnt held lm ly) := hny2
    have HQ2 : Hid (PQ PS (w.alloc (opBlk kd at' X Y Z S Tt on)) G wc.drew b T1 m1 T made (.pointer (some pa)) d vm vy vs cnt held lm ly) := HT.out.2.drew HP.out
    clear hrs2 hny2 H0 HPS1 HNX1
    go_upto_region 2 with fail
    go_cut [7, 8] (fun nv yv wx => nv = .int .i64 n ∧ yv = .int .i64 y ∧ Hid (PQ PS (w.alloc (opBlk kd at' X Y Z S Tt on)) G wx b T1 m1 T1 m1 (.pointer (some pa)) d vm vy vs cnt held lm ly))
    case first =>
      go_region_held3 (fun w' => w'.cell? ⟨b, 0, none⟩ = some (.pointer (some pa)) ∧ w'.cell? ⟨b, 1, none⟩ = some (.pointer (some ⟨d, 0, none⟩)) ∧ w'.cell? ⟨w.heap.size, 2, none⟩ = some (.int .i64 X) ∧ w'.cell? ⟨w.heap.size, 3, none⟩ = some (.int .i64 Y) ∧ w'.cell? ⟨w.heap.size, 6, none⟩ = some (.string Tt)) (first | exact HC.out _ _ _ _ _ HQ2.out | exact HC.out _ _ _ _ _ HT3.out)
        (first | (go_at_call 142; refine (tinsert_any _ d T made Fy2 X Y Tt HRS2.out HW.out.1 hmade).mono ?_; rintro e w1 ⟨y', T1', m1', n', rfl, hT', hrs, hfr⟩; obtain ⟨rfl, rfl, rfl, rfl⟩ := HT.out.1.one hT'; have HT3 : Hid (PQ PS (w.alloc (opBlk kd at' X Y Z S Tt on)) G w1 b T1 m1 T1 m1 (.pointer (some pa)) d vm vy vs cnt held lm ly) := HNY2.out w1 T1 m1 hrs hfr))
      all_goals
        go_wp2_with fail
        go_meet
        exact ⟨rfl, rfl, HT3⟩
    case rest =>
      obtain ⟨rfl, rfl, HQ⟩ := hcut
      clear HQ2 HRS2 HNY2
      obtain ⟨am, cm, hvm⟩ := own_shape HQ.out.must
      subst hvm
      obtain ⟨ay, cy, hvy⟩ := own_shape HQ.out.may
      subst hvy
      go_wp2_with fail
      refine (errs_same _ y).mono ?_
      rintro e w5 ⟨rfl, rfl⟩
      obtain ⟨wd, rfl⟩ : ∃ wd, wd = w5 := ⟨_, rfl⟩
      by_cases hy : y = 0
      · subst hy
        obtain ⟨hu0, hn, hm, p, k, hu1, hu2, ⟨l, hl, hu3⟩, hT1⟩ := HT.out.1.2.resolve_left (fun x => x.1 rfl)
        subst hn hm hT1
        clear hu0 hu1 hu2 hu3
        have htw := HT.out.1.tw HW.out.1
        have hin : (made, []) ∈ tIns T p k made := mem_tIns.2 (Or.inr rfl)
        have hlm1 : LT (tIns T p k made) lm := HW.out.2.1.ins p k made
        have hly1 : LT (tIns T p k made) ly := HW.out.2.2.ins p k made
        have h24 : (tIns T p k made).length ≤ 24 := by obtain ⟨F, hF⟩ := HQ.out.rs; exact hF.few
        have hl24 : lm.length ≤ 24 := by have := hlm1.len; omega
        have hy24 : ly.length ≤ 24 := by have := hly1.len; omega
        have HL : Hid (TW (tIns T p k made) (made + 1) ∧ LT (tIns T p k made) (withL lm made) ∧ LT (tIns T p k made) (withL ly made)) := ⟨htw.1, hlm1.with hin, hly1.with hin⟩
        clear HT htw hin hlm1 hly1 hl h24
        generalize tIns T p k made = T2 at HQ HL
        have b2 : wd.cell? ⟨b, 2, none⟩ = some (.slice am lm.length cm) := cell_of_blk HQ.out.pb.blk rfl
        go_wp2_with fail
        refine (with_any wd am cm lm made HQ.out.must hl24).mono ?_
        rintro e W3 ⟨a3, c3, rfl, own3, hb3, HB3⟩
        have pb3 := (hb3.block b (Array.getElem?_eq_some_iff.1 HQ.out.pb.blk).1).trans HQ.out.pb.blk
        have e2 : W3.cell? ⟨b, 2, none⟩ = some (.slice am lm.length cm) := cell_of_blk pb3 rfl
        have ez : ∀ k, W3.frozen? ⟨b, k, none⟩ = false := fun _ => frozen_of_blk pb3
        have HQ3 : Hid (PQ PS (w.alloc (opBlk kd at' X Y Z S Tt on)) G (W3.setCell ⟨b, 2, none⟩ (.slice a3 (withL lm made).length c3)) b T2 (made + 1) T2 (made + 1) (.pointer (some pa)) d (.slice a3 (withL lm made).length c3) (.slice ay ly.length cy) vs cnt held (withL lm made) ly) := HQ.out.setMust HP.out hb3 own3 HB3.out
        clear own3 hb3 HB3 pb3 b2 HQ
        go_upto_region 7 with fail
        obtain ⟨W4, hW4⟩ : ∃ W4, W4 = W3.setCell ⟨b, 2, none⟩ (.slice a3 (withL lm made).length c3) := ⟨_, rfl⟩
        rw [← hW4] at HQ3 ⊢
        clear hW4 e2 ez
        have b3 : W4.cell? ⟨b, 3, none⟩ = some (.slice ay ly.length cy) := cell_of_blk HQ3.out.pb.blk rfl
        go_wp2_with fail
        refine (with_any W4 ay cy ly made HQ3.out.may hy24).mono ?_
        rintro e W5 ⟨a5, c5, rfl, own5, hb5, HB5⟩
        have pb5 := (hb5.block b (Array.getElem?_eq_some_iff.1 HQ3.out.pb.blk).1).trans HQ3.out.pb.blk
        have e3 : W5.cell? ⟨b, 3, none⟩ = some (.slice ay ly.length cy) := cell_of_blk pb5 rfl
        have ez : ∀ k, W5.frozen? ⟨b, k, none⟩ = false := fun _ => frozen_of_blk pb5
        have HQ5 : Hid (PQ PS (w.alloc (opBlk kd at' X Y Z S Tt on)) G (W5.setCell ⟨b, 3, none⟩ (.slice a5 (withL ly made).length c5)) b T2 (made + 1) T2 (made + 1) (.pointer (some pa)) d (.slice a3 (withL lm made).length c3) (.slice a5 (withL ly made).length c5) vs cnt held (withL lm made) (withL ly made)) := HQ3.out.setMay HP.out hb5 own5 HB5.out
        clear own5 hb5 HB5 pb5 b3 HQ3
        go_upto_region 8 with fail
        obtain ⟨W6, hW6⟩ : ∃ W6, W6 = W5.setCell ⟨b, 3, none⟩ (.slice a5 (withL ly made).length c5) := ⟨_, rfl⟩
        rw [← hW6] at HQ5 ⊢
        clear hW6 e3 ez
        have o2 : W6.cell? ⟨w.heap.size, 2, none⟩ = some (.int .i64 X) := cell_of_blk (HQ5.out.op HG.out) rfl
        obtain ⟨F6, els, hp, vT, has, vL, hR, hA, _⟩ := HQ5.out.rs
        subst hA
        obtain ⟨rk, hrk⟩ := rank_abs HL.out.1
        have HR6 : Hid (RD W6 d els (made + 1) hp vT has vL ∧ Rank els rk) := ⟨hR, hrk⟩
        clear hR hrk
        go_wp2_with fail
        refine (spoilt_any W6 b (.pointer (some pa)) d els (made + 1) hp vT has vL _ _ vs cnt held (withL ly made) X HQ5.out.pb HR6.out.1 rk HR6.out.2 HQ5.out.may (lt_ls.1 HL.out.2.2)).mono ?_
        rintro e W7 ⟨rfl, a7, c7, pb7, own7, fr7, hn7⟩
        have own7m : W7.ownsRow 0 3 1 (.slice a3 (withL lm made).length c3) (withL lm made).length (ints (withL lm made)) := own_keep HQ5.out.must (fun j hj hl => fr7.block j hl (fun e => own_ne_type HQ5.out.must HQ5.out.pb.blk (by decide) (e ▸ hj)))
        have HQ7 : Hid (PQ PS (w.alloc (opBlk kd at' X Y Z S Tt on)) G W7 b (absR els) (made + 1) (absR els) (made + 1) (.pointer (some pa)) d (.slice a3 (withL lm made).length c3) (.slice a7 (spoilL els X els (withL ly made)).length c7) vs (-1) false (withL lm made) (spoilL els X els (withL ly made))) := HQ5.out.pair HP.out fr7 pb7 own7m own7 (fun j hj => Or.inl (Or.inl hj)) (fun j hj => (hn7 j hj).imp Or.inr id)
        have HL7 : Hid (LT (absR els) (spoilL els X els (withL ly made))) := lt_ls.2 (LS.spoil X (lt_ls.1 HL.out.2.2) (fun e he => he))
        clear pb7 own7 fr7 hn7 own7m o2 HQ5
        go_wp2
        go_ret
        exact ⟨rfl, _, _, _, _, _, _, _, _, _, HQ7.out.from, HL.out.1, HL.out.2.1, HL7.out, Nat.le_refl _⟩
      · have gy : (y == 0) = false := by simp [hy]
        obtain ⟨_, _, hT1, hm1⟩ := HT.out.1.2.resolve_right (fun x => hy x.1)
        subst hT1 hm1
        clear hy
        go_wp2
        go_ret
        exact ⟨rfl, _, _, _, _, _, _, _, _, _, HQ.out.from, HW.out.1, HW.out.2.1, HW.out.2.2, Nat.le_succ _⟩

end Go.Proofs.YtblfffbmklkhmaaGreat

namespace Go.Proofs.YtblfffbmklkhmaaGreat
open Go.RowKit

theorem PQ.drewN {PS : World → Value → Tree → Nat → (Nat → Prop) → Prop} {w0 : World} {G : Nat → Prop} {w : World} {b : Nat} {Tx : Tree} {mx : Nat} {Ty : Tree} {my : Nat} {px : Value} {d : Nat} {vm vy vs : Value} {cnt : Int} {held : Bool} {lm ly : List Nat} (hP : ProgOK PS) (h : PQ PS w0 G w b Tx mx Ty my px d vm vy vs cnt held lm ly) : ∀ n, PQ PS w0 G (w.drewN n) b Tx mx Ty my px d vm vy vs cnt held lm ly
  | 0 => h
  | n + 1 => (PQ.drewN hP h n).drew hP
theorem LT.of_nums {T U : Tree} {l : List Nat} (h : LT T l) (hn : U.map Prod.fst = T.map Prod.fst) : LT U l := by
  refine ⟨h.1, fun k hk => ?_⟩
  obtain ⟨c, hc⟩ := h.2 k hk
  have h1 : k ∈ U.map Prod.fst := by rw [hn]; exact List.mem_map.2 ⟨_, hc, rfl⟩
  obtain ⟨x, hx, rfl⟩ := List.mem_map.1 h1
  exact ⟨x.2, hx⟩
theorem tMov_nums (T : Tree) (a p k : Nat) : (tMov T a p k).map Prod.fst = T.map Prod.fst := by
  unfold tMov
  rw [tSet_nums, tSet_nums]
theorem lt_only {els : List REl} {l : List Nat} (h : l.Nodup) : LT (absR els) (onlyL els l) := by
  refine ⟨h.filter _, fun k hk => ?_⟩
  have h1 := (List.mem_filter.1 hk).2
  obtain ⟨e, he⟩ := Option.isSome_iff_exists.1 h1
  obtain ⟨h2, h3⟩ := find_mem he
  exact ⟨e.kids, List.mem_map.2 ⟨e, h2, by rw [show e.num = k from by omega]⟩⟩

section
variable {PS : World → Value → Tree → Nat → (Nat → Prop) → Prop}

/-- spoilt, by pairs. -/
def SpPost (PS : World → Value → Tree → Nat → (Nat → Prop) → Prop) (w0 : World) (G : Nat → Prop) (b : Nat) (T : Tree) (made : Nat) (px : Value) (d : Nat) (vm vs : Value) (lm : List Nat) (e : Ending) (w' : World) : Prop :=
  e = .returned (.tuple #[]) ∧ ∃ vy' ly', PQ PS w0 G w' b T made T made px d vm vy' vs (-1) false lm ly' ∧ LT T ly'
theorem pspoilt_any (hP : ProgOK PS) {w0 : World} {G : Nat → Prop} {w : World} {b : Nat} {T : Tree} {made : Nat} {px : Value} {d : Nat} {vm vy vs : Value} {cnt : Int} {held : Bool} {lm ly : List Nat} (h : PQ PS w0 G w b T made T made px d vm vy vs cnt held lm ly) (hw : TW T made) (hly : LT T ly) (X : Int) :
    Calls Tryz.prog 144 #[.pointer (some ⟨b, 0, none⟩), .int .i64 X] w fun e w' => SpPost PS w0 G b T made px d vm vs lm e w' := by
  obtain ⟨F, els, hp, vT, has, vL, hR, hA, _⟩ := h.rs
  subst hA
  obtain ⟨rk, hrk⟩ := rank_abs hw
  refine (spoilt_any w b px d els made hp vT has vL vm vy vs cnt held ly X h.pb hR rk hrk h.may (lt_ls.1 hly)).mono ?_
  rintro e W7 ⟨rfl, a7, c7, pb7, own7, fr7, hn7⟩
  have own7m : W7.ownsRow 0 3 1 vm lm.length (ints lm) := own_keep h.must (fun j hj hl => fr7.block j hl (fun e => own_ne_type h.must h.pb.blk (by decide) (e ▸ hj)))
  exact ⟨rfl, _, _, h.pair hP fr7 pb7 own7m own7 (fun j hj => Or.inl (Or.inl hj)) (fun j hj => (hn7 j hj).imp Or.inr id), lt_ls.2 (LS.spoil X (lt_ls.1 hly) (fun e he => he))⟩

/-- only, by pairs. -/
def OnPost (w : World) (T : Tree) (e : Ending) (w' : World) : Prop :=
  ∃ (a : Option Addr) (c : Nat) (l' : List Nat), e = .returned (.slice a l'.length c) ∧ w'.ownsRow 0 3 1 (.slice a l'.length c) l'.length (ints l') ∧ Below w.heap.size w w' ∧ Hid ((∀ j, (Value.slice a l'.length c).ownBlock = some j → w.heap.size ≤ j) ∧ LT T l')
theorem ponly_any {w0 : World} {G : Nat → Prop} {w : World} {b : Nat} {Tx T : Tree} {mx made : Nat} {px : Value} {d : Nat} {vm vy vs : Value} {cnt : Int} {held : Bool} {lm ly : List Nat} (h : PQ PS w0 G w b Tx mx T made px d vm vy vs cnt held lm ly) (a : Option Addr) (c : Nat) (l : List Nat) (ho : w.ownsRow 0 3 1 (.slice a l.length c) l.length (ints l)) (hl : l.length ≤ 24) (hn : l.Nodup) :
    Calls Tryz.prog 146 #[.pointer (some ⟨b, 0, none⟩), .slice a l.length c] w fun e w' => OnPost w T e w' := by
  obtain ⟨F, els, hp, vT, has, vL, hR, hA, _⟩ := h.rs
  subst hA
  refine (only_any w b px d els made hp vT has vL vm vy vs cnt held a c l h.pb hR ho hl).mono ?_
  rintro e w' ⟨a', c', rfl, own, hB⟩
  exact ⟨a', c', _, rfl, own_mono own (Nat.zero_le _), hB, fun j hj => (own.lt j hj).1, lt_only hn⟩

/-- Parent, by pairs: it only reads. -/
theorem pparent_any {w0 : World} {G : Nat → Prop} {w : World} {b : Nat} {Tx T : Tree} {mx made : Nat} {px : Value} {d : Nat} {vm vy vs : Value} {cnt : Int} {held : Bool} {lm ly : List Nat} (h : PQ PS w0 G w b Tx mx T made px d vm vy vs cnt held lm ly) (X : Int) :
    Calls Tryz.prog 97 #[.pointer (some ⟨d, 0, none⟩), .int .i64 X] w fun e w' => e = .returned (.int .i64 (tPar T X)) ∧ w' = w := by
  obtain ⟨F, els, hp, vT, has, vL, hR, hA, _⟩ := h.rs
  subst hA
  rw [abs_par]
  exact parent_any w d els made hp vT has vL X hR
end

set_option maxRecDepth 100000 in
set_option maxHeartbeats 8000000 in
theorem premoved_any {PS : World → Value → Tree → Nat → (Nat → Prop) → Prop} (hP : ProgOK PS) (w : World) (b : Nat) (T : Tree) (made : Nat) (pa : Addr) (d : Nat) (vm vy vs : Value) (cnt : Int) (held : Bool) (lm ly : List Nat) (G Fp Fx Fy : Nat → Prop)
    (h : PJ PS w b T made T made (.pointer (some pa)) d vm vy vs cnt held lm ly Fp Fx Fy) (hG : ∀ k, Fp k ∨ Fx k ∨ Fy k → G k) (hGl : ∀ k, G k → k < w.heap.size) (hw : TW T made) (hlm : LT T lm) (hly : LT T ly) (at' X Y Z : Int) (S Tt : ByteArray) (on : Bool) :
    Calls Tryz.prog 101 #[.pointer (some ⟨b, 0, none⟩), .agg #[.int .i64 5, .int .i64 at', .int .i64 X, .int .i64 Y, .int .i64 Z, .string S, .string Tt, .bool on]] w fun e w' => TurnPost PS w G b made (.pointer (some pa)) d e w' := by
  have HP : Hid (ProgOK PS) := hP
  have HW : Hid (TW T made ∧ LT T lm ∧ LT T ly) := ⟨hw, hlm, hly⟩
  have HG : Hid (∀ k, G k → k < w.heap.size) := hGl
  have H0 : Hid (PQ PS (w.alloc (opBlk 5 at' X Y Z S Tt on)) G (w.alloc (opBlk 5 at' X Y Z S Tt on)) b T made T made (.pointer (some pa)) d vm vy vs cnt held lm ly) := PQ.alloc hP h hG _
  have HF24 : Hid (T.length ≤ 24) := h.rs.few
  clear h hP hw hlm hly hG hGl
  have HC : Hid (∀ (wx : World) Tx mx Ty my, PQ PS (w.alloc (opBlk 5 at' X Y Z S Tt on)) G wx b Tx mx Ty my (.pointer (some pa)) d vm vy vs cnt held lm ly → wx.cell? ⟨b, 0, none⟩ = some (.pointer (some pa)) ∧ wx.cell? ⟨b, 1, none⟩ = some (.pointer (some ⟨d, 0, none⟩)) ∧ wx.cell? ⟨w.heap.size, 2, none⟩ = some (.int .i64 X)) := fun wx Tx mx Ty my hq =>
    ⟨cell_of_blk hq.pb.blk rfl, cell_of_blk hq.pb.blk rfl, cell_of_blk (hq.op HG.out) rfl⟩
  have HFA : Hid (∀ k, Calls Tryz.prog 97 #[.pointer (some ⟨d, 0, none⟩), .int .i64 X] ((w.alloc (opBlk 5 at' X Y Z S Tt on)).drewN k) fun e w' => e = .returned (.int .i64 (tPar T X)) ∧ w' = (w.alloc (opBlk 5 at' X Y Z S Tt on)).drewN k) := fun k => pparent_any (H0.out.drewN HP.out k) X
  obtain ⟨d0, d1, d2⟩ := HC.out _ _ _ _ _ H0.out
  go_enter Tryz.func101, Tryz.ntmps101
  go_upto_region 1 with fail
  go_quiet ((go_at_call 97; exact Calls.quiet_of_same (HFA.out _)))
  have HQ0 : Hid (PQ PS (w.alloc (opBlk 5 at' X Y Z S Tt on)) G ((w.alloc (opBlk 5 at' X Y Z S Tt on)).drewN nq) b T made T made (.pointer (some pa)) d vm vy vs cnt held lm ly) := H0.out.drewN HP.out nq
  generalize (w.alloc (opBlk 5 at' X Y Z S Tt on)).drewN nq = wq at HQ0 ⊢
  clear d0 d1 d2 HFA H0
  generalize tPar T X = up
  have k0 : wq.cell? ⟨w.heap.size, 0, none⟩ = some (.int .i64 5) := cell_of_blk (HQ0.out.op HG.out) rfl
  have HQ1 : Hid (PQ PS (w.alloc (opBlk 5 at' X Y Z S Tt on)) G wq.drew b T made T made (.pointer (some pa)) d vm vy vs cnt held lm ly) := HQ0.out.drew HP.out
  obtain ⟨Fx1, hps1, hnx1⟩ := HQ1.out.prog HP.out
  have HPS1 : Hid (PS wq.drew (.pointer (some pa)) T made Fx1) := hps1
  have HNX1 : Hid (∀ w1 T1 m1, PS w1 (.pointer (some pa)) T1 m1 (More Fx1 wq.drew) → Fr wq.drew w1 Fx1 → PQ PS (w.alloc (opBlk 5 at' X Y Z S Tt on)) G w1 b T1 m1 T made (.pointer (some pa)) d vm vy vs cnt held lm ly) := hnx1
  clear hps1 hnx1 HQ0
  go_upto_region 3 with fail
  clear k0
  go_cut [6] (fun yv wx => ∃ (y : Int) (T1 : Tree), yv = .int .i64 y ∧ Hid (TRem T X y T1 ∧ PQ PS (w.alloc (opBlk 5 at' X Y Z S Tt on)) G wx b T1 made T made (.pointer (some pa)) d vm vy vs cnt held lm ly))
  case first =>
    go_region_held3 (fun w' => w'.cell? ⟨b, 0, none⟩ = some (.pointer (some pa)) ∧ w'.cell? ⟨b, 1, none⟩ = some (.pointer (some ⟨d, 0, none⟩)) ∧ w'.cell? ⟨w.heap.size, 2, none⟩ = some (.int .i64 X)) (first | exact HC.out _ _ _ _ _ HQ1.out | exact HC.out _ _ _ _ _ HT.out.2)
      (first | (go_at_call 116; refine (HP.out.rem _ (.pointer (some pa)) T made Fx1 X HPS1.out HW.out.1).mono ?_; rintro e w1 ⟨y, T1, rfl, hT, hps, hfr⟩; have HT : Hid (TRem T X y T1 ∧ PQ PS (w.alloc (opBlk 5 at' X Y Z S Tt on)) G w1 b T1 made T made (.pointer (some pa)) d vm vy vs cnt held lm ly) := ⟨hT, HNX1.out w1 T1 made hps hfr⟩))
    all_goals
      go_wp2_with fail
      go_meet
      exact ⟨y, T1, rfl, HT⟩
  case rest =>
    obtain ⟨y, T1, rfl, HT⟩ := hcut
    have HQ2 : Hid (PQ PS (w.alloc (opBlk 5 at' X Y Z S Tt on)) G wc.drew b T1 made T made (.pointer (some pa)) d vm vy vs cnt held lm ly) := HT.out.2.drew HP.out
    obtain ⟨Fy2, hrs2, hny2⟩ := HQ2.out.ref HP.out
    have HRS2 : Hid (RS wc.drew d T made Fy2) := hrs2
    have HNY2 : Hid (∀ w1 T1' m1', RS w1 d T1' m1' (More Fy2 wc.drew) → Fr wc.drew w1 Fy2 → PQ PS (w.alloc (opBlk 5 at' X Y Z S Tt on)) G w1 b T1 made T1' m1' (.pointer (some pa)) d vm vy vs cnt held lm ly) := hny2
    clear hrs2 hny2 HQ1 HPS1 HNX1
    go_upto_region 4 with fail
    go_cut [7] (fun yv wx => yv = .int .i64 y ∧ Hid (PQ PS (w.alloc (opBlk 5 at' X Y Z S Tt on)) G wx b T1 made T1 made (.pointer (some pa)) d vm vy vs cnt held lm ly))
    case first =>
      go_region_held3 (fun w' => w'.cell? ⟨b, 0, none⟩ = some (.pointer (some pa)) ∧ w'.cell? ⟨b, 1, none⟩ = some (.pointer (some ⟨d, 0, none⟩)) ∧ w'.cell? ⟨w.heap.size, 2, none⟩ = some (.int .i64 X)) (first | exact HC.out _ _ _ _ _ HQ2.out | exact HC.out _ _ _ _ _ HT3.out)
        (first | (go_at_call 145; refine (tremove_any _ d T made Fy2 X HRS2.out HW.out.1).mono ?_; rintro e w1 ⟨y', T1', rfl, hT', hrs, hfr⟩; obtain ⟨rfl, rfl⟩ := HT.out.1.one hT'; have HT3 : Hid (PQ PS (w.alloc (opBlk 5 at' X Y Z S Tt on)) G w1 b T1 made T1 made (.pointer (some pa)) d vm vy vs cnt held lm ly) := HNY2.out w1 T1 made hrs hfr))
      all_goals
        go_wp2_with fail
        go_meet
        exact ⟨rfl, HT3⟩
    case rest =>
      obtain ⟨rfl, HQ⟩ := hcut
      clear HQ2 HRS2 HNY2
      obtain ⟨am, cm, hvm⟩ := own_shape HQ.out.must
      subst hvm
      obtain ⟨ay, cy, hvy⟩ := own_shape HQ.out.may
      subst hvy
      by_cases hy : y = 0
      · subst hy
        have htw := HT.out.1.tw HW.out.1
        have h24 : T.length ≤ 24 := HF24.out
        have hl24 : lm.length ≤ 24 := by have := HW.out.2.1.len; omega
        have hy24 : ly.length ≤ 24 := by have := HW.out.2.2.len; omega
        have HTW : Hid (TW T1 made) := htw
        clear HT htw h24
        have b2 : wc.cell? ⟨b, 2, none⟩ = some (.slice am lm.length cm) := cell_of_blk HQ.out.pb.blk rfl
        go_wp2_with fail
        refine (ponly_any HQ.out am cm lm HQ.out.must hl24 HW.out.2.1.1).mono ?_
        rintro e W3 ⟨a3, c3, l3, rfl, own3, hb3, HB3⟩
        have pb3 := (hb3.block b (Array.getElem?_eq_some_iff.1 HQ.out.pb.blk).1).trans HQ.out.pb.blk
        have e2 : W3.cell? ⟨b, 2, none⟩ = some (.slice am lm.length cm) := cell_of_blk pb3 rfl
        have ez : ∀ k, W3.frozen? ⟨b, k, none⟩ = false := fun _ => frozen_of_blk pb3
        have HQ3 : Hid (PQ PS (w.alloc (opBlk 5 at' X Y Z S Tt on)) G (W3.setCell ⟨b, 2, none⟩ (.slice a3 l3.length c3)) b T1 made T1 made (.pointer (some pa)) d (.slice a3 l3.length c3) (.slice ay ly.length cy) vs cnt held l3 ly) := HQ.out.setMust HP.out hb3 own3 (fun j hj => Or.inr (HB3.out.1 j hj))
        have HL3 : Hid (LT T1 l3) := HB3.out.2
        clear own3 hb3 HB3 pb3 b2 HQ
        go_upto_region 7 with fail
        obtain ⟨W4, hW4⟩ : ∃ W4, W4 = W3.setCell ⟨b, 2, none⟩ (.slice a3 l3.length c3) := ⟨_, rfl⟩
        rw [← hW4] at HQ3 ⊢
        clear hW4 e2 ez
        have b3 : W4.cell? ⟨b, 3, none⟩ = some (.slice ay ly.length cy) := cell_of_blk HQ3.out.pb.blk rfl
        go_wp2_with fail
        refine (ponly_any HQ3.out ay cy ly HQ3.out.may hy24 HW.out.2.2.1).mono ?_
        rintro e W5 ⟨a5, c5, l5, rfl, own5, hb5, HB5⟩
        have pb5 := (hb5.block b (Array.getElem?_eq_some_iff.1 HQ3.out.pb.blk).1).trans HQ3.out.pb.blk
        have e3 : W5.cell? ⟨b, 3, none⟩ = some (.slice ay ly.length cy) := cell_of_blk pb5 rfl
        have ez : ∀ k, W5.frozen? ⟨b, k, none⟩ = false := fun _ => frozen_of_blk pb5
        have HQ5 : Hid (PQ PS (w.alloc (opBlk 5 at' X Y Z S Tt on)) G (W5.setCell ⟨b, 3, none⟩ (.slice a5 l5.length c5)) b T1 made T1 made (.pointer (some pa)) d (.slice a3 l3.length c3) (.slice a5 l5.length c5) vs cnt held l3 l5) := HQ3.out.setMay HP.out hb5 own5 (fun j hj => Or.inr (HB5.out.1 j hj))
        have HL5 : Hid (LT T1 l5) := HB5.out.2
        clear own5 hb5 HB5 pb5 b3 HQ3
        go_upto_region 8 with fail
        obtain ⟨W6, hW6⟩ : ∃ W6, W6 = W5.setCell ⟨b, 3, none⟩ (.slice a5 l5.length c5) := ⟨_, rfl⟩
        rw [← hW6] at HQ5 ⊢
        clear hW6 e3 ez
        go_wp2_with fail
        refine (pspoilt_any HP.out HQ5.out HTW.out HL5.out up).mono ?_
        rintro e W7 ⟨rfl, vy7, l7, hq7, hl7⟩
        have HQ7 : Hid (PQ PS (w.alloc (opBlk 5 at' X Y Z S Tt on)) G W7 b T1 made T1 made (.pointer (some pa)) d (.slice a3 l3.length c3) vy7 vs (-1) false l3 l7) := hq7
        have HL7 : Hid (LT T1 l7) := hl7
        clear hq7 hl7 HQ5 HL5
        go_wp2_with fail
        refine (errs_same _ 0).mono ?_
        rintro e w5 ⟨rfl, rfl⟩
        go_wp2
        go_ret
        exact ⟨rfl, _, _, _, _, _, _, _, _, _, HQ7.out.from, HTW.out, HL3.out, HL7.out, Nat.le_succ _⟩
      · have gy : (y == 0) = false := by simp [hy]
        obtain ⟨_, hT1⟩ := HT.out.1.2.resolve_right (fun x => hy x.1)
        subst hT1
        clear hy
        go_wp2_with fail
        refine (errs_same _ y).mono ?_
        rintro e w5 ⟨rfl, rfl⟩
        go_wp2
        go_ret
        exact ⟨rfl, _, _, _, _, _, _, _, _, _, HQ.out.from, HW.out.1, HW.out.2.1, HW.out.2.2, Nat.le_succ _⟩

end Go.Proofs.YtblfffbmklkhmaaGreat

namespace Go.Proofs.YtblfffbmklkhmaaGreat
open Go.RowKit

theorem TMov.nums {T : Tree} {n m at' : Int} {y : Int} {U : Tree} (h : TMov T n m at' y U) : U.map Prod.fst = T.map Prod.fst := by
  rcases h.2 with ⟨_, rfl⟩ | ⟨_, a, p, k, _, _, _, _, _, _, _, rfl⟩
  · rfl
  · exact tMov_nums T a p k

set_option maxRecDepth 100000 in
set_option maxHeartbeats 8000000 in
theorem pmoved_any {PS : World → Value → Tree → Nat → (Nat → Prop) → Prop} (hP : ProgOK PS) (w : World) (b : Nat) (T : Tree) (made : Nat) (pa : Addr) (d : Nat) (vm vy vs : Value) (cnt : Int) (held : Bool) (lm ly : List Nat) (G Fp Fx Fy : Nat → Prop)
    (h : PJ PS w b T made T made (.pointer (some pa)) d vm vy vs cnt held lm ly Fp Fx Fy) (hG : ∀ k, Fp k ∨ Fx k ∨ Fy k → G k) (hGl : ∀ k, G k → k < w.heap.size) (hw : TW T made) (hlm : LT T lm) (hly : LT T ly) (at' X Y Z : Int) (S Tt : ByteArray) (on : Bool) :
    Calls Tryz.prog 101 #[.pointer (some ⟨b, 0, none⟩), .agg #[.int .i64 6, .int .i64 at', .int .i64 X, .int .i64 Y, .int .i64 Z, .string S, .string Tt, .bool on]] w fun e w' => TurnPost PS w G b made (.pointer (some pa)) d e w' := by
  have HP : Hid (ProgOK PS) := hP
  have HW : Hid (TW T made ∧ LT T lm ∧ LT T ly) := ⟨hw, hlm, hly⟩
  have HG : Hid (∀ k, G k → k < w.heap.size) := hGl
  have H0 : Hid (PQ PS (w.alloc (opBlk 6 at' X Y Z S Tt on)) G (w.alloc (opBlk 6 at' X Y Z S Tt on)) b T made T made (.pointer (some pa)) d vm vy vs cnt held lm ly) := PQ.alloc hP h hG _
  clear h hP hw hlm hly hG hGl
  have HC : Hid (∀ (wx : World) Tx mx Ty my, PQ PS (w.alloc (opBlk 6 at' X Y Z S Tt on)) G wx b Tx mx Ty my (.pointer (some pa)) d vm vy vs cnt held lm ly → wx.cell? ⟨b, 0, none⟩ = some (.pointer (some pa)) ∧ wx.cell? ⟨b, 1, none⟩ = some (.pointer (some ⟨d, 0, none⟩)) ∧ wx.cell? ⟨w.heap.size, 2, none⟩ = some (.int .i64 X) ∧ wx.cell? ⟨w.heap.size, 3, none⟩ = some (.int .i64 Y) ∧ wx.cell? ⟨w.heap.size, 4, none⟩ = some (.int .i64 Z)) := fun wx Tx mx Ty my hq =>
    ⟨cell_of_blk hq.pb.blk rfl, cell_of_blk hq.pb.blk rfl, cell_of_blk (hq.op HG.out) rfl, cell_of_blk (hq.op HG.out) rfl, cell_of_blk (hq.op HG.out) rfl⟩
  have HFA : Hid (∀ k, Calls Tryz.prog 97 #[.pointer (some ⟨d, 0, none⟩), .int .i64 X] ((w.alloc (opBlk 6 at' X Y Z S Tt on)).drewN k) fun e w' => e = .returned (.int .i64 (tPar T X)) ∧ w' = (w.alloc (opBlk 6 at' X Y Z S Tt on)).drewN k) := fun k => pparent_any (H0.out.drewN HP.out k) X
  obtain ⟨d0, d1, d2, d3, d4⟩ := HC.out _ _ _ _ _ H0.out
  go_enter Tryz.func101, Tryz.ntmps101
  go_upto_region 1 with fail
  go_quiet ((go_at_call 97; exact Calls.quiet_of_same (HFA.out _)))
  have HQ0 : Hid (PQ PS (w.alloc (opBlk 6 at' X Y Z S Tt on)) G ((w.alloc (opBlk 6 at' X Y Z S Tt on)).drewN nq) b T made T made (.pointer (some pa)) d vm vy vs cnt held lm ly) := H0.out.drewN HP.out nq
  generalize (w.alloc (opBlk 6 at' X Y Z S Tt on)).drewN nq = wq at HQ0 ⊢
  clear d0 d1 d2 d3 d4 HFA H0
  generalize tPar T X = up
  have k0 : wq.cell? ⟨w.heap.size, 0, none⟩ = some (.int .i64 6) := cell_of_blk (HQ0.out.op HG.out) rfl
  have HQ1 : Hid (PQ PS (w.alloc (opBlk 6 at' X Y Z S Tt on)) G wq.drew b T made T made (.pointer (some pa)) d vm vy vs cnt held lm ly) := HQ0.out.drew HP.out
  obtain ⟨Fx1, hps1, hnx1⟩ := HQ1.out.prog HP.out
  have HPS1 : Hid (PS wq.drew (.pointer (some pa)) T made Fx1) := hps1
  have HNX1 : Hid (∀ w1 T1 m1, PS w1 (.pointer (some pa)) T1 m1 (More Fx1 wq.drew) → Fr wq.drew w1 Fx1 → PQ PS (w.alloc (opBlk 6 at' X Y Z S Tt on)) G w1 b T1 m1 T made (.pointer (some pa)) d vm vy vs cnt held lm ly) := hnx1
  clear hps1 hnx1 HQ0
  go_upto_region 10 with fail
  clear k0
  go_cut [8] (fun yv wx => ∃ (y : Int) (T1 : Tree), yv = .int .i64 y ∧ Hid (TMov T X Y Z y T1 ∧ PQ PS (w.alloc (opBlk 6 at' X Y Z S Tt on)) G wx b T1 made T made (.pointer (some pa)) d vm vy vs cnt held lm ly))
  case first =>
    go_region_held3 (fun w' => w'.cell? ⟨b, 0, none⟩ = some (.pointer (some pa)) ∧ w'.cell? ⟨b, 1, none⟩ = some (.pointer (some ⟨d, 0, none⟩)) ∧ w'.cell? ⟨w.heap.size, 2, none⟩ = some (.int .i64 X) ∧ w'.cell? ⟨w.heap.size, 3, none⟩ = some (.int .i64 Y) ∧ w'.cell? ⟨w.heap.size, 4, none⟩ = some (.int .i64 Z)) (first | exact HC.out _ _ _ _ _ HQ1.out | exact HC.out _ _ _ _ _ HT.out.2)
      (first | (go_at_call 119; refine (HP.out.mov _ (.pointer (some pa)) T made Fx1 X Y Z HPS1.out HW.out.1).mono ?_; rintro e w1 ⟨y, T1, rfl, hT, hps, hfr⟩; have HT : Hid (TMov T X Y Z y T1 ∧ PQ PS (w.alloc (opBlk 6 at' X Y Z S Tt on)) G w1 b T1 made T made (.pointer (some pa)) d vm vy vs cnt held lm ly) := ⟨hT, HNX1.out w1 T1 made hps hfr⟩))
    all_goals
      go_wp2_with fail
      go_meet
      exact ⟨y, T1, rfl, HT⟩
  case rest =>
    obtain ⟨y, T1, rfl, HT⟩ := hcut
    have HQ2 : Hid (PQ PS (w.alloc (opBlk 6 at' X Y Z S Tt on)) G wc.drew b T1 made T made (.pointer (some pa)) d vm vy vs cnt held lm ly) := HT.out.2.drew HP.out
    obtain ⟨Fy2, hrs2, hny2⟩ := HQ2.out.ref HP.out
    have HRS2 : Hid (RS wc.drew d T made Fy2) := hrs2
    have HNY2 : Hid (∀ w1 T1' m1', RS w1 d T1' m1' (More Fy2 wc.drew) → Fr wc.drew w1 Fy2 → PQ PS (w.alloc (opBlk 6 at' X Y Z S Tt on)) G w1 b T1 made T1' m1' (.pointer (some pa)) d vm vy vs cnt held lm ly) := hny2
    clear hrs2 hny2 HQ1 HPS1 HNX1
    go_upto_region 11 with fail
    go_cut [9] (fun yv wx => yv = .int .i64 y ∧ Hid (PQ PS (w.alloc (opBlk 6 at' X Y Z S Tt on)) G wx b T1 made T1 made (.pointer (some pa)) d vm vy vs cnt held lm ly))
    case first =>
      go_region_held3 (fun w' => w'.cell? ⟨b, 0, none⟩ = some (.pointer (some pa)) ∧ w'.cell? ⟨b, 1, none⟩ = some (.pointer (some ⟨d, 0, none⟩)) ∧ w'.cell? ⟨w.heap.size, 2, none⟩ = some (.int .i64 X) ∧ w'.cell? ⟨w.heap.size, 3, none⟩ = some (.int .i64 Y) ∧ w'.cell? ⟨w.heap.size, 4, none⟩ = some (.int .i64 Z)) (first | exact HC.out _ _ _ _ _ HQ2.out | exact HC.out _ _ _ _ _ HT3.out)
        (first | (go_at_call 147; refine (tmove_any _ d T made Fy2 X Y Z HRS2.out HW.out.1).mono ?_; rintro e w1 ⟨y', T1', rfl, hT', hrs, hfr⟩; obtain ⟨rfl, rfl⟩ := HT.out.1.one hT'; have HT3 : Hid (PQ PS (w.alloc (opBlk 6 at' X Y Z S Tt on)) G w1 b T1 made T1 made (.pointer (some pa)) d vm vy vs cnt held lm ly) := HNY2.out w1 T1 made hrs hfr))
      all_goals
        go_wp2_with fail
        go_meet
        exact ⟨rfl, HT3⟩
    case rest =>
      obtain ⟨rfl, HQ⟩ := hcut
      clear HQ2 HRS2 HNY2
      have HTW : Hid (TW T1 made ∧ LT T1 lm ∧ LT T1 ly) := ⟨HT.out.1.tw HW.out.1, HW.out.2.1.of_nums HT.out.1.nums, HW.out.2.2.of_nums HT.out.1.nums⟩
      clear HT
      by_cases hy : y = 0
      · subst hy
        go_wp2_with fail
        refine (pspoilt_any HP.out HQ.out HTW.out.1 HTW.out.2.2 up).mono ?_
        rintro e W7 ⟨rfl, vy7, l7, hq7, hl7⟩
        have HQ7 : Hid (PQ PS (w.alloc (opBlk 6 at' X Y Z S Tt on)) G W7 b T1 made T1 made (.pointer (some pa)) d vm vy7 vs (-1) false lm l7) := hq7
        have HL7 : Hid (LT T1 l7) := hl7
        clear hq7 hl7 HQ
        have o3 : W7.cell? ⟨w.heap.size, 3, none⟩ = some (.int .i64 Y) := cell_of_blk (HQ7.out.op HG.out) rfl
        go_wp2_with fail
        refine (pspoilt_any HP.out HQ7.out HTW.out.1 HL7.out Y).mono ?_
        rintro e W8 ⟨rfl, vy8, l8, hq8, hl8⟩
        have HQ8 : Hid (PQ PS (w.alloc (opBlk 6 at' X Y Z S Tt on)) G W8 b T1 made T1 made (.pointer (some pa)) d vm vy8 vs (-1) false lm l8) := hq8
        have HL8 : Hid (LT T1 l8) := hl8
        clear hq8 hl8 HQ7 HL7 o3
        go_wp2_with fail
        refine (errs_same _ 0).mono ?_
        rintro e w5 ⟨rfl, rfl⟩
        go_wp2
        go_ret
        exact ⟨rfl, _, _, _, _, _, _, _, _, _, HQ8.out.from, HTW.out.1, HTW.out.2.1, HL8.out, Nat.le_succ _⟩
      · have gy : (y == 0) = false := by simp [hy]
        clear hy
        go_wp2_with fail
        refine (errs_same _ y).mono ?_
        rintro e w5 ⟨rfl, rfl⟩
        go_wp2
        go_ret
        exact ⟨rfl, _, _, _, _, _, _, _, _, _, HQ.out.from, HTW.out.1, HTW.out.2.1, HTW.out.2.2, Nat.le_succ _⟩

end Go.Proofs.YtblfffbmklkhmaaGreat

namespace Go.Proofs.YtblfffbmklkhmaaGreat
open Go.RowKit

/-- A pair that is sound, in the set G. -/
def PD (PS : World → Value → Tree → Nat → (Nat → Prop) → Prop) (w : World) (b made : Nat) (G : Nat → Prop) : Prop :=
  ∃ T pa d vm vy vs cnt held lm ly Fp Fx Fy, PJ PS w b T made T made (.pointer (some pa)) d vm vy vs cnt held lm ly Fp Fx Fy ∧ (∀ k, Fp k ∨ Fx k ∨ Fy k → G k) ∧ (∀ k, G k → k < w.heap.size) ∧ TW T made ∧ LT T lm ∧ LT T ly

section
variable {PS : World → Value → Tree → Nat → (Nat → Prop) → Prop} {w : World} {b made : Nat} {G : Nat → Prop}
theorem PD.keep (hP : ProgOK PS) (h : PD PS w b made G) {w1 : World} (hsz : w.heap.size ≤ w1.heap.size) (hk : ∀ k, G k → w1.heap[k]? = w.heap[k]?) : PD PS w1 b made G := by
  obtain ⟨T, pa, d, vm, vy, vs, cnt, held, lm, ly, Fp, Fx, Fy, h1, h2, h3, h4, h5, h6⟩ := h
  exact ⟨T, pa, d, vm, vy, vs, cnt, held, lm, ly, Fp, Fx, Fy, h1.keep hP hsz (fun k hx => hk k (h2 k hx)), h2, fun k hx => Nat.lt_of_lt_of_le (h3 k hx) hsz, h4, h5, h6⟩
theorem PD.inb (h : PD PS w b made G) : G b := by
  obtain ⟨T, pa, d, vm, vy, vs, cnt, held, lm, ly, Fp, Fx, Fy, h1, h2, h3, h4, h5, h6⟩ := h
  exact h2 b (Or.inl h1.inb)
theorem PD.lt (h : PD PS w b made G) : ∀ k, G k → k < w.heap.size := by
  obtain ⟨T, pa, d, vm, vy, vs, cnt, held, lm, ly, Fp, Fx, Fy, h1, h2, h3, h4, h5, h6⟩ := h
  exact h3
end

def DocPost (PS : World → Value → Tree → Nat → (Nat → Prop) → Prop) (w : World) (b made : Nat) (G : Nat → Prop) (e : Ending) (w' : World) : Prop :=
  e = .returned (.bool true) ∧ ∃ made', made' ≤ made + 1 ∧ PD PS w' b made' (Grew G w w') ∧ Fr w w' G
theorem TurnPost.doc {PS : World → Value → Tree → Nat → (Nat → Prop) → Prop} {w : World} {o : Obj} {G : Nat → Prop} {b made : Nat} {pa : Addr} {d : Nat} {e : Ending} {w' : World} (h : TurnPost PS (w.alloc o) G b made (.pointer (some pa)) d e w') : DocPost PS w b made G e w' := by
  obtain ⟨he, T', made', vm', vy', vs', cnt', held', lm', ly', hq, hw, h1, h2, hm⟩ := h
  obtain ⟨Fp, Fx, Fy, hj, hg, hf⟩ := hq.from
  exact ⟨he, made', hm, ⟨T', pa, d, vm', vy', vs', cnt', held', lm', ly', Fp, Fx, Fy, hj, fun k hk => ⟨hg k hk, hj.here k hk⟩, fun k hk => hk.2, hw, h1, h2⟩, hf⟩

set_option maxRecDepth 100000 in
set_option maxHeartbeats 4000000 in
theorem pturned_any {PS : World → Value → Tree → Nat → (Nat → Prop) → Prop} (hP : ProgOK PS) (w : World) (b made : Nat) (G : Nat → Prop) (h : PD PS w b made G) (hmade : made ≤ 1099511627776) (kd at' X Y Z : Int) (S Tt : ByteArray) (on : Bool) (hk : kd = 4 ∨ kd = 5 ∨ kd = 6) :
    Calls Tryz.prog 61 #[.pointer (some ⟨b, 0, none⟩), .agg #[.int .i64 kd, .int .i64 at', .int .i64 X, .int .i64 Y, .int .i64 Z, .string S, .string Tt, .bool on]] w fun e w' => DocPost PS w b made G e w' := by
  obtain ⟨T, pa, d, vm, vy, vs, cnt, held, lm, ly, Fp, Fx, Fy, h1, h2, h3, h4, h5, h6⟩ := h
  have HJ : Hid (PJ PS (w.alloc (opBlk kd at' X Y Z S Tt on)) b T made T made (.pointer (some pa)) d vm vy vs cnt held lm ly Fp Fx Fy ∧ (∀ k, G k → k < (w.alloc (opBlk kd at' X Y Z S Tt on)).heap.size)) := ⟨h1.keep hP (by simp) (fun k hk => Below.heap_alloc w _ k (h1.here k hk)), fun k hk => by have := h3 k hk; simp; omega⟩
  have HA : Hid ((∀ k, Fp k ∨ Fx k ∨ Fy k → G k) ∧ TW T made ∧ LT T lm ∧ LT T ly) := ⟨h2, h4, h5, h6⟩
  have HP : Hid (ProgOK PS) := hP
  clear h1 h2 h3 h4 h5 h6 hP
  rcases hk with rfl | rfl | rfl
  · go_enter Tryz.func61, Tryz.ntmps61
    go_wp2_with fail
    refine (pinserted_any HP.out _ b T made pa d vm vy vs cnt held lm ly G Fp Fx Fy HJ.out.1 HA.out.1 HJ.out.2 HA.out.2.1 HA.out.2.2.1 HA.out.2.2.2 hmade 4 at' X Y Z S Tt on).mono ?_
    intro e w1 hp
    have HD : Hid (DocPost PS w b made G e w1) := TurnPost.doc hp
    obtain ⟨rfl, _⟩ := hp
    go_wp2
    go_ret
    exact HD.out
  · go_enter Tryz.func61, Tryz.ntmps61
    go_wp2_with fail
    refine (premoved_any HP.out _ b T made pa d vm vy vs cnt held lm ly G Fp Fx Fy HJ.out.1 HA.out.1 HJ.out.2 HA.out.2.1 HA.out.2.2.1 HA.out.2.2.2 at' X Y Z S Tt on).mono ?_
    intro e w1 hp
    have HD : Hid (DocPost PS w b made G e w1) := TurnPost.doc hp
    obtain ⟨rfl, _⟩ := hp
    go_wp2
    go_ret
    exact HD.out
  · go_enter Tryz.func61, Tryz.ntmps61
    go_wp2_with fail
    refine (pmoved_any HP.out _ b T made pa d vm vy vs cnt held lm ly G Fp Fx Fy HJ.out.1 HA.out.1 HJ.out.2 HA.out.2.1 HA.out.2.2.1 HA.out.2.2.2 at' X Y Z S Tt on).mono ?_
    intro e w1 hp
    have HD : Hid (DocPost PS w b made G e w1) := TurnPost.doc hp
    obtain ⟨rfl, _⟩ := hp
    go_wp2
    go_ret
    exact HD.out

end Go.Proofs.YtblfffbmklkhmaaGreat
