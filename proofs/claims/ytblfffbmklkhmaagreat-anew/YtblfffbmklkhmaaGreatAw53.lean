/- Own work. -/
import Derived.Test.YtblfffbmklkhmaaGreatAw52
import Derived.Test.YtblfffbmklkhmaaGreatAw26
import Derived.Test.YtblfffbmklkhmaaGreatAw49
import Derived.Test.YtblfffbmklkhmaaGreatAw6
namespace Go.Proofs.YtblfffbmklkhmaaGreat
open Go.RowKit
def SzP (x : PNd) : Prop := isLetter x.kind = true ∧ (x.name.size = 0 ∨ isLetter x.name = true) ∧ (x.num = 0 → x.kind = letB 0)
def SzS (S : List PNd) (made : Nat) : Prop := 1 ≤ made ∧ ∀ x ∈ S, SzP x
theorem SzS.szok {S : List PNd} {made : Nat} (h : SzS S made) : SzOK S := fun x hx => ⟨(h.2 x hx).1, (h.2 x hx).2.1⟩
theorem upd_pres {P : PNd → Prop} {S : List PNd} {k : Nat} {f : PNd → PNd} (hf : ∀ x, P x → P (f x)) (h : ∀ x ∈ S, P x) : ∀ y ∈ updS S k f, P y := by
  intro y hy
  obtain ⟨x, hx, rfl⟩ := mem_updS.1 hy
  split
  · exact hf x (h x hx)
  · exact h x hx
theorem szp_kids {x : PNd} (l : List Nat) (h : SzP x) : SzP { x with kids := l } := h
theorem sz_name (Y : Int) : (nameOf 0 Y).size = 0 ∨ isLetter (nameOf 0 Y) = true := by
  unfold nameOf
  split
  · exact Or.inr (isLetter_letB _)
  · exact Or.inl rfl
theorem szp_setC {x : PNd} (k : Nat) (on : Bool) (h : SzP x) : SzP (x.setC k on) := by unfold PNd.setC; (repeat' split) <;> exact h
theorem sz_step (last : Int) (S : List PNd) (made : Nat) (kd X Y Z : Int) (h : SzS S made) : SzS (stepS 0 last S made kd X Y Z).1 (stepS 0 last S made kd X Y Z).2 := by
  obtain ⟨hm, h⟩ := h
  unfold stepS
  split
  · exact ⟨hm, h⟩
  split
  · unfold insertS
    split
    · exact ⟨hm, h⟩
    · refine ⟨by show 1 ≤ made + 1; omega, fun y hy => ?_⟩
      have hy' : y ∈ insS S made (pickS S X).num (pickZ Y ((pickS S X).kids.length + 1)) (letB (pickZ Z 4 + 0)) := hy
      unfold insS at hy'
      rw [List.mem_append, List.mem_singleton] at hy'
      rcases hy' with hy | rfl
      · exact upd_pres (P := SzP) (fun x hx => szp_kids _ hx) h y hy
      · exact ⟨isLetter_letB _, Or.inl rfl, fun e => by have : made = 0 := e; omega⟩
  split
  · refine ⟨hm, ?_⟩
    show ∀ x ∈ removeS S X, SzP x
    unfold removeS
    split
    · exact h
    · unfold remS
      exact upd_pres (P := SzP) (fun x hx => szp_kids _ hx) (fun x hx => h x (List.mem_filter.1 hx).1)
  split
  · refine ⟨hm, ?_⟩
    show ∀ x ∈ moveS S X Y Z, SzP x
    unfold moveS
    split
    · exact h
    split
    · exact h
    · unfold movS
      exact upd_pres (P := SzP) (fun x hx => hx) (upd_pres (P := SzP) (fun x hx => szp_kids _ hx) (upd_pres (P := SzP) (fun x hx => szp_kids _ hx) h))
  split
  · refine ⟨hm, ?_⟩
    show ∀ x ∈ markS 0 S kd X Y, SzP x
    unfold markS
    split
    · exact upd_pres (P := SzP) (fun x hx => ⟨hx.1, sz_name Y, hx.2.2⟩) h
    · exact upd_pres (P := SzP) (fun x hx => szp_setC _ _ hx) h
  · exact ⟨hm, h⟩
theorem sz_grow (last : Int) (K X Y Z : Nat → Int) (S : List PNd) (made : Nat) (h : SzS S made) : ∀ i, SzS (growS 0 last K X Y Z S made i).1 (growS 0 last K X Y Z S made i).2
  | 0 => h
  | i + 1 => sz_step last _ _ _ _ _ _ (sz_grow last K X Y Z S made h i)
theorem sz_root : SzS [rootS 0] 1 := by
  refine ⟨Nat.le_refl _, fun x hx => ?_⟩
  rw [List.mem_singleton] at hx
  subst hx
  exact ⟨isLetter_letB _, Or.inl rfl, fun _ => rfl⟩
theorem rank_top (T : Tree) (rk : Nat → Nat) : ∃ N, ∀ e ∈ T, rk e.1 ≤ N := by
  induction T with
  | nil => exact ⟨0, fun _ h => by cases h⟩
  | cons x T ih =>
    obtain ⟨N, hN⟩ := ih
    refine ⟨N + rk x.1, fun e he => ?_⟩
    rcases List.mem_cons.1 he with rfl | he
    · omega
    · have := hN e he
      omega
section
variable {DS : World → Value → Tree → Nat → (Nat → Mk) → List PRu → (Nat → Prop) → Prop}
theorem copied_any (hP : DocOK DS) (w0 : World) (g : Nat) (px vl : Value) (made : Nat) (ns : List GN) (rs : List PRu) (Fg Fx : Nat → Prop) (g2 : Nat) (pa2 : Addr) (vl2 : Value) (rs2 : List PRu) (Fg2 : Nat → Prop) (hpw : PW (ns.map GN.pl) made) (hsz : SzOK (ns.map GN.pl)) (x : GN) (hx : x ∈ ns) : CopOK DS w0 g px vl made ns rs Fg Fx g2 pa2 vl2 rs2 Fg2 x := by
  obtain ⟨rk, hrk⟩ := hpw.tw.rank
  obtain ⟨N, hN⟩ := rank_top (treeS (ns.map GN.pl)) rk
  have hm : ∀ y ∈ ns, (y.num, y.kids) ∈ treeS (ns.map GN.pl) := fun y hy => mem_treeS (List.mem_map.2 ⟨y, hy, rfl⟩ : y.pl ∈ ns.map GN.pl)
  have key : ∀ (n : Nat) (y : GN), y ∈ ns → N - rk y.num < n → CopOK DS w0 g px vl made ns rs Fg Fx g2 pa2 vl2 rs2 Fg2 y := fun n => by
    induction n with
    | zero => intro y _ h; omega
    | succ n ih =>
      intro y hy hn
      refine copied_step DS w0 g px vl made ns rs Fg Fx g2 pa2 vl2 rs2 Fg2 hP hsz y hy (fun c hc hk => ih c hc ?_)
      have h1 := hrk _ (hm y hy) c.num hk
      have h2 := hN _ (hm c hc)
      have h1' : rk y.num < rk c.num := h1
      have h2' : rk c.num ≤ N := h2
      omega
  exact key _ x hx (Nat.lt_succ_self _)
variable {w0 w w' : World} {g : Nat} {px vl : Value} {made b : Nat} {ns : List GN} {rs : List PRu} {Fg Fx : Nat → Prop} {g2 : Nat} {px2 vl2 : Value} {mb b2 : Nat} {T2 : Tree} {made2 : Nat} {M2 : Nat → Mk} {rs2 : List PRu} {Fg2 Fx2 : Nat → Prop} {vp : Value} {ps : List (Nat × Nat)}
theorem Cs.all1 (hP : DocOK DS) (h : Cs DS w0 w g px vl made b ns rs Fg Fx g2 px2 vl2 mb b2 T2 made2 M2 rs2 Fg2 Fx2 vp ps) {Fx' : Nat → Prop} (h1 : GDM DS w' g px vl made b (mOf b (ns.map GN.pl)) ns rs Fg Fx') (hin : ∀ k, Fx' k → Fx k ∨ w.heap.size ≤ k) (hf : Fr w w' Fx) : Cs DS w0 w' g px vl made b ns rs Fg Fx' g2 px2 vl2 mb b2 T2 made2 M2 rs2 Fg2 Fx2 vp ps := by
  refine ⟨GDM.gd h1, h.two.apart hP hf (fun k hk hx => h.ap k (Or.inr hx) hk), fun k hk hx => ?_, fun k hk => ?_, h.nb, own_keepB h.row (fun k hk hl => hf.block k hl (fun hx => h.out k hk (Or.inl (Or.inr hx)))), fun k hk hx => ?_, h.bl.trans (hf.toBel h.bl.size (fun k hk => h.na k (Or.inr hk)))⟩
  · rcases hk with hk | hk
    · exact h.ap k (Or.inl hk) hx
    · rcases hin k hk with h2 | h2
      · exact h.ap k (Or.inr h2) hx
      · have := h.two.here k hx; omega
  · rcases hk with hk | hk
    · exact h.na k (Or.inl hk)
    · rcases hin k hk with h2 | h2
      · exact h.na k (Or.inr h2)
      · exact Nat.le_trans h.bl.size h2
  · have hlt := (h.row.lt k hk).2
    rcases hx with (hx | hx) | hx
    · exact h.out k hk (Or.inl (Or.inl hx))
    · rcases hin k hx with h2 | h2
      · exact h.out k hk (Or.inl (Or.inr h2))
      · omega
    · exact h.out k hk (Or.inr hx)
theorem Cs.all2 (hP : DocOK DS) (h : Cs DS w0 w g px vl made b ns rs Fg Fx g2 px2 vl2 mb b2 T2 made2 M2 rs2 Fg2 Fx2 vp ps) {Fx' : Nat → Prop} (h1 : GX DS w' g2 px2 vl2 mb b2 T2 made2 M2 rs2 Fg2 Fx') (hin : ∀ k, Fx' k → Fx2 k ∨ w.heap.size ≤ k) (hf : Fr w w' Fx2) : Cs DS w0 w' g px vl made b ns rs Fg Fx g2 px2 vl2 mb b2 T2 made2 M2 rs2 Fg2 Fx' vp ps := by
  refine ⟨h.one.apart hP hf (fun k hk hx => h.ap k hk (Or.inr hx)), h1, fun k hk hx => ?_, h.na, fun k hk => ?_, own_keepB h.row (fun k hk hl => hf.block k hl (fun hx => h.out k hk (Or.inr (Or.inr hx)))), fun k hk hx => ?_, h.bl.trans (hf.toBel h.bl.size (fun k hk => h.nb k (Or.inr hk)))⟩
  · rcases hx with hx | hx
    · exact h.ap k hk (Or.inl hx)
    · rcases hin k hx with h2 | h2
      · exact h.ap k hk (Or.inr h2)
      · have := h.one.here k hk; omega
  · rcases hk with hk | hk
    · exact h.nb k (Or.inl hk)
    · rcases hin k hk with h2 | h2
      · exact h.nb k (Or.inr h2)
      · exact Nat.le_trans h.bl.size h2
  · have hlt := (h.row.lt k hk).2
    rcases hx with hx | hx | hx
    · exact h.out k hk (Or.inl hx)
    · exact h.out k hk (Or.inr (Or.inl hx))
    · rcases hin k hx with h2 | h2
      · exact h.out k hk (Or.inr (Or.inr h2))
      · omega
/-- Another sheet. -/
theorem GD.sheet (hP : DocOK DS) (h : GD DS w g px vl made b ns rs Fg Fx) {rs' : List PRu} (hs : DS w' px (treeS (ns.map GN.pl)) made (mOf b (ns.map GN.pl)) rs' (More Fx w)) (hf : Fr w w' Fx) : GD DS w' g px vl made b ns rs' Fg (Grew Fx w w') :=
  ⟨h.doc hf, h.pw, hP.here hs, h.inb, h.inn, h.inl, h.ink, fun k hk hx => hx.1.elim (h.gx k hk) (fun h2 => by have := h.here k (Or.inl hk); omega), fun k hk => by
    rcases hk with hk | hk
    · exact Nat.lt_of_lt_of_le (h.here k (Or.inl hk)) hf.size
    · exact hk.2⟩
/-- The copying begins. -/
theorem two_cs {n0 : Nat} (h : Two DS w0 w g px vl made b ns rs Fg Fx g2 px2 vl2 1 0 [rootN n0 0] rs2 Fg2 Fx2) : Cs DS w0 w g px vl made b ns rs Fg Fx g2 px2 vl2 1 0 [(0, [])] 1 (mOf 0 [rootS 0]) rs2 Fg2 Fx2 (.slice none 0 0) [] :=
  ⟨h.one, ⟨h.two.gr.blk, h.two.ds, h.two.inb, h.two.gx, h.two.here⟩, h.ap, h.na, h.nb, World.ownsRow_nil _ _ _ _, fun k hk => by simp [Value.ownBlock] at hk, h.bl⟩
theorem root_mark : mOf 0 [rootS 0] 0 = newMk (letB 0) := by
  have : mOf 0 [rootS 0] 0 = mkS 0 (rootS 0) := rfl
  rw [this]
  unfold mkS newMk rootS
  simp only
  congr 1
  funext i
  unfold clS
  simp
theorem root_pre {made : Nat} {S : List PNd} (hw : TW [(0, [])] 1) {x : PNd} (hx : x ∈ S) (h0 : x.num = 0) (_hp : PW S made) : CPre (treeS S) 0 0 [(0, [])] 1 [] x.kids :=
  ⟨by rw [← h0]; exact mem_treeS hx, by simp, hw, rfl, by simp, fun _ h => (by cases h), fun _ h => (by cases h), rfl⟩
end
end Go.Proofs.YtblfffbmklkhmaaGreat

namespace Go.Proofs.YtblfffbmklkhmaaGreat
open Go.RowKit
def bl (s : ByteArray) : List Nat := s.data.toList.map UInt8.toNat
theorem bl_append (s t : ByteArray) : bl (s ++ t) = bl s ++ bl t := by
  unfold bl
  rw [ByteArray.data_append, Array.toList_append, List.map_append]
theorem bl_length (s : ByteArray) : (bl s).length = s.size := by
  unfold bl
  rw [List.length_map, Array.length_toList]
  rfl
theorem bl_at (s : ByteArray) (i : Nat) (h : i < (bl s).length) : bt s i = (bl s)[i] := by
  have h2 : i < s.size := by rw [bl_length] at h; exact h
  rw [bt_at s i h2]
  have h3 : (s.data.toList.map UInt8.toNat)[i]'(by rw [List.length_map, Array.length_toList]; exact h2) = s[i].toNat := by
    rw [List.getElem_map, Array.getElem_toList]
    rfl
  exact h3.symm
abbrev Q3 := Int × Nat × Nat
def stp (q : Q3) (c : Nat) : Option Q3 :=
  if nxt q.1 c = -1 then none
  else if q.1 = 0 then (if q.2.1 = 20 then none else some (nxt q.1 c, q.2.1 + 1, 1))
  else if q.1 = 18 ∨ q.1 = 1 then some (nxt q.1 c, q.2.1, 1)
  else if q.1 = 3 then (if isS c = true then (if q.2.2 = 4 then none else some (nxt q.1 c, q.2.1, q.2.2 + 1)) else if c = 44 then some (nxt q.1 c, q.2.1, 1) else some (nxt q.1 c, q.2.1, q.2.2))
  else some (nxt q.1 c, q.2.1, q.2.2)
def run : List Nat → Q3 → Option Q3
  | [], q => some q
  | c :: l, q => (stp q c).bind (run l)
theorem run_append : ∀ (l l2 : List Nat) (q : Q3), run (l ++ l2) q = (run l q).bind (run l2)
  | [], _, _ => rfl
  | c :: l, l2, q => by
    show (stp q c).bind (run (l ++ l2)) = ((stp q c).bind (run l)).bind (run l2)
    cases stp q c with
    | none => rfl
    | some q' => exact run_append l l2 q'
theorem run_two {l l2 : List Nat} {q q1 q2 : Q3} (h : run l q = some q1) (h2 : run l2 q1 = some q2) : run (l ++ l2) q = some q2 := by
  rw [run_append, h]; exact h2
theorem stp_cnt {q q' : Q3} {c : Nat} (i : Nat) (h : stp q c = some q') : nxt q.1 c = q'.1 ∧ q'.1 ≠ -1 ∧ cnt q.1 c i ⟨q.2.1, q.2.2, -1⟩ = ⟨q'.2.1, q'.2.2, -1⟩ := by
  obtain ⟨m, nr, nc⟩ := q
  obtain ⟨m', nr', nc'⟩ := q'
  unfold stp at h
  simp only at h ⊢
  by_cases h1 : nxt m c = -1
  · rw [if_pos h1] at h; cases h
  rw [if_neg h1] at h
  unfold cnt
  by_cases h0 : m = 0
  · rw [if_pos h0] at h
    by_cases h2 : nr = 20
    · rw [if_pos h2] at h; cases h
    · rw [if_neg h2] at h
      injection h with h
      injection h with ha hb
      injection hb with hb hc
      refine ⟨ha, by rw [← ha]; exact h1, ?_⟩
      rw [if_pos h0]
      simp only [noteIf, h2, decide_false]
      rw [if_neg (by simp), ← hb, ← hc]
  rw [if_neg h0] at h
  rw [if_neg h0]
  by_cases h18 : m = 18 ∨ m = 1
  · rw [if_pos h18] at h ⊢
    injection h with h
    injection h with ha hb
    injection hb with hb hc
    refine ⟨ha, by rw [← ha]; exact h1, ?_⟩
    rw [← hb, ← hc]
  rw [if_neg h18] at h
  rw [if_neg h18]
  by_cases h3 : m = 3
  · rw [if_pos h3] at h ⊢
    by_cases hs : isS c = true
    · rw [if_pos hs] at h ⊢
      by_cases h2 : nc = 4
      · rw [if_pos h2] at h; cases h
      · rw [if_neg h2] at h
        injection h with h
        injection h with ha hb
        injection hb with hb hc
        refine ⟨ha, by rw [← ha]; exact h1, ?_⟩
        simp only [noteIf, h2, decide_false]
        rw [if_neg (by simp), ← hb, ← hc]
    · rw [if_neg hs] at h ⊢
      by_cases h4 : c = 44
      · rw [if_pos h4] at h ⊢
        injection h with h
        injection h with ha hb
        injection hb with hb hc
        refine ⟨ha, by rw [← ha]; exact h1, ?_⟩
        rw [← hb, ← hc]
      · rw [if_neg h4] at h ⊢
        injection h with h
        injection h with ha hb
        injection hb with hb hc
        refine ⟨ha, by rw [← ha]; exact h1, ?_⟩
        rw [← hb, ← hc]
  · rw [if_neg h3] at h ⊢
    injection h with h
    injection h with ha hb
    injection hb with hb hc
    refine ⟨ha, by rw [← ha]; exact h1, ?_⟩
    rw [← hb, ← hc]
theorem run_V {s : ByteArray} : ∀ (l : List Nat) (q : Q3) (i : Nat) (r : Nat × Nat), (∀ j (hj : j < l.length), bt s (i + j) = l[j]) → i + l.length = s.size → run l q = some (0, r) → V s q.1 ⟨q.2.1, q.2.2, -1⟩ i = (-1, -1)
  | [], q, i, r, _, h2, h3 => by
    have h4 : q = (0, r) := by injection h3
    subst h4
    rw [V_end (by simpa using Nat.le_of_eq h2.symm), if_pos rfl]
  | c :: l, q, i, r, h1, h2, h3 => by
    have hc : bt s i = c := h1 0 (Nat.zero_lt_succ _)
    have hi : i < s.size := by rw [List.length_cons] at h2; omega
    cases hst : stp q c with
    | none => rw [run, hst] at h3; cases h3
    | some q' =>
      obtain ⟨g1, g2, g3⟩ := stp_cnt i hst
      rw [V_go (m' := q'.1) hi (by rw [hc]; exact g1) g2, hc, g3]
      refine run_V l q' (i + 1) r (fun j hj => ?_) (by rw [List.length_cons] at h2; omega) (by rw [run, hst] at h3; exact h3)
      have := h1 (j + 1) (by rw [List.length_cons]; omega)
      rw [List.getElem_cons_succ] at this
      rw [← this]
      congr 1
      omega
/-- A text that is run through whole is a sheet. -/
theorem chk_run {s : ByteArray} {r : Nat × Nat} (h4 : s.size ≤ 400) (h : run (bl s) (0, 0, 0) = some (0, r)) : chk s = (0, 0) := by
  have hV := run_V (s := s) (bl s) (0, 0, 0) 0 r (fun j hj => by rw [Nat.zero_add]; exact bl_at s j hj) (by rw [bl_length]; omega) h
  simp only at hV
  unfold chk
  rw [hV, if_neg (by omega), if_neg (by decide), if_pos rfl]
theorem bl_let (k : Nat) : bl (letB k) = [97 + k % 26] := by
  have h : k % 26 < 26 := Nat.mod_lt _ (by decide)
  show [(UInt8.ofNat (97 + k % 26)).toNat] = _
  rw [UInt8.toNat_ofNat', Nat.mod_eq_of_lt (by omega)]
theorem bl_dig {k : Nat} (h : k < 10) : bl (digB k) = [48 + k] := by
  show [(UInt8.ofNat (48 + k)).toNat] = _
  rw [UInt8.toNat_ofNat', Nat.mod_eq_of_lt (by omega)]
theorem isL_let (k : Nat) : isL (97 + k % 26) = true := by
  have h : k % 26 < 26 := Nat.mod_lt _ (by decide)
  unfold isL
  rw [decide_eq_true_eq]
  omega
theorem isD_dig {k : Nat} (h : k < 10) : isD (48 + k) = true := by
  unfold isD
  rw [decide_eq_true_eq]
  omega
theorem run_let4 (k nr nc : Nat) : run (bl (letB k)) (4, nr, nc) = some (3, nr, nc) := by
  rw [bl_let]
  have := isL_let k
  simp [run, stp, nxt, wh, this]
theorem run_let8 (k nr nc : Nat) : run (bl (letB k)) (8, nr, nc) = some (3, nr, nc) := by
  rw [bl_let]
  have := isL_let k
  simp [run, stp, nxt, this]
theorem run_let2 (k nr nc : Nat) : run (bl (letB k)) (2, nr, nc) = some (3, nr, nc) := by
  rw [bl_let]
  have := isL_let k
  simp [run, stp, nxt, compN, this]
theorem run_dig1 {k : Nat} (h : k < 10) (nr nc : Nat) : run (bl (digB k)) (1, nr, nc) = some (2, nr, 1) := by
  rw [bl_dig h]
  have := isD_dig h
  simp [run, stp, nxt, wh, this]
theorem run_dig6 {k : Nat} (h : k < 10) (nr nc : Nat) : run (bl (digB k)) (6, nr, nc) = some (7, nr, nc) := by
  rw [bl_dig h]
  have := isD_dig h
  simp [run, stp, nxt, wh, this]
theorem run_dig7 {k : Nat} (h : k < 10) (nr nc : Nat) : run (bl (digB k)) (7, nr, nc) = some (3, nr, nc) := by
  rw [bl_dig h]
  have := isD_dig h
  simp [run, stp, nxt, wh, this]
theorem run_dig12 {k : Nat} (h : k < 10) (nr nc : Nat) : run (bl (digB k)) (12, nr, nc) = some (13, nr, nc) := by
  rw [bl_dig h]
  have := isD_dig h
  simp [run, stp, nxt, this]
theorem run_dig13 {k : Nat} (h : k < 10) (nr nc : Nat) : run (bl (digB k)) (13, nr, nc) = some (14, nr, nc) := by
  rw [bl_dig h]
  have := isD_dig h
  simp [run, stp, nxt, this]
end Go.Proofs.YtblfffbmklkhmaaGreat

namespace Go.Proofs.YtblfffbmklkhmaaGreat
open Go.RowKit
/-- The modes in which a part may begin. -/
def PM (m : Int) : Prop := m = 2 ∨ m = 3 ∨ m = 8
section
variable {len : Nat} {L : Nat → Int} {by' : Nat} {mild : Bool}
theorem run_part (at' nr nc : Nat) {m : Int} (hm : PM m) : run (bl (partF len L by' at').1) (m, nr, nc) = some (3, nr, nc) := by
  have l5 := nx_lt (len := len) (L := L) (n := 5) (at' := (nx len L 4 (nx len L 8 at').2).2) (by decide)
  have l4 := nx_lt (len := len) (L := L) (n := 4) (at' := (nx len L 8 at').2) (by decide)
  unfold partF
  split
  · show run (bl (⟨#[46]⟩ ++ letB _)) _ = _
    rw [bl_append]
    refine run_two (q1 := (4, nr, nc)) ?_ (run_let4 _ _ _)
    rcases hm with rfl | rfl | rfl <;> rfl
  · split
    · show run (bl (⟨#[35]⟩ ++ letB _)) _ = _
      rw [bl_append]
      refine run_two (q1 := (4, nr, nc)) ?_ (run_let4 _ _ _)
      rcases hm with rfl | rfl | rfl <;> rfl
    · split
      · rcases hm with rfl | rfl | rfl <;> rfl
      · split
        · rcases hm with rfl | rfl | rfl <;> rfl
        · split
          · rcases hm with rfl | rfl | rfl <;> rfl
          · show run (bl (⟨#[58, 110]⟩ ++ digB _ ++ digB _)) _ = _
            rw [bl_append, bl_append]
            refine run_two (q1 := (7, nr, nc)) (run_two (q1 := (6, nr, nc)) ?_ (run_dig6 (by omega) _ _)) (run_dig7 (by omega) _ _)
            rcases hm with rfl | rfl | rfl <;> rfl
theorem run_compOne (at' nr nc : Nat) : run (bl (compOne len L by' at').1) (2, nr, nc) = some (3, nr, nc) := by
  unfold compOne
  split
  · rfl
  · split
    · exact run_part _ _ _ (Or.inl rfl)
    · exact run_let2 _ _ _
theorem run_compStep {q : Q3} (p : ByteArray × Nat) (nr nc : Nat) (h : run (bl p.1) q = some (3, nr, nc)) : run (bl (compStep len L by' p).1) q = some (3, nr, nc) := by
  have h33 : run (bl ⟨#[33]⟩) (3, nr, nc) = some (8, nr, nc) := rfl
  unfold compStep
  split
  · split
    · show run (bl (p.1 ++ ⟨#[33]⟩ ++ letB _)) _ = _
      rw [bl_append, bl_append]
      exact run_two (run_two h h33) (run_let8 _ _ _)
    · show run (bl (p.1 ++ ⟨#[33]⟩ ++ (partF len L by' _).1)) _ = _
      rw [bl_append, bl_append]
      exact run_two (run_two h h33) (run_part _ _ _ (Or.inr (Or.inr rfl)))
  · show run (bl (p.1 ++ (partF len L by' _).1)) _ = _
    rw [bl_append]
    exact run_two h (run_part _ _ _ (Or.inr (Or.inl rfl)))
theorem run_compLoop {q : Q3} : ∀ (k : Nat) (p : ByteArray × Nat) (nr nc : Nat), run (bl p.1) q = some (3, nr, nc) → run (bl (compLoop len L by' k p).1) q = some (3, nr, nc)
  | 0, _, _, _, h => h
  | k + 1, p, nr, nc, h => run_compLoop k _ nr nc (run_compStep p nr nc h)
theorem run_comp (at' nr nc : Nat) : run (bl (wCompF len L by' at').1) (2, nr, nc) = some (3, nr, nc) := run_compLoop _ _ _ _ (run_compOne _ _ _)
/-- The first byte is none that stands ahead of a layer. -/
def HdOK (s : ByteArray) : Prop := ∃ c l, bl s = c :: l ∧ c ≠ 64
theorem HdOK.app {s : ByteArray} (h : HdOK s) (t : ByteArray) : HdOK (s ++ t) := by
  obtain ⟨c, l, h1, h2⟩ := h
  exact ⟨c, l ++ bl t, by rw [bl_append, h1]; rfl, h2⟩
theorem head_part (at' : Nat) : HdOK (partF len L by' at').1 := by
  unfold partF
  (repeat' split)
  · exact HdOK.app ⟨46, [], rfl, by decide⟩ _
  · exact HdOK.app ⟨35, [], rfl, by decide⟩ _
  · exact ⟨58, [102], rfl, by decide⟩
  · exact ⟨58, [108], rfl, by decide⟩
  · exact ⟨58, [101], rfl, by decide⟩
  · exact HdOK.app (HdOK.app ⟨58, [110], rfl, by decide⟩ _) _
theorem head_compOne (at' : Nat) : HdOK (compOne len L by' at').1 := by
  unfold compOne
  (repeat' split)
  · exact ⟨42, [], rfl, by decide⟩
  · exact head_part _
  · exact ⟨_, [], bl_let _, by omega⟩
theorem head_compStep (p : ByteArray × Nat) (h : HdOK p.1) : HdOK (compStep len L by' p).1 := by
  unfold compStep
  (repeat' split)
  · exact HdOK.app (h.app _) _
  · exact HdOK.app (h.app _) _
  · exact h.app _
theorem head_compLoop : ∀ (k : Nat) (p : ByteArray × Nat), HdOK p.1 → HdOK (compLoop len L by' k p).1
  | 0, _, h => h
  | k + 1, p, h => head_compLoop k _ (head_compStep p h)
theorem head_comp (at' : Nat) : HdOK (wCompF len L by' at').1 := head_compLoop _ _ (head_compOne _)
theorem run_sg : ∀ i, i < 5 → ∀ (nr nc : Nat), nc < 4 → run (bl (sgB i)) (3, nr, nc) = some (2, nr, nc + 1)
  | 0, _, nr, nc, h => by
    show (stp (3, nr, nc) 32).bind (run []) = _
    have : nc ≠ 4 := by omega
    simp [stp, this, nxt, moreN, isS, run]
  | 1, _, nr, nc, h => by
    show (stp (3, nr, nc) 32).bind (run []) = _
    have : nc ≠ 4 := by omega
    simp [stp, this, nxt, moreN, isS, run]
  | 2, _, nr, nc, h => by
    show (stp (3, nr, nc) 62).bind (run []) = _
    have : nc ≠ 4 := by omega
    simp [stp, this, nxt, moreN, isS, run]
  | 3, _, nr, nc, h => by
    show (stp (3, nr, nc) 43).bind (run []) = _
    have : nc ≠ 4 := by omega
    simp [stp, this, nxt, moreN, isS, run]
  | 4, _, nr, nc, h => by
    show (stp (3, nr, nc) 126).bind (run []) = _
    have : nc ≠ 4 := by omega
    simp [stp, this, nxt, moreN, isS, run]
  | i + 5, h, _, _, _ => by omega
theorem run_selStep {q : Q3} (p : ByteArray × Nat) (nr nc : Nat) (hn : nc < 4) (h : run (bl p.1) q = some (3, nr, nc)) : run (bl (selStep len L by' p).1) q = some (3, nr, nc + 1) := by
  have l5 := nx_lt (len := len) (L := L) (n := 5) (at' := p.2) (by decide)
  show run (bl (p.1 ++ sgB _ ++ (wCompF len L by' _).1)) _ = _
  rw [bl_append, bl_append]
  exact run_two (run_two h (run_sg _ l5 nr nc hn)) (run_comp _ _ _)
theorem run_selLoop {q : Q3} : ∀ (k : Nat) (p : ByteArray × Nat) (nr nc : Nat), nc + k ≤ 4 → run (bl p.1) q = some (3, nr, nc) → run (bl (selLoop len L by' k p).1) q = some (3, nr, nc + k)
  | 0, _, _, _, _, h => h
  | k + 1, p, nr, nc, hn, h => by
    have := run_selLoop (q := q) k (selStep len L by' p) nr (nc + 1) (by omega) (run_selStep p nr nc (by omega) h)
    rwa [show nc + 1 + k = nc + (k + 1) from by omega] at this
theorem run_sel (at' nr : Nat) : ∃ nc, run (bl (wSelF len L by' at').1) (2, nr, 1) = some (3, nr, nc) := by
  have l3 := nx_lt (len := len) (L := L) (n := 3) (at' := (wCompF len L by' at').2) (by decide)
  exact ⟨_, run_selLoop _ _ nr 1 (by omega) (run_comp _ _ _)⟩
theorem head_selLoop : ∀ (k : Nat) (p : ByteArray × Nat), HdOK p.1 → HdOK (selLoop len L by' k p).1
  | 0, _, h => h
  | k + 1, p, h => head_selLoop k (selStep len L by' p) ((h.app _).app _)
theorem head_sel (at' : Nat) : HdOK (wSelF len L by' at').1 := head_selLoop _ _ (head_comp _)
/-- At a rule's beginning. -/
theorem run_zero {l : List Nat} {c : Nat} (hc : c ≠ 64) (nr nc : Nat) (hn : nr ≠ 20) : run (c :: l) (0, nr, nc) = run (c :: l) (2, nr + 1, 1) := by
  show (stp (0, nr, nc) c).bind (run l) = (stp (2, nr + 1, 1) c).bind (run l)
  have h : stp (0, nr, nc) c = stp (2, nr + 1, 1) c := by
    have h1 : nxt 0 c = compN c := by unfold nxt; rw [if_pos rfl, if_neg hc]
    have h2 : nxt 2 c = compN c := rfl
    unfold stp
    simp only
    rw [h1, h2]
    by_cases h3 : compN c = -1
    · rw [if_pos h3, if_pos h3]
    · rw [if_neg h3, if_neg h3, if_pos trivial, if_neg hn, if_neg (by decide), if_neg (by decide), if_neg (by decide)]
  rw [h]
theorem run_pr : ∀ p, p < 9 → ∀ (m : Int) (nr nc : Nat), m = 9 ∨ m = 10 → run (bl (prB p)) (m, nr, nc) = some (11, nr, nc)
  | 0, _, m, nr, nc, h => by rcases h with rfl | rfl <;> rfl
  | 1, _, m, nr, nc, h => by rcases h with rfl | rfl <;> rfl
  | 2, _, m, nr, nc, h => by rcases h with rfl | rfl <;> rfl
  | 3, _, m, nr, nc, h => by rcases h with rfl | rfl <;> rfl
  | 4, _, m, nr, nc, h => by rcases h with rfl | rfl <;> rfl
  | 5, _, m, nr, nc, h => by rcases h with rfl | rfl <;> rfl
  | 6, _, m, nr, nc, h => by rcases h with rfl | rfl <;> rfl
  | 7, _, m, nr, nc, h => by rcases h with rfl | rfl <;> rfl
  | 8, _, m, nr, nc, h => by rcases h with rfl | rfl <;> rfl
  | p + 9, h, _, _, _, _ => by omega
theorem run_va : ∀ p, p < 3 → ∀ (nr nc : Nat), run (bl (prB (6 + p))) (17, nr, nc) = some (15, nr, nc)
  | 0, _, nr, nc => rfl
  | 1, _, nr, nc => rfl
  | 2, _, nr, nc => rfl
  | p + 3, h, _, _ => by omega
theorem run_declMid {q : Q3} (s0 : ByteArray) (c : Nat × Nat) (nr nc : Nat) (h : run (bl s0) q = some (12, nr, nc)) : ∃ m, (m = 14 ∨ m = 15) ∧ run (bl (declMid len L s0 c).1) q = some (m, nr, nc) := by
  have l3 := nx_lt (len := len) (L := L) (n := 3) (at' := c.2) (by decide)
  have l9 := nx_lt (len := len) (L := L) (n := 9) (at' := c.2) (by decide)
  have l10 := nx_lt (len := len) (L := L) (n := 10) (at' := (nx len L 9 c.2).2) (by decide)
  unfold declMid
  (repeat' split)
  · refine ⟨15, Or.inr rfl, ?_⟩
    show run (bl (s0 ++ _)) _ = _
    rw [bl_append]
    exact run_two h rfl
  · refine ⟨15, Or.inr rfl, ?_⟩
    show run (bl (s0 ++ _)) _ = _
    rw [bl_append]
    exact run_two h rfl
  · refine ⟨15, Or.inr rfl, ?_⟩
    show run (bl (s0 ++ _)) _ = _
    rw [bl_append]
    exact run_two h rfl
  · refine ⟨15, Or.inr rfl, ?_⟩
    show run (bl (s0 ++ _ ++ prB _)) _ = _
    rw [bl_append, bl_append]
    exact run_two (q1 := (17, nr, nc)) (run_two h rfl) (run_va _ l3 _ _)
  · refine ⟨14, Or.inl rfl, ?_⟩
    show run (bl (s0 ++ digB _ ++ digB _)) _ = _
    rw [bl_append, bl_append]
    exact run_two (run_two h (run_dig12 (by omega) _ _)) (run_dig13 l10 _ _)
theorem run_decl (at' : Nat) (m : Int) (nr nc : Nat) (hm : m = 9 ∨ m = 10) : ∃ m', (m' = 14 ∨ m' = 15 ∨ m' = 16) ∧ run (bl (wDeclF len L mild at').1) (m, nr, nc) = some (m', nr, nc) := by
  have l9 := nx_lt (len := len) (L := L) (n := 9) (at' := at') (by decide)
  have h0 : run (bl (prB (nx len L 9 at').1 ++ (⟨#[58]⟩ : ByteArray))) (m, nr, nc) = some (12, nr, nc) := by
    rw [bl_append]
    exact run_two (run_pr _ l9 m nr nc hm) rfl
  obtain ⟨m1, h1, h2⟩ := run_declMid (len := len) (L := L) _ (nx len L 8 (nx len L 9 at').2) nr nc h0
  unfold wDeclF declEnd
  split
  · refine ⟨16, Or.inr (Or.inr rfl), ?_⟩
    show run (bl ((declMid len L _ _).1 ++ ⟨#[33]⟩)) _ = _
    rw [bl_append]
    refine run_two h2 ?_
    rcases h1 with rfl | rfl <;> rfl
  · refine ⟨m1, ?_, h2⟩
    rcases h1 with h1 | h1
    · exact Or.inl h1
    · exact Or.inr (Or.inl h1)
theorem run_declLoop {q : Q3} : ∀ (k : Nat) (p : ByteArray × Nat) (nr nc : Nat), (∃ m', (m' = 14 ∨ m' = 15 ∨ m' = 16) ∧ run (bl p.1) q = some (m', nr, nc)) → ∃ m', (m' = 14 ∨ m' = 15 ∨ m' = 16) ∧ run (bl (declLoop len L mild k p).1) q = some (m', nr, nc)
  | 0, _, _, _, h => h
  | k + 1, p, nr, nc, ⟨m1, h1, h2⟩ => by
    refine run_declLoop k (declStep len L mild p) nr nc ?_
    obtain ⟨m2, h3, h4⟩ := run_decl (len := len) (L := L) (mild := mild) p.2 10 nr nc (Or.inr rfl)
    refine ⟨m2, h3, ?_⟩
    show run (bl (p.1 ++ ⟨#[59]⟩ ++ (wDeclF len L mild p.2).1)) _ = _
    rw [bl_append, bl_append]
    refine run_two (q1 := (10, nr, nc)) (run_two h2 ?_) h4
    rcases h1 with rfl | rfl | rfl <;> rfl
theorem run_rule (at' nr nc : Nat) (hn : nr < 20) : ∃ nc', run (bl (wRuleF len L by' mild at').1) (0, nr, nc) = some (0, nr + 1, nc') := by
  have h1 : ∃ nc1, run (bl (ruleSel len L by' (ruleHead len L at')).1) (0, nr, nc) = some (3, nr + 1, nc1) := by
    obtain ⟨n1, hs⟩ := run_sel (len := len) (L := L) (by' := by') (ruleHead len L at').2 (nr + 1)
    refine ⟨n1, ?_⟩
    show run (bl ((ruleHead len L at').1 ++ (wSelF len L by' (ruleHead len L at').2).1)) _ = _
    rw [bl_append]
    have l4 := nx_lt (len := len) (L := L) (n := 4) (at' := (nx len L 3 at').2) (by decide)
    by_cases h0 : (nx len L 3 at').1 = 0
    · have hh : (ruleHead len L at').1 = ⟨#[64]⟩ ++ digB (nx len L 4 (nx len L 3 at').2).1 := by unfold ruleHead; rw [if_pos h0]
      rw [hh, bl_append]
      refine run_two (run_two (q1 := (1, nr + 1, 1)) ?_ (run_dig1 (by omega) _ _)) hs
      show (stp (0, nr, nc) 64).bind (run []) = _
      have : nr ≠ 20 := by omega
      simp [stp, this, nxt, run]
    · have hh : (ruleHead len L at').1 = ⟨#[]⟩ := by unfold ruleHead; rw [if_neg h0]
      rw [hh]
      obtain ⟨c, l, hc1, hc2⟩ := head_sel (len := len) (L := L) (by' := by') (ruleHead len L at').2
      show run (bl (wSelF len L by' (ruleHead len L at').2).1) _ = _
      rw [hc1, run_zero hc2 nr nc (by omega), ← hc1]
      exact hs
  obtain ⟨nc1, h1⟩ := h1
  have he : wRuleF len L by' mild at' = ruleF4 len L mild (ruleDecl len L mild (ruleMore len L by' (ruleSel len L by' (ruleHead len L at')))) := rfl
  rw [he]
  generalize ruleSel len L by' (ruleHead len L at') = p1 at h1
  have h2 : ∃ nc2, run (bl (ruleMore len L by' p1).1) (0, nr, nc) = some (3, nr + 1, nc2) := by
    unfold ruleMore
    split
    · obtain ⟨n2, hs⟩ := run_sel (len := len) (L := L) (by' := by') (nx len L 4 p1.2).2 (nr + 1)
      refine ⟨n2, ?_⟩
      show run (bl (p1.1 ++ ⟨#[44]⟩ ++ (wSelF len L by' _).1)) _ = _
      rw [bl_append, bl_append]
      exact run_two (q1 := (2, nr + 1, 1)) (run_two h1 rfl) hs
    · exact ⟨nc1, h1⟩
  obtain ⟨nc2, h2⟩ := h2
  refine ⟨nc2, ?_⟩
  generalize ruleMore len L by' p1 = p2 at h2
  have h3 : ∃ m', (m' = 14 ∨ m' = 15 ∨ m' = 16) ∧ run (bl (ruleDecl len L mild p2).1) (0, nr, nc) = some (m', nr + 1, nc2) := by
    obtain ⟨m2, h3, h4⟩ := run_decl (len := len) (L := L) (mild := mild) p2.2 9 (nr + 1) nc2 (Or.inl rfl)
    refine ⟨m2, h3, ?_⟩
    show run (bl (p2.1 ++ ⟨#[123]⟩ ++ (wDeclF len L mild p2.2).1)) _ = _
    rw [bl_append, bl_append]
    exact run_two (q1 := (9, nr + 1, nc2)) (run_two h2 rfl) h4
  generalize ruleDecl len L mild p2 = p3 at h3
  obtain ⟨m3, h4, h5⟩ := run_declLoop (len := len) (L := L) (mild := mild) (nx len L 3 p3.2).1 (p3.1, (nx len L 3 p3.2).2) (nr + 1) nc2 h3
  show run (bl ((declLoop len L mild (nx len L 3 p3.2).1 (p3.1, (nx len L 3 p3.2).2)).1 ++ ⟨#[125]⟩)) _ = _
  rw [bl_append]
  refine run_two h5 ?_
  rcases h4 with rfl | rfl | rfl <;> rfl
theorem run_sheetLoop {most : Nat} : ∀ (k : Nat) (p : ByteArray × Nat) (nr : Nat), nr + k ≤ 20 → (∃ nr' nc, nr' ≤ nr ∧ run (bl p.1) (0, 0, 0) = some (0, nr', nc)) → ∃ nr' nc, run (bl (sheetLoop len L by' mild most k p).1) (0, 0, 0) = some (0, nr', nc)
  | 0, _, _, _, ⟨nr', nc, _, h⟩ => ⟨nr', nc, h⟩
  | k + 1, p, nr, hk, ⟨nr', nc, hle, h⟩ => by
    refine run_sheetLoop k (sheetStep len L by' mild most p) (nr + 1) (by omega) ?_
    by_cases hfit : p.1.size + (wRuleF len L by' mild p.2).1.size ≤ most
    · have hs : (sheetStep len L by' mild most p).1 = p.1 ++ (wRuleF len L by' mild p.2).1 := if_pos hfit
      obtain ⟨nc', hr⟩ := run_rule (len := len) (L := L) (by' := by') (mild := mild) p.2 nr' nc (by omega)
      refine ⟨nr' + 1, nc', by omega, ?_⟩
      rw [hs, bl_append]
      exact run_two h hr
    · have hs : (sheetStep len L by' mild most p).1 = p.1 := if_neg hfit
      exact ⟨nr', nc, by omega, by rw [hs]; exact h⟩
/-- A written sheet is accepted. -/
theorem wSheet_chk {most : Nat} (hm : most ≤ 400) : chk (wSheetF len L by' mild most) = (0, 0) := by
  have l9 := nx_lt (len := len) (L := L) (n := 9) (at' := 0) (by decide)
  obtain ⟨nr, nc, h⟩ := run_sheetLoop (len := len) (L := L) (by' := by') (mild := mild) (most := most) (nx len L 9 0).1 (⟨#[]⟩, (nx len L 9 0).2) 0 (by omega) ⟨0, 0, Nat.le_refl _, rfl⟩
  exact chk_run (Nat.le_trans wSheetF_size hm) h
end
end Go.Proofs.YtblfffbmklkhmaaGreat
