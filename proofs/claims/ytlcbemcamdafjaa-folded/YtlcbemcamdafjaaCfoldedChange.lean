import Derived.Test.YtlcbemcamdafjaaCfoldedPut2
/- The changes, each done to a flight. -/
namespace Go.Proofs.Ytlcbemcamdafjaa
open Go.RowKit
open Go.ChangeMaps (setBlock)
open M
set_option linter.unusedVariables false
set_option linter.unusedSimpArgs false
set_option maxRecDepth 100000

theorem FlH.cell24 {w : World} {S : Nat → Prop} {b : Nat} {p : Pla} {l : List Sea} (h : FlH w S b p l) : w.cell? ⟨b, 24, none⟩ = some (.int .i64 p.ep) ∧ w.frozen? ⟨b, 24, none⟩ = false ∧ b < w.heap.size := by
  obtain ⟨m, es, clock, h1, h2, h3, h4, h5, h6⟩ := h
  refine ⟨?_, h1.frozen 24, h1.lt⟩
  rw [h1.cell 24]
  rfl
theorem MapRel.next {es : List MEnt} {p : Pla} {l : List Sea} (h : MapRel es p l) : MapRel es p.next l := ⟨h.ent, h.seat, h.size⟩
theorem Wf.next {p : Pla} {l : List Sea} (h : Wf p l) : Wf p.next l := ⟨h.sized, h.limited, h.len, h.place, h.seat⟩
/-- The epoch, one more. -/
theorem FlX.bump {w : World} {b m clock : Nat} {p : Pla} {l : List Sea} {es : List MEnt} (h : FlX w b p l m es clock) : FlX (w.setCell ⟨b, 24, none⟩ (.int .i64 (nx p.ep))) b p.next l m es clock :=
  ⟨h.has.set 24 _, by rw [Below.heap_setCell _ _ _ _ (by exact h.has.map_ne h.map)]; exact h.map, h.ok, h.rel.next⟩
theorem FlH.bump {w : World} {S : Nat → Prop} {b : Nat} {p : Pla} {l : List Sea} (h : FlH w S b p l) : FlH (w.setCell ⟨b, 24, none⟩ (.int .i64 (nx p.ep))) S b p.next l ∧ Mod S w (w.setCell ⟨b, 24, none⟩ (.int .i64 (nx p.ep))) := by
  obtain ⟨m, es, clock, h1, h2, h3, h4, h5, h6⟩ := h
  have := FlX.bump ⟨h1, h2, h3, h4⟩
  exact ⟨⟨m, es, clock, this.has, this.map, this.ok, this.rel, h5, h6⟩, (Mod.refl _ w).setCell (p := ⟨b, 24, none⟩) (.inl h5) _⟩

theorem fill_any {S : Nat → Prop} {b : Nat} {p : Pla} {l : List Sea} {w : World} (h : FlH w S b p l) (hwf : Wf p l) (i : Nat) (hi : i < l.length) (s : Sea) (hs : s.wf) (hr : s.row = l[i].row) (hc : s.col = l[i].col) :
    Calls Try.prog 99 #[.agg #[.int .i64 s.row, .int .i64 s.col, .int .i64 s.st, .int .i64 s.pa, .int .i64 s.cl, .int .i64 s.un], .pointer (some ⟨b, 0, none⟩)] w fun e w' =>
      e = .returned (.tuple #[]) ∧ FlH w' S b p.next (l.set i s) ∧ Mod S w w' := by
  have HP := hide fun W (hW : FlH W S b p l) => put_any hW hwf i hi s hs hr hc
  have H := hide h
  clear h hr hc hs hwf
  go_enter Try.func99, Try.ntmps99
  go_wp2_with fail
  refine ((unhide HP) _ ((unhide H).mod0 ((Mod.refl _ _).alloc _))).mono ?_
  rintro e w1 ⟨rfl, h1, m1⟩
  obtain ⟨c24, z24, l24⟩ := h1.cell24
  have wE := nx_eq p.ep
  have HB := hide h1.bump
  have M1 := hide (((Mod.refl S w).alloc (.cells #[.int .i64 s.row, .int .i64 s.col, .int .i64 s.st, .int .i64 s.pa, .int .i64 s.cl, .int .i64 s.un] 149)).trans m1)
  clear h1 m1 H HP
  go_wp2
  go_end0
  exact ⟨rfl, (unhide HB).1, (unhide M1).trans (unhide HB).2⟩

theorem empty_any {S : Nat → Prop} {b : Nat} {p : Pla} {l : List Sea} {w : World} (h : FlH w S b p l) (hwf : Wf p l) (i : Nat) (hi : i < l.length) :
    Calls Try.prog 100 #[.agg #[.int .i64 l[i].row, .int .i64 l[i].col], .pointer (some ⟨b, 0, none⟩)] w fun e w' =>
      e = .returned (.tuple #[]) ∧ FlH w' S b p.next (l.set i l[i].freed) ∧ Mod S w w' := by
  have hfr : (l[i].freed).wf := ⟨by simp [Sea.freed], by simp [Sea.freed], by simp [Sea.freed], by simp [Sea.freed], by simp [Sea.freed], by simp [Sea.freed], by simp [Sea.freed], by simp [Sea.freed]⟩
  have HP := hide fun W (hW : FlH W S b p l) => put_any hW hwf i hi l[i].freed hfr rfl rfl
  have H := hide h
  clear h
  generalize hx : l[i] = x at *
  have HX := hide hx
  clear hx
  obtain ⟨r, c, st, pa, cl, un⟩ := x
  simp only [Sea.freed] at HP ⊢
  go_enter Try.func100, Try.ntmps100
  go_wp2_with fail
  refine ((unhide HP) _ ((unhide H).mod0 ((Mod.refl _ _).alloc _))).mono ?_
  rintro e w1 ⟨rfl, h1, m1⟩
  obtain ⟨c24, z24, l24⟩ := h1.cell24
  have wE := nx_eq p.ep
  have HB := hide h1.bump
  have M1 := hide (((Mod.refl S w).alloc (.cells #[.int .i64 r, .int .i64 c] 151)).trans m1)
  clear h1 m1 H HP
  go_wp2
  go_end0
  exact ⟨rfl, (unhide HB).1, (unhide M1).trans (unhide HB).2⟩

/-- Of S what is there. -/
def Old (S : Nat → Prop) (w : World) : Nat → Prop := fun k => S k ∧ k < w.heap.size
theorem FlH.narrow {w : World} {S : Nat → Prop} {b : Nat} {p : Pla} {l : List Sea} (h : FlH w S b p l) : FlH w (Old S w) b p l := by
  obtain ⟨m, es, clock, h1, h2, h3, h4, h5, h6⟩ := h
  exact ⟨m, es, clock, h1, h2, h3, h4, ⟨h5, h1.lt⟩, ⟨h6, (Array.getElem?_eq_some_iff.1 h2).1⟩⟩
theorem FlH.wide {w : World} {S S' : Nat → Prop} {b : Nat} {p : Pla} {l : List Sea} (h : FlH w S b p l) (hs : ∀ k, S k → S' k) : FlH w S' b p l := by
  obtain ⟨m, es, clock, h1, h2, h3, h4, h5, h6⟩ := h
  exact ⟨m, es, clock, h1, h2, h3, h4, hs _ h5, hs _ h6⟩

theorem shift_walk (S : Nat → Prop) (b m : Nat) (cs : Array Value) (r c r' c' st pa cl un : Int) (w : World) (es : List MEnt) (clock : Nat) (P1 P2 : World → Prop)
    (hS : ∀ k, S k → k < w.heap.size) (h : Has w b cs 121) (h7 : cs[7]? = some (.map (some m))) (hm : w.heap[m]? = some (mapObj es clock))
    (hL : ∀ W : World, W.heap[m]? = some (mapObj es clock) → (Instr.lookup 119 (.map (some m)) (.agg #[.int .i64 r, .int .i64 c]) false).run Try.prog W = .ok (.agg #[.int .i64 st, .int .i64 pa, .int .i64 cl, .int .i64 un]) W)
    (hP1 : ∀ W, Mod No w W → Calls Try.prog 75 #[.pointer (some ⟨b, 0, none⟩), .agg #[.int .i64 r, .int .i64 c], .agg #[.int .i64 0, .int .i64 0, .int .i64 0, .int .i64 0]] W fun e w' => e = .returned (.tuple #[]) ∧ P1 w' ∧ Mod S W w')
    (hP2 : ∀ W, P1 W → Calls Try.prog 75 #[.pointer (some ⟨b, 0, none⟩), .agg #[.int .i64 r', .int .i64 c'], .agg #[.int .i64 st, .int .i64 pa, .int .i64 cl, .int .i64 un]] W fun e w' => e = .returned (.tuple #[]) ∧ P2 w' ∧ Mod S W w')
    (ep : Int) (P3 : World → Prop) (hP3 : ∀ W, P2 W → (W.cell? ⟨b, 24, none⟩ = some (.int .i64 ep) ∧ W.frozen? ⟨b, 24, none⟩ = false ∧ b < W.heap.size) ∧ P3 (W.setCell ⟨b, 24, none⟩ (.int .i64 (nx ep))) ∧ Mod S W (W.setCell ⟨b, 24, none⟩ (.int .i64 (nx ep)))) :
    Calls Try.prog 101 #[.agg #[.int .i64 r, .int .i64 c, .int .i64 r', .int .i64 c'], .pointer (some ⟨b, 0, none⟩)] w fun e w' => e = .returned (.tuple #[]) ∧ P3 w' ∧ Mod S w w' := by
  have HP3 := hide hP3
  clear hP3
  have hlt := h.lt
  have c7 := h.cell 7
  rw [h7] at c7
  have hL1 := hL (w.alloc (.cells #[.int .i64 r, .int .i64 c, .int .i64 r', .int .i64 c'] 153)).drew (Mod.map ((Mod.refl No w).alloc _).drew hm (fun x => x))
  have hL2 := fun X => hL ((w.alloc (.cells #[.int .i64 r, .int .i64 c, .int .i64 r', .int .i64 c'] 153)).alloc X).drew (Mod.map (((Mod.refl No w).alloc _).alloc X).drew hm (fun x => x))
  have HS := hide hS
  have HP1 := hide hP1
  have HP2 := hide hP2
  clear hS h h7 hm hL hP1 hP2
  go_enter Try.func101, Try.ntmps101
  go_wp2_with fail
  go_cut [4] (fun s4 wx => s4 = .pointer (some ⟨w.heap.size + 1, 0, none⟩) ∧ wx = ((w.alloc (.cells #[.int .i64 r, .int .i64 c, .int .i64 r', .int .i64 c'] 153)).alloc (.cells #[.int .i64 st, .int .i64 pa, .int .i64 cl, .int .i64 un] 143)).drew)
  case first =>
    go_region
    all_goals go_wp2
    all_goals go_meet
    all_goals exact ⟨rfl, rfl⟩
  case rest =>
    obtain ⟨rfl, rfl⟩ := hcut
    have B1 : Has ((w.alloc (.cells #[.int .i64 r, .int .i64 c, .int .i64 r', .int .i64 c'] 153)).alloc (.cells #[.int .i64 st, .int .i64 pa, .int .i64 cl, .int .i64 un] 143)).drew w.heap.size #[.int .i64 r, .int .i64 c, .int .i64 r', .int .i64 c'] 153 := ((Has.new w _ _).alloc _).drew
    have B2 : Has ((w.alloc (.cells #[.int .i64 r, .int .i64 c, .int .i64 r', .int .i64 c'] 153)).alloc (.cells #[.int .i64 st, .int .i64 pa, .int .i64 cl, .int .i64 un] 143)).drew (w.heap.size + 1) #[.int .i64 st, .int .i64 pa, .int .i64 cl, .int .i64 un] 143 := by
      have := Has.new (w.alloc (.cells #[.int .i64 r, .int .i64 c, .int .i64 r', .int .i64 c'] 153)) #[.int .i64 st, .int .i64 pa, .int .i64 cl, .int .i64 un] 143
      rw [World.size_alloc] at this
      exact this
    have M0 : Mod No w ((w.alloc (.cells #[.int .i64 r, .int .i64 c, .int .i64 r', .int .i64 c'] 153)).alloc (.cells #[.int .i64 st, .int .i64 pa, .int .i64 cl, .int .i64 un] 143)).drew := (((Mod.refl _ w).alloc _).alloc _).drew
    have BB1 := hide B1
    have BB2 := hide B2
    have MM0 := hide M0
    clear B1 B2 M0 hL1 hL2
    go_wp2_with fail
    refine ((unhide HP1) _ (unhide MM0)).mono ?_
    rintro e w1 ⟨rfl, p1, m1⟩
    have c1 := (m1.has (unhide BB1) (fun hs => by have := (unhide HS) _ hs; omega)).cell
    have c2 := (m1.has (unhide BB2) (fun hs => by have := (unhide HS) _ hs; omega)).cell
    have PP1 := hide p1
    have M1 := hide (((unhide MM0).mono (S' := S) (fun _ _ x => x.elim)).trans m1)
    clear p1 m1
    go_wp2_with fail
    refine ((unhide HP2) _ (unhide PP1)).mono ?_
    rintro e w2 ⟨rfl, p2, m2⟩
    obtain ⟨⟨c24, z24, l24⟩, p3, m3⟩ := (unhide HP3) _ p2
    have wE := nx_eq ep
    have PP3 := hide p3
    have M3 := hide (((unhide M1).trans m2).trans m3)
    clear p3 m3 p2 m2 c1 c2 HP1 HP2 HP3
    go_wp2
    go_end0
    exact ⟨rfl, unhide PP3, unhide M3⟩

theorem freed_wf (s : Sea) : s.freed.wf := ⟨by simp [Sea.freed], by simp [Sea.freed], by simp [Sea.freed], by simp [Sea.freed], by simp [Sea.freed], by simp [Sea.freed], by simp [Sea.freed], by simp [Sea.freed]⟩

theorem shift_any {S : Nat → Prop} {b : Nat} {p : Pla} {l : List Sea} {w : World} (h : FlH w S b p l) (hwf : Wf p l) (i : Nat) (hi : i < l.length) (j : Nat) (hj : j < l.length) (hij : i ≠ j) :
    Calls Try.prog 101 #[.agg #[.int .i64 l[i].row, .int .i64 l[i].col, .int .i64 l[j].row, .int .i64 l[j].col], .pointer (some ⟨b, 0, none⟩)] w fun e w' =>
      e = .returned (.tuple #[]) ∧ FlH w' S b p.next ((l.set i l[i].freed).set j ⟨l[j].row, l[j].col, l[i].st, l[i].pa, l[i].cl, l[i].un⟩) ∧ Mod S w w' := by
  have hwi := hwf.seat _ (List.getElem_mem hi)
  have hwn : (⟨l[j].row, l[j].col, l[i].st, l[i].pa, l[i].cl, l[i].un⟩ : Sea).wf := ⟨hwi.s0, hwi.s1, hwi.c0, hwi.c1, hwi.bare, hwi.pa, hwi.un, hwi.bk⟩
  have hwf1 : Wf p (l.set i l[i].freed) := hwf.set hi (freed_wf _) rfl rfl
  have hj1 : j < (l.set i l[i].freed).length := by simpa using hj
  have ej : (l.set i l[i].freed)[j] = l[j] := by simp [List.getElem_set, hij]
  obtain ⟨m, es, clock, h1, h2, h3, h4, h5, h6⟩ := id h
  have hplace := (hwf.place_has hi).1
  simp only [Pla.has, decide_eq_true_eq] at hplace
  obtain ⟨B1, B2, B3, B4, _⟩ := hwf.bounds
  simp only at B1 B2 B3 B4
  refine (shift_walk (Old S w) b m _ l[i].row l[i].col l[j].row l[j].col l[i].st l[i].pa l[i].cl l[i].un w es clock (fun W => FlH W (Old S w) b p (l.set i l[i].freed))
    (fun W => FlH W (Old S w) b p ((l.set i l[i].freed).set j ⟨l[j].row, l[j].col, l[i].st, l[i].pa, l[i].cl, l[i].un⟩)) (fun k hk => hk.2) h1 rfl h2 (fun W hW => ?_) (fun W hW => ?_) (fun W hW => ?_) p.ep
    (fun W => FlH W (Old S w) b p.next ((l.set i l[i].freed).set j ⟨l[j].row, l[j].col, l[i].st, l[i].pa, l[i].cl, l[i].un⟩)) (fun W hW => ⟨hW.cell24, hW.bump⟩)).mono ?_
  · have := run_lookup W m es clock hW h3 l[i].row l[i].col (by omega) (by omega)
    rw [h4.seat i hi] at this
    exact this
  · exact put_any (h.narrow.mod0 hW) hwf i hi l[i].freed (freed_wf _) rfl rfl
  · exact put_any hW hwf1 j hj1 ⟨l[j].row, l[j].col, l[i].st, l[i].pa, l[i].cl, l[i].un⟩ hwn (by rw [ej]) (by rw [ej])
  · rintro e w' ⟨rfl, hh, hm⟩
    exact ⟨rfl, hh.wide (fun k hk => hk.1), hm.mono (fun k _ hk => hk.1)⟩
end Go.Proofs.Ytlcbemcamdafjaa
