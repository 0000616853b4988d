import Derived.Test.YthhibagcpjeihaaGreatHTapeToWr1
import Derived.Test.YthhibagcpjeihaaGreatHBaseToMaps
import Derived.Test.YthhibagcpjeihaaGreatHChangeToEq40
import Derived.Test.YthhibagcpjeihaaGreatHLook7ToRef7
import Derived.Test.YthhibagcpjeihaaGreatHSwap2ToSwap4
import Derived.Handy
import Derived.Deep.RegionLawGrows
namespace Go.Proofs.YthhibagcpjeihaaGreat
open Go.RowKit
open M
set_option linter.unusedVariables false
set_option linter.unusedSimpArgs false
set_option maxRecDepth 100000
structure TP where
 b : Nat → List Int
 last : Nat → Nat
 room : Int
 fuse : Int
def TP.used (T : TP) : Nat := (T.b 0).length + (T.b 1).length + (T.b 2).length + (T.b 3).length
def TP.put (T : TP) (i : Nat) (xs : List Int) (l : Nat) (f : Int) : TP := ⟨fun j => if j = i then xs else T.b j, fun j => if j = i then l else T.last j, T.room, f⟩
def appendP (T : TP) (i : Nat) (r : List Int) : Bool × TP :=
 if T.room < (T.used : Int) + r.length ∨ T.fuse = 0 then (false, T) else (true, T.put i (T.b i ++ r) (T.last i) (burnt T.fuse))
def syncP (T : TP) (i : Nat) : Bool × TP := if T.fuse = 0 then (false, T) else (true, T.put i (T.b i) (T.b i).length (burnt T.fuse))
def clearP (T : TP) (i : Nat) : Bool × TP := if T.fuse = 0 then (false, T) else (true, T.put i [] 0 (burnt T.fuse))
structure TapeH (w : World) (S : Nat → Prop) (tb : Nat) (T : TP) : Prop where
 ex : ∃ t : TTape, t.ok S w tb ∧ (∀ i, i < 4 → (t.get i).xs = u8s (T.b i) ∧ (t.get i).last = T.last i) ∧ t.room = T.room ∧ t.fuse = T.fuse
 fuse : -4611686018427387904 ≤ T.fuse ∧ T.fuse ≤ 4611686018427387904
theorem TapeH.mod {w w' : World} {S S' : Nat → Prop} {tb : Nat} {T : TP} (h : TapeH w S tb T) (hm : Mod S' w w') (hs : ∀ k, S k → ¬ S' k) : TapeH w' S tb T := by
 obtain ⟨⟨t, h1, h2⟩, h3⟩ := h
 exact ⟨⟨t, h1.mod hm hs, h2⟩, h3⟩
theorem TapeH.mod0 {w w' : World} {S : Nat → Prop} {tb : Nat} {T : TP} (h : TapeH w S tb T) (hm : Mod No w w') : TapeH w' S tb T := h.mod hm (fun _ _ x => x)
theorem TapeH.wide {w : World} {S S' : Nat → Prop} {tb : Nat} {T : TP} (h : TapeH w S tb T) (hs : ∀ k, S k → S' k) : TapeH w S' tb T := by
 obtain ⟨⟨t, h1, h2⟩, h3⟩ := h
 exact ⟨⟨t, h1.wide hs, h2⟩, h3⟩
theorem TapeH.narrow {w : World} {S : Nat → Prop} {tb : Nat} {T : TP} (h : TapeH w S tb T) : TapeH w (fun k => S k ∧ k < w.heap.size) tb T := by
 obtain ⟨⟨t, h1, h2⟩, h3⟩ := h
 exact ⟨⟨t, h1.narrow, h2⟩, h3⟩
theorem TapeH.inn {w : World} {S : Nat → Prop} {tb : Nat} {T : TP} (h : TapeH w S tb T) : S tb := by
 obtain ⟨⟨t, h1, h2⟩, h3⟩ := h
 exact h1.inn
theorem TapeH.lt {w : World} {S : Nat → Prop} {tb : Nat} {T : TP} (h : TapeH w S tb T) : tb < w.heap.size := by
 obtain ⟨⟨t, h1, h2⟩, h3⟩ := h
 exact h1.has.lt
theorem TapeH.last {w : World} {S : Nat → Prop} {tb : Nat} {T : TP} (h : TapeH w S tb T) (i : Nat) (hi : i < 4) : T.last i ≤ (T.b i).length ∧ (T.b i).length ≤ 17592186044416 := by
 obtain ⟨⟨t, h1, h2, _⟩, h3⟩ := h
 have h4 := (h1.get i hi).last
 have h5 := (h1.get i hi).len
 rw [(h2 i hi).1] at h4 h5
 rw [(h2 i hi).2] at h4
 rw [u8s_len] at h4 h5
 exact ⟨h4, h5⟩
theorem TapeH.room {w : World} {S : Nat → Prop} {tb : Nat} {T : TP} (h : TapeH w S tb T) : ∃ cs, Has w tb cs 108 ∧ cs[8]? = some (.int .i64 T.room) := by
 obtain ⟨⟨t, h1, h2, h3, _⟩, _⟩ := h
 refine ⟨_, h1.has, ?_⟩
 rw [← h3]
 rfl
theorem used_eq {t : TTape} {T : TP} (h : ∀ i, i < 4 → (t.get i).xs = u8s (T.b i) ∧ (t.get i).last = T.last i) : t.used = T.used := by
 have h0 := (h 0 (by omega)).1
 have h1 := (h 1 (by omega)).1
 have h2 := (h 2 (by omega)).1
 have h3 := (h 3 (by omega)).1
 unfold TTape.used TP.used
 have e0 : t.f0.xs.length = (T.b 0).length := by rw [show t.f0 = t.get 0 from rfl, h0, u8s_len]
 have e1 : t.f1.xs.length = (T.b 1).length := by rw [show t.f1 = t.get 1 from rfl, h1, u8s_len]
 have e2 : t.f2.xs.length = (T.b 2).length := by rw [show t.f2 = t.get 2 from rfl, h2, u8s_len]
 have e3 : t.f3.xs.length = (T.b 3).length := by rw [show t.f3 = t.get 3 from rfl, h3, u8s_len]
 omega
theorem burnt_rng {f : Int} (h : -4611686018427387904 ≤ f ∧ f ≤ 4611686018427387904) : -4611686018427387904 ≤ burnt f ∧ burnt f ≤ 4611686018427387904 := by
 unfold burnt
 split <;> omega
theorem TapeH.put {w : World} {S : Nat → Prop} {tb : Nat} {T : TP} {t : TTape} (h2 : ∀ i, i < 4 → (t.get i).xs = u8s (T.b i) ∧ (t.get i).last = T.last i) (h3 : t.room = T.room) (i : Nat) (hi : i < 4) (v : Value) (xs : List Int) (l : Nat) (f : Int) (hf : -4611686018427387904 ≤ f ∧ f ≤ 4611686018427387904)
  (h : ({ t.put ⟨v, u8s xs, l⟩ i with fuse := f } : TTape).ok S w tb) : TapeH w S tb (T.put i xs l f) := by
 refine ⟨⟨_, h, fun j hj => ?_, ?_, rfl⟩, hf⟩
 ·rw [get_fuse, get_put _ _ _ _ hi hj]
  unfold TP.put
  by_cases e : j = i
  ·simp only [if_pos e, and_self]
  ·simp only [if_neg e]
   exact h2 j hj
 ·show (t.put _ i).room = T.room
  rw [(put_room t _ i).1]
  exact h3
theorem fits_t {w : World} {S : Nat → Prop} {tb : Nat} {T : TP} (h : TapeH w S tb T) (n : Int) (hn : 0 ≤ n) (hn2 : n ≤ 140737488355328) :
  Calls Tryz.prog 122 #[.pointer (some ⟨tb, 0, none⟩), .int .i64 n] w fun e w' => e = .returned (.bool (decide ((T.used : Int) + n ≤ T.room))) ∧ Mod No w w' := by
 obtain ⟨⟨t, h1, h2, h3, h4⟩, h5⟩ := h
 have := fits_any tb t n w h1 hn hn2
 rw [used_eq h2, h3] at this
 exact this
theorem append_t {w : World} {S : Nat → Prop} {tb : Nat} {T : TP} (h : TapeH w S tb T) (i : Nat) (hi : i < 4) (xa : Option Addr) (c : Nat) (r : List Int) (hx : Reads w (.slice xa r.length c) r.length (u8s r)) (hxb : (Value.slice xa r.length c).ownBlock ≠ some tb)
  (hr : ∀ x ∈ r, 0 ≤ x ∧ x < 256) (hl : (T.b i).length + r.length ≤ 17592186044416) :
  Calls Tryz.prog 123 #[.pointer (some ⟨tb, 0, none⟩), .int .i64 i, .slice xa r.length c] w fun e w' => e = .returned (.bool (appendP T i r).1) ∧ TapeH w' (fun k => S k ∨ w.heap.size ≤ k) tb (appendP T i r).2 ∧ Mod S w w' := by
 obtain ⟨⟨t, h1, h2, h3, h4⟩, h5⟩ := h
 have hu := used_eq h2
 have hxl : (t.get i).xs.length = (T.b i).length := by rw [(h2 i hi).1, u8s_len]
 unfold appendP
 by_cases hno : T.room < (T.used : Int) + r.length
 ·rw [if_pos (.inl hno)]
  refine (append_no tb t i hi S w h1 xa r.length c (by omega) (by rw [hu, h3]; exact hno)).mono ?_
  rintro e w' ⟨rfl, hm⟩
  exact ⟨rfl, ⟨⟨t, (h1.mod0 hm).wide (fun _ q => .inl q), h2, h3, h4⟩, h5⟩, hm.mono (fun _ _ x => x.elim)⟩
 ·by_cases h0 : T.fuse = 0
  ·rw [if_pos (.inr h0)]
   refine (append_dead tb t i hi S w h1 xa r.length c (by omega) (by rw [hu, h3]; omega) (by rw [h4]; exact h0)).mono ?_
   rintro e w' ⟨rfl, hok, hm⟩
   exact ⟨rfl, ⟨⟨t, hok.wide (fun _ q => .inl q), h2, h3, h4⟩, h5⟩, hm⟩
  ·rw [if_neg (by rintro (q | q); exact hno q; exact h0 q)]
   refine (append_yes tb t i hi S w h1 xa r.length c (u8s r) hx hxb (u8s_len r) (fun x hx => by
    obtain ⟨n, hn, rfl⟩ := List.mem_map.1 hx
    exact ⟨n, rfl, hr n hn⟩) (by rw [hxl]; exact hl) (by rw [hu, h3]; omega) (by rw [h4]; exact h5) (by rw [h4]; exact h0)).mono ?_
   rintro e w' ⟨rfl, ⟨v', hok⟩, hm⟩
   refine ⟨rfl, ?_, hm⟩
   rw [(h2 i hi).1, (h2 i hi).2, h4] at hok
   have : u8s (T.b i) ++ u8s r = u8s (T.b i ++ r) := by simp [u8s]
   rw [this] at hok
   exact TapeH.put h2 h3 i hi v' _ _ _ (burnt_rng h5) hok
theorem sync_t {w : World} {S : Nat → Prop} {tb : Nat} {T : TP} (h : TapeH w S tb T) (i : Nat) (hi : i < 4) :
  Calls Tryz.prog 45 #[.pointer (some ⟨tb, 0, none⟩), .int .i64 i] w fun e w' => e = .returned (.bool (syncP T i).1) ∧ TapeH w' S tb (syncP T i).2 ∧ Mod (· = tb) w w' := by
 obtain ⟨⟨t, h1, h2, h3, h4⟩, h5⟩ := h
 unfold syncP
 by_cases h0 : T.fuse = 0
 ·rw [if_pos h0]
  refine (sync_dead tb t i hi S w h1 (by rw [h4]; exact h0)).mono ?_
  rintro e w' ⟨rfl, hok, hm⟩
  exact ⟨rfl, ⟨⟨t, hok, h2, h3, h4⟩, h5⟩, hm⟩
 ·rw [if_neg h0]
  refine (sync_core tb t i hi S w h1 (by rw [h4]; exact h5) (by rw [h4]; exact h0)).mono ?_
  rintro e w' ⟨rfl, hok, hm⟩
  refine ⟨rfl, ?_, hm⟩
  rw [(h2 i hi).1, u8s_len, h4] at hok
  exact TapeH.put h2 h3 i hi _ _ _ _ (burnt_rng h5) hok
theorem clear_dead (b : Nat) (t : TTape) (i : Nat) (hi : i < 4) (S : Nat → Prop) (w : World) (h : t.ok S w b) (h0 : t.fuse = 0) :
  Calls Tryz.prog 71 #[.pointer (some ⟨b, 0, none⟩), .int .i64 i] w fun e w' => e = .returned (.bool false) ∧ t.ok S w' b ∧ Mod (· = b) w w' := by
 have hburn := fun W (hW : t.ok S W b) => burn_any b t W hW (by omega)
 simp only [ne_eq, h0, not_true_eq_false, decide_false] at hburn
 have H := hide h
 have HB := hide hburn
 have h0' := hide h0
 clear hburn h h0
 have hi' : (i : Int) < 4 := by omega
 go_enter Tryz.func71, Tryz.ntmps71
 go_wp2_with fail
 refine ((unhide HB) _ (unhide H)).mono ?_
 rintro e w1 ⟨rfl, h1, m1⟩
 have H1 := hide h1
 have M1 := hide m1
 clear h1 m1
 go_wp2
 go_ret
 have h2 := unhide H1
 rw [show burnt 0 = 0 from rfl] at h2
 refine ⟨rfl, ?_, unhide M1⟩
 have e : ({ t with fuse := 0 } : TTape) = t := by cases t; simp only at h0'; rw [unhide h0']
 rw [e] at h2
 exact h2
theorem clear_t {w : World} {S : Nat → Prop} {tb : Nat} {T : TP} (h : TapeH w S tb T) (i : Nat) (hi : i < 4) :
  Calls Tryz.prog 71 #[.pointer (some ⟨tb, 0, none⟩), .int .i64 i] w fun e w' => e = .returned (.bool (clearP T i).1) ∧ TapeH w' S tb (clearP T i).2 ∧ Mod (· = tb) w w' := by
 obtain ⟨⟨t, h1, h2, h3, h4⟩, h5⟩ := h
 unfold clearP
 by_cases h0 : T.fuse = 0
 ·rw [if_pos h0]
  refine (clear_dead tb t i hi S w h1 (by rw [h4]; exact h0)).mono ?_
  rintro e w' ⟨rfl, hok, hm⟩
  exact ⟨rfl, ⟨⟨t, hok, h2, h3, h4⟩, h5⟩, hm⟩
 ·rw [if_neg h0]
  refine (clear_yes tb t i hi S w h1 (by rw [h4]; exact h5) (by rw [h4]; exact h0)).mono ?_
  rintro e w' ⟨rfl, hok, hm⟩
  refine ⟨rfl, ?_, hm⟩
  rw [h4] at hok
  exact TapeH.put h2 h3 i hi (.slice none 0 0) [] 0 _ (burnt_rng h5) hok
theorem read_t {w : World} {S : Nat → Prop} {tb : Nat} {T : TP} (h : TapeH w S tb T) (i : Nat) (hi : i < 4) :
  Calls Tryz.prog 89 #[.pointer (some ⟨tb, 0, none⟩), .int .i64 i] w fun e w' => ∃ v, e = .returned v ∧ w'.ownsRow 0 5 1 v (T.b i).length (u8s (T.b i)) ∧ Stays w (.slice none 0 0) v ∧ Mod No w w' := by
 obtain ⟨⟨t, h1, h2, h3, h4⟩, h5⟩ := h
 have := read_any tb t i hi S w h1
 rw [(h2 i hi).1, u8s_len] at this
 exact this
theorem tape_new (w : World) (n : Int) : TapeH (w.alloc (.cells (⟨⟨.slice none 0 0, [], 0⟩, ⟨.slice none 0 0, [], 0⟩, ⟨.slice none 0 0, [], 0⟩, ⟨.slice none 0 0, [], 0⟩, n, -1⟩ : TTape).cells 108)) (fun k => k = w.heap.size) w.heap.size ⟨fun _ => [], fun _ => 0, n, -1⟩ := by
 have nf : ∀ W : World, (⟨.slice none 0 0, [], 0⟩ : TFile).ok (fun k => k = w.heap.size) W := fun W => ⟨World.ownsRow_nil _ _ _ _, by simp, by simp, fun x hx => by simp at hx, fun k hk => by simp [Value.ownBlock] at hk⟩
 have na : (⟨.slice none 0 0, [], 0⟩ : TFile).apart ⟨.slice none 0 0, [], 0⟩ := fun k hk => by simp [Value.ownBlock] at hk
 refine ⟨⟨_, ⟨Has.new _ _ _, rfl, nf _, nf _, nf _, nf _, na, na, na, na, na, na⟩, fun i hi => ?_, rfl, rfl⟩, by show (-4611686018427387904 : Int) ≤ -1 ∧ (-1 : Int) ≤ 4611686018427387904; decide⟩
 have : i = 0 ∨ i = 1 ∨ i = 2 ∨ i = 3 := by omega
 rcases this with rfl | rfl | rfl | rfl <;> exact ⟨rfl, rfl⟩
set_option maxHeartbeats 2000000
def isZ (a b e : Int) : Bool := (a == 0 && b == 0) && e == 0
theorem ahead_walk (b : Nat) (cs : Array Value) (T : TypeId) (r c C : Int) (w : World) (h : Has w b cs T) (h1 : cs[1]? = some (.int .i64 C)) (hr : 1 ≤ r ∧ r ≤ 1000) (hc : 1 ≤ c ∧ c ≤ 1000) (hC : 1 ≤ C ∧ C ≤ 1000) :
  Calls Tryz.prog 130 #[.pointer (some ⟨b, 0, none⟩), .agg #[.int .i64 r, .int .i64 c]] w fun e w' => e = .returned (.int .i64 ((r - 1) * C + c - 1)) ∧ Mod No w w' := by
 have c1 := h.cell 1
 rw [h1] at c1
 have hlt := h.lt
 have m0 : 0 ≤ (r - 1) * C := Int.mul_nonneg (by omega) (by omega)
 have m1 : (r - 1) * C ≤ 1000 * 1000 := Int.mul_le_mul (by omega) (by omega) (by omega) (by omega)
 have w1 : IntKind.i64.wrap (r - 1) = r - 1 := wrap_id _ (by omega) (by omega)
 have w2 : IntKind.i64.wrap ((r - 1) * C) = (r - 1) * C := wrap_id _ (by omega) (by omega)
 have w3 : IntKind.i64.wrap ((r - 1) * C + c) = (r - 1) * C + c := wrap_id _ (by omega) (by omega)
 have w4 : IntKind.i64.wrap ((r - 1) * C + c - 1) = (r - 1) * C + c - 1 := wrap_id _ (by omega) (by omega)
 clear h h1 m0 m1
 go_enter Tryz.func130, Tryz.ntmps130
 go_wp2
 go_quiet (fail)
 go_wp2
 go_ret
 exact ⟨rfl, ((Mod.refl _ _).alloc _).drewN _⟩
theorem sizeSa : (Tryz.prog.info? 63).map (·.size) = some 6 := by kernel_rfl
theorem tell_walk (b m : Nat) (cs : Array Value) (r c st pa cl un : Int) (w : World) (h : Has w b cs 164) (h7 : cs[7]? = some (.map (some m)))
  (hL : ∀ W, Mod No w W → (Instr.lookup 162 (.map (some m)) (.agg #[.int .i64 r, .int .i64 c]) false).run Tryz.prog W = .ok (.agg #[.int .i64 st, .int .i64 pa, .int .i64 cl, .int .i64 un]) W) :
  Calls Tryz.prog 115 #[.pointer (some ⟨b, 0, none⟩), .agg #[.int .i64 r, .int .i64 c]] w fun e w' => e = .returned (.agg #[.int .i64 r, .int .i64 c, .int .i64 st, .int .i64 pa, .int .i64 cl, .int .i64 un]) ∧ Mod No w w' := by
 have mA : Mod No w ((w.alloc (.cells #[.int .i64 r, .int .i64 c] 36)).alloc (.cells #[.int .i64 0, .int .i64 0, .int .i64 0, .int .i64 0, .int .i64 0, .int .i64 0] 63)) := ((Mod.refl _ w).alloc _).alloc _
 have c7 := (mA.has h (fun x => x)).cell 7
 rw [h7] at c7
 have hlt := (mA.has h (fun x => x)).lt
 have l1 := fun X => hL ((((w.alloc (.cells #[.int .i64 r, .int .i64 c] 36)).alloc (.cells #[.int .i64 0, .int .i64 0, .int .i64 0, .int .i64 0, .int .i64 0, .int .i64 0] 63))).alloc X).drew (mA.alloc X).drew
 have l2 := hL (((w.alloc (.cells #[.int .i64 r, .int .i64 c] 36)).alloc (.cells #[.int .i64 0, .int .i64 0, .int .i64 0, .int .i64 0, .int .i64 0, .int .i64 0] 63))).drew mA.drew
 have BA := hide ((Has.new w #[.int .i64 r, .int .i64 c] 36).alloc (.cells #[.int .i64 0, .int .i64 0, .int .i64 0, .int .i64 0, .int .i64 0, .int .i64 0] 63))
 have bA := ((Has.new w #[.int .i64 r, .int .i64 c] 36).alloc (.cells #[.int .i64 0, .int .i64 0, .int .i64 0, .int .i64 0, .int .i64 0, .int .i64 0] 63)).cell
 have lA := ((Has.new w #[.int .i64 r, .int .i64 c] 36).alloc (.cells #[.int .i64 0, .int .i64 0, .int .i64 0, .int .i64 0, .int .i64 0, .int .i64 0] 63)).lt
 have bR := Has.new (w.alloc (.cells #[.int .i64 r, .int .i64 c] 36)) #[.int .i64 0, .int .i64 0, .int .i64 0, .int .i64 0, .int .i64 0, .int .i64 0] 63
 rw [World.size_alloc] at bR
 have cR := bR.cell
 have fR := bR.frozen
 have lR := bR.lt
 have MA := hide mA
 have BR := hide bR
 clear h h7 hL mA bR
 go_enter Tryz.func115, Tryz.ntmps115
 go_wp2
 generalize ((w.alloc (.cells #[.int .i64 r, .int .i64 c] 36)).alloc (.cells #[.int .i64 0, .int .i64 0, .int .i64 0, .int .i64 0, .int .i64 0, .int .i64 0] 63)) = W0 at *
 go_region
 have B1 := ((unhide BA).alloc (.cells #[.int .i64 st, .int .i64 pa, .int .i64 cl, .int .i64 un] 199)).drew
 have R1 := ((unhide BR).alloc (.cells #[.int .i64 st, .int .i64 pa, .int .i64 cl, .int .i64 un] 199)).drew
 have S1 := (Has.new W0 #[.int .i64 st, .int .i64 pa, .int .i64 cl, .int .i64 un] 199).drew
 have M1 := hide ((unhide MA).alloc (.cells #[.int .i64 st, .int .i64 pa, .int .i64 cl, .int .i64 un] 199)).drew
 clear l1 l2 bA lA cR fR lR c7 hlt MA BA BR
 have hne : w.heap.size + 1 ≠ W0.heap.size := by have := R1.ne S1 (by decide); exact this
 generalize (W0.alloc (.cells #[.int .i64 st, .int .i64 pa, .int .i64 cl, .int .i64 un] 199)).drew = W1 at *
 generalize W0.heap.size = sb at *
 have b1 := B1.cell
 have s1 := S1.cell
 have RR := hide R1
 clear B1 S1 R1
 go_wp2_with (first | (refine wpList_store_has rfl 63 _ _ rfl (w.heap.size + 1) #[.int .i64 r, .int .i64 c, .int .i64 st, .int .i64 pa, .int .i64 cl, .int .i64 un] rfl rfl #[.int .i64 0, .int .i64 0, .int .i64 0, .int .i64 0, .int .i64 0, .int .i64 0] 63 (unhide RR) rfl sizeSa (by simp [Value.oneCell']) ?_; intro W2 h2 m2; have M2 := hide ((unhide M1).trans' m2 (fun i hi hl => by omega)); have c2 := h2.cell; have l2 := h2.lt; clear m2))
 have d0 : W2.cell? ⟨w.heap.size + 1, 0, none⟩ = some (.int .i64 r) := c2 0
 have d1 : W2.cell? ⟨w.heap.size + 1, 1, none⟩ = some (.int .i64 c) := c2 1
 have d2 : W2.cell? ⟨w.heap.size + 1, 2, none⟩ = some (.int .i64 st) := c2 2
 have d3 : W2.cell? ⟨w.heap.size + 1, 3, none⟩ = some (.int .i64 pa) := c2 3
 have d4 : W2.cell? ⟨w.heap.size + 1, 4, none⟩ = some (.int .i64 cl) := c2 4
 have d5 : W2.cell? ⟨w.heap.size + 1, 5, none⟩ = some (.int .i64 un) := c2 5
 refine bodyPost_ret (by simp [results, Tryz.results115, go_sem, d0, d1, d2, d3, d4, d5]; try rfl) rfl ?_
 exact ⟨rfl, unhide M2⟩
theorem step_call {P : Program} {ops : Array Oper} {o : Oper} {a : Act} {w : World} {K : Act → World → Prop} {Q : Exit → Act → World → Prop} {E : Prop}
  (hg : o.guard = none) (f : FuncId) (args : Array Operand) (tys : Array TypeId) (hop : o.op = Op.call { callee := Callee.value (Operand.func f), args := args, argTypes := tys })
  (vs : Array Value) (hvs : args.map a.eval = vs) (hcf : ∀ W, (callFunc f vs).run P W = .ok (.enter f vs) W) (v : Value) (R : World → Prop) (hc : Calls P f vs w fun e w' => e = .returned v ∧ R w')
  (hK : ∀ w', R w' → K (a.put o.dst v) w') : if Region.wanted o (yielded ops a.tmps) = true then Oper.wp P o a w K Q else E := by
 have hw : Region.wanted o (yielded ops a.tmps) = true := by simp [Region.wanted, hg]
 rw [if_pos hw]
 unfold Oper.wp execOp
 simp [go_sem, hop, hvs]
 rw [hcf]
 simp [go_sem]
 refine hc.mono ?_
 rintro e w' ⟨rfl, hr⟩
 exact hK _ hr
def behindK (p : Pla) (r c e : Int) : Int × Int :=
 if r = 0 ∧ c = 0 ∧ e = 0 then (0, 0) else if e ≠ p.ep then (0, 13) else if p.has r c = false then (0, 5) else ((p.idx r c : Int) + 1, 0)
theorem behind_r {w : World} {b m clock : Nat} {p : Pla} {l : List Sea} {es : List MEnt} (h : FlX w b p l m es clock) (hwf : Wf p l) (r c e : Int) (hq0 : r ≠ 0) :
  Calls Tryz.prog 114 #[.pointer (some ⟨b, 0, none⟩), .agg #[.int .i64 r, .int .i64 c, .int .i64 e]] w fun e' w' => e' = .returned (.tuple #[.int .i64 (behindK p r c e).1, .int .i64 (behindK p r c e).2]) ∧ Mod No w w' := by
 have mA : Mod No w (w.alloc (.cells #[.int .i64 r, .int .i64 c, .int .i64 e] 43)) := (Mod.refl _ w).alloc _
 have MA := hide mA
 have c24 := (mA.has h.has (fun x => x)).cell 24
 rw [show (fcells p (.map (some m)) l)[24]? = some (.int .i64 p.ep) from rfl] at c24
 have hlt := (mA.has h.has (fun x => x)).lt
 have HH := hide fun W (hW : Mod No w W) => (show Calls Tryz.prog 99 #[.pointer (some ⟨b, 0, none⟩), .agg #[.int .i64 r, .int .i64 c]] W fun e w' => e = .returned (.bool (p.has r c)) ∧ Mod No W w' from has_walk b r c p.rows p.cols _ W (hW.has h.has (fun x => x)) rfl rfl)
 have hB := hwf.bounds
 simp only at hB
 have HAH := hide fun W (hW : Mod No w W) (hh : p.has r c = true) => (show Calls Tryz.prog 130 #[.pointer (some ⟨b, 0, none⟩), .agg #[.int .i64 r, .int .i64 c]] W fun e w' => e = .returned (.int .i64 (p.idx r c : Int)) ∧ Mod No W w' from by
  simp only [Pla.has, decide_eq_true_eq] at hh
  have := ahead_walk b _ _ r c p.cols W (hW.has h.has (fun x => x)) rfl (by omega) (by omega) (by omega)
  have hi : (r - 1) * p.cols + c - 1 = (p.idx r c : Int) := by
   unfold Pla.idx
   have m3 : 0 ≤ (r - 1) * p.cols := Int.mul_nonneg (by omega) (by omega)
   omega
  rw [hi] at this
  exact this)
 have BA := hide (Has.new w #[.int .i64 r, .int .i64 c, .int .i64 e] 43)
 have HI := hide fun (hh : p.has r c = true) => (show IntKind.i64.wrap ((p.idx r c : Int) + 1) = (p.idx r c : Int) + 1 from by
  have := Fli.wf.idx_lt hwf hh
  have hl := Fli.wf.len_le hwf
  simp only at this hl
  exact wrap_id _ (by omega) (by omega))
 clear h hwf hB mA
 unfold behindK
 rw [if_neg (by rintro ⟨h1, h2, h3⟩; first | exact hq0 h1 | exact hq0 h2 | exact hq0 h3)]
 have hq : (r == 0) = false := by simpa using hq0
 clear hq0
 by_cases he : e = p.ep
 case neg =>
  rw [if_pos he]
  have hne : (e != p.ep) = true := by simpa using he
  clear he
  go_enter Tryz.func114, Tryz.ntmps114
  go_wp2
  go_quiet (fail)
  go_wp2
  go_ret2
  exact ⟨rfl, (unhide MA).drewN _⟩
 rw [if_neg (by simpa using he)]
 have hne : (e != p.ep) = false := by simpa using he
 by_cases hh : p.has r c = true
 case neg =>
  have hh' : p.has r c = false := by simpa using hh
  rw [if_pos hh']
  rw [hh'] at HH
  clear he hh hh' HI HAH
  go_enter Tryz.func114, Tryz.ntmps114
  go_wp2
  go_quiet (fail)
  go_wp2_with fail
  refine ((unhide HH) _ ((unhide MA).drewN _)).mono ?_
  rintro e5 w5 ⟨rfl, m5⟩
  have M5 := hide (((unhide MA).drewN _).trans m5)
  clear m5
  go_wp2
  go_ret2
  exact ⟨rfl, unhide M5⟩
 rw [if_neg (by simp [hh])]
 have hw := (unhide HI) hh
 have HA := hide fun W (hW : Mod No w W) => (unhide HAH) W hW hh
 rw [hh] at HH
 clear he hh HI HAH
 go_enter Tryz.func114, Tryz.ntmps114
 go_wp2
 go_quiet (fail)
 go_wp2_with fail
 refine ((unhide HH) _ ((unhide MA).drewN _)).mono ?_
 rintro e5 w5 ⟨rfl, m5⟩
 have b5 := (m5.has ((unhide BA).drewN _) (fun x => x)).cell
 have l5 := (m5.has ((unhide BA).drewN _) (fun x => x)).lt
 have M5 := hide (((unhide MA).drewN _).trans m5)
 clear m5
 go_wp2_with fail
 refine ((unhide HA) _ (unhide M5)).mono ?_
 rintro e6 w6 ⟨rfl, m6⟩
 have M6 := hide ((unhide M5).trans m6)
 clear m6
 go_wp2
 go_ret2
 exact ⟨rfl, unhide M6⟩
theorem behind_c {w : World} {b m clock : Nat} {p : Pla} {l : List Sea} {es : List MEnt} (h : FlX w b p l m es clock) (hwf : Wf p l) (c e : Int) (hq0 : c ≠ 0) :
  Calls Tryz.prog 114 #[.pointer (some ⟨b, 0, none⟩), .agg #[.int .i64 0, .int .i64 c, .int .i64 e]] w fun e' w' => e' = .returned (.tuple #[.int .i64 (behindK p 0 c e).1, .int .i64 (behindK p 0 c e).2]) ∧ Mod No w w' := by
 have mA : Mod No w (w.alloc (.cells #[.int .i64 0, .int .i64 c, .int .i64 e] 43)) := (Mod.refl _ w).alloc _
 have MA := hide mA
 have c24 := (mA.has h.has (fun x => x)).cell 24
 rw [show (fcells p (.map (some m)) l)[24]? = some (.int .i64 p.ep) from rfl] at c24
 have hlt := (mA.has h.has (fun x => x)).lt
 have HH := hide fun W (hW : Mod No w W) => (show Calls Tryz.prog 99 #[.pointer (some ⟨b, 0, none⟩), .agg #[.int .i64 0, .int .i64 c]] W fun e w' => e = .returned (.bool (p.has 0 c)) ∧ Mod No W w' from has_walk b 0 c p.rows p.cols _ W (hW.has h.has (fun x => x)) rfl rfl)
 have hB := hwf.bounds
 simp only at hB
 have HAH := hide fun W (hW : Mod No w W) (hh : p.has 0 c = true) => (show Calls Tryz.prog 130 #[.pointer (some ⟨b, 0, none⟩), .agg #[.int .i64 0, .int .i64 c]] W fun e w' => e = .returned (.int .i64 (p.idx 0 c : Int)) ∧ Mod No W w' from by
  simp only [Pla.has, decide_eq_true_eq] at hh
  have := ahead_walk b _ _ 0 c p.cols W (hW.has h.has (fun x => x)) rfl (by omega) (by omega) (by omega)
  have hi : (0 - 1) * p.cols + c - 1 = (p.idx 0 c : Int) := by
   unfold Pla.idx
   have m3 : 0 ≤ (0 - 1) * p.cols := Int.mul_nonneg (by omega) (by omega)
   omega
  rw [hi] at this
  exact this)
 have BA := hide (Has.new w #[.int .i64 0, .int .i64 c, .int .i64 e] 43)
 have HI := hide fun (hh : p.has 0 c = true) => (show IntKind.i64.wrap ((p.idx 0 c : Int) + 1) = (p.idx 0 c : Int) + 1 from by
  have := Fli.wf.idx_lt hwf hh
  have hl := Fli.wf.len_le hwf
  simp only at this hl
  exact wrap_id _ (by omega) (by omega))
 clear h hwf hB mA
 unfold behindK
 rw [if_neg (by rintro ⟨h1, h2, h3⟩; first | exact hq0 h1 | exact hq0 h2 | exact hq0 h3)]
 have hq : (c == 0) = false := by simpa using hq0
 clear hq0
 by_cases he : e = p.ep
 case neg =>
  rw [if_pos he]
  have hne : (e != p.ep) = true := by simpa using he
  clear he
  go_enter Tryz.func114, Tryz.ntmps114
  go_wp2
  go_quiet (fail)
  go_wp2
  go_ret2
  exact ⟨rfl, (unhide MA).drewN _⟩
 rw [if_neg (by simpa using he)]
 have hne : (e != p.ep) = false := by simpa using he
 by_cases hh : p.has 0 c = true
 case neg =>
  have hh' : p.has 0 c = false := by simpa using hh
  rw [if_pos hh']
  rw [hh'] at HH
  clear he hh hh' HI HAH
  go_enter Tryz.func114, Tryz.ntmps114
  go_wp2
  go_quiet (fail)
  go_wp2_with fail
  refine ((unhide HH) _ ((unhide MA).drewN _)).mono ?_
  rintro e5 w5 ⟨rfl, m5⟩
  have M5 := hide (((unhide MA).drewN _).trans m5)
  clear m5
  go_wp2
  go_ret2
  exact ⟨rfl, unhide M5⟩
 rw [if_neg (by simp [hh])]
 have hw := (unhide HI) hh
 have HA := hide fun W (hW : Mod No w W) => (unhide HAH) W hW hh
 rw [hh] at HH
 clear he hh HI HAH
 go_enter Tryz.func114, Tryz.ntmps114
 go_wp2
 go_quiet (fail)
 go_wp2_with fail
 refine ((unhide HH) _ ((unhide MA).drewN _)).mono ?_
 rintro e5 w5 ⟨rfl, m5⟩
 have b5 := (m5.has ((unhide BA).drewN _) (fun x => x)).cell
 have l5 := (m5.has ((unhide BA).drewN _) (fun x => x)).lt
 have M5 := hide (((unhide MA).drewN _).trans m5)
 clear m5
 go_wp2_with fail
 refine ((unhide HA) _ (unhide M5)).mono ?_
 rintro e6 w6 ⟨rfl, m6⟩
 have M6 := hide ((unhide M5).trans m6)
 clear m6
 go_wp2
 go_ret2
 exact ⟨rfl, unhide M6⟩
theorem behind_e {w : World} {b m clock : Nat} {p : Pla} {l : List Sea} {es : List MEnt} (h : FlX w b p l m es clock) (hwf : Wf p l) (e : Int) (hq0 : e ≠ 0) :
  Calls Tryz.prog 114 #[.pointer (some ⟨b, 0, none⟩), .agg #[.int .i64 0, .int .i64 0, .int .i64 e]] w fun e' w' => e' = .returned (.tuple #[.int .i64 (behindK p 0 0 e).1, .int .i64 (behindK p 0 0 e).2]) ∧ Mod No w w' := by
 have mA : Mod No w (w.alloc (.cells #[.int .i64 0, .int .i64 0, .int .i64 e] 43)) := (Mod.refl _ w).alloc _
 have MA := hide mA
 have c24 := (mA.has h.has (fun x => x)).cell 24
 rw [show (fcells p (.map (some m)) l)[24]? = some (.int .i64 p.ep) from rfl] at c24
 have hlt := (mA.has h.has (fun x => x)).lt
 have HH := hide fun W (hW : Mod No w W) => (show Calls Tryz.prog 99 #[.pointer (some ⟨b, 0, none⟩), .agg #[.int .i64 0, .int .i64 0]] W fun e w' => e = .returned (.bool (p.has 0 0)) ∧ Mod No W w' from has_walk b 0 0 p.rows p.cols _ W (hW.has h.has (fun x => x)) rfl rfl)
 have hB := hwf.bounds
 simp only at hB
 have HAH := hide fun W (hW : Mod No w W) (hh : p.has 0 0 = true) => (show Calls Tryz.prog 130 #[.pointer (some ⟨b, 0, none⟩), .agg #[.int .i64 0, .int .i64 0]] W fun e w' => e = .returned (.int .i64 (p.idx 0 0 : Int)) ∧ Mod No W w' from by
  simp only [Pla.has, decide_eq_true_eq] at hh
  have := ahead_walk b _ _ 0 0 p.cols W (hW.has h.has (fun x => x)) rfl (by omega) (by omega) (by omega)
  have hi : (0 - 1) * p.cols + 0 - 1 = (p.idx 0 0 : Int) := by
   unfold Pla.idx
   have m3 : 0 ≤ (0 - 1) * p.cols := Int.mul_nonneg (by omega) (by omega)
   omega
  rw [hi] at this
  exact this)
 have BA := hide (Has.new w #[.int .i64 0, .int .i64 0, .int .i64 e] 43)
 have HI := hide fun (hh : p.has 0 0 = true) => (show IntKind.i64.wrap ((p.idx 0 0 : Int) + 1) = (p.idx 0 0 : Int) + 1 from by
  have := Fli.wf.idx_lt hwf hh
  have hl := Fli.wf.len_le hwf
  simp only at this hl
  exact wrap_id _ (by omega) (by omega))
 clear h hwf hB mA
 unfold behindK
 rw [if_neg (by rintro ⟨h1, h2, h3⟩; first | exact hq0 h1 | exact hq0 h2 | exact hq0 h3)]
 have hq : (e == 0) = false := by simpa using hq0
 clear hq0
 by_cases he : e = p.ep
 case neg =>
  rw [if_pos he]
  have hne : (e != p.ep) = true := by simpa using he
  clear he
  go_enter Tryz.func114, Tryz.ntmps114
  go_wp2
  go_quiet (fail)
  go_wp2
  go_ret2
  exact ⟨rfl, (unhide MA).drewN _⟩
 rw [if_neg (by simpa using he)]
 have hne : (e != p.ep) = false := by simpa using he
 by_cases hh : p.has 0 0 = true
 case neg =>
  have hh' : p.has 0 0 = false := by simpa using hh
  rw [if_pos hh']
  rw [hh'] at HH
  clear he hh hh' HI HAH
  go_enter Tryz.func114, Tryz.ntmps114
  go_wp2
  go_quiet (fail)
  go_wp2_with fail
  refine ((unhide HH) _ ((unhide MA).drewN _)).mono ?_
  rintro e5 w5 ⟨rfl, m5⟩
  have M5 := hide (((unhide MA).drewN _).trans m5)
  clear m5
  go_wp2
  go_ret2
  exact ⟨rfl, unhide M5⟩
 rw [if_neg (by simp [hh])]
 have hw := (unhide HI) hh
 have HA := hide fun W (hW : Mod No w W) => (unhide HAH) W hW hh
 rw [hh] at HH
 clear he hh HI HAH
 go_enter Tryz.func114, Tryz.ntmps114
 go_wp2
 go_quiet (fail)
 go_wp2_with fail
 refine ((unhide HH) _ ((unhide MA).drewN _)).mono ?_
 rintro e5 w5 ⟨rfl, m5⟩
 have b5 := (m5.has ((unhide BA).drewN _) (fun x => x)).cell
 have l5 := (m5.has ((unhide BA).drewN _) (fun x => x)).lt
 have M5 := hide (((unhide MA).drewN _).trans m5)
 clear m5
 go_wp2_with fail
 refine ((unhide HA) _ (unhide M5)).mono ?_
 rintro e6 w6 ⟨rfl, m6⟩
 have M6 := hide ((unhide M5).trans m6)
 clear m6
 go_wp2
 go_ret2
 exact ⟨rfl, unhide M6⟩
theorem behind_any {w : World} {b m clock : Nat} {p : Pla} {l : List Sea} {es : List MEnt} (h : FlX w b p l m es clock) (hwf : Wf p l) (r c e : Int) :
  Calls Tryz.prog 114 #[.pointer (some ⟨b, 0, none⟩), .agg #[.int .i64 r, .int .i64 c, .int .i64 e]] w fun e' w' => e' = .returned (.tuple #[.int .i64 (behindK p r c e).1, .int .i64 (behindK p r c e).2]) ∧ Mod No w w' := by
 have mA : Mod No w (w.alloc (.cells #[.int .i64 r, .int .i64 c, .int .i64 e] 43)) := (Mod.refl _ w).alloc _
 have MA := hide mA
 have c24 := (mA.has h.has (fun x => x)).cell 24
 rw [show (fcells p (.map (some m)) l)[24]? = some (.int .i64 p.ep) from rfl] at c24
 have hlt := (mA.has h.has (fun x => x)).lt
 have HH := hide fun W (hW : Mod No w W) => (show Calls Tryz.prog 99 #[.pointer (some ⟨b, 0, none⟩), .agg #[.int .i64 r, .int .i64 c]] W fun e w' => e = .returned (.bool (p.has r c)) ∧ Mod No W w' from has_walk b r c p.rows p.cols _ W (hW.has h.has (fun x => x)) rfl rfl)
 have hB := hwf.bounds
 simp only at hB
 have HAH := hide fun W (hW : Mod No w W) (hh : p.has r c = true) => (show Calls Tryz.prog 130 #[.pointer (some ⟨b, 0, none⟩), .agg #[.int .i64 r, .int .i64 c]] W fun e w' => e = .returned (.int .i64 (p.idx r c : Int)) ∧ Mod No W w' from by
  simp only [Pla.has, decide_eq_true_eq] at hh
  have := ahead_walk b _ _ r c p.cols W (hW.has h.has (fun x => x)) rfl (by omega) (by omega) (by omega)
  have hi : (r - 1) * p.cols + c - 1 = (p.idx r c : Int) := by
   unfold Pla.idx
   have m3 : 0 ≤ (r - 1) * p.cols := Int.mul_nonneg (by omega) (by omega)
   omega
  rw [hi] at this
  exact this)
 have BA := hide (Has.new w #[.int .i64 r, .int .i64 c, .int .i64 e] 43)
 have HI := hide fun (hh : p.has r c = true) => (show IntKind.i64.wrap ((p.idx r c : Int) + 1) = (p.idx r c : Int) + 1 from by
  have := Fli.wf.idx_lt hwf hh
  have hl := Fli.wf.len_le hwf
  simp only at this hl
  exact wrap_id _ (by omega) (by omega))
 have H0 := h
 have H1 := hwf
 clear h hwf hB mA
 unfold behindK
 by_cases hz : r = 0 ∧ c = 0 ∧ e = 0
 ·rw [if_pos hz]
  obtain ⟨rfl, rfl, rfl⟩ := hz
  go_enter Tryz.func114, Tryz.ntmps114
  go_wp2
  go_ret2
  exact ⟨rfl, unhide MA⟩
 clear HH HAH BA HI c24 hlt MA
 by_cases h1 : r = 0
 ·by_cases h2 : c = 0
  ·have h3 : e ≠ 0 := fun h3 => hz ⟨h1, h2, h3⟩
   subst h1
   subst h2
   have := behind_e H0 H1 e h3
   unfold behindK at this
   exact this
  ·subst h1
   have := behind_c H0 H1 c e h2
   unfold behindK at this
   exact this
 ·have := behind_r H0 H1 r c e h1
  unfold behindK at this
  exact this
set_option maxHeartbeats 4000000
def askP (T : TP) (n : Nat) : Int := if T.room < (T.used : Int) + n then 15 else 0
def writeP (T : TP) (i : Nat) (r : List Int) : Bool × TP := if (appendP T i r).1 = true then syncP (appendP T i r).2 i else (false, (appendP T i r).2)
def layP (T : TP) (i : Nat) (r : List Int) : Int × TP :=
 if T.room < (T.used : Int) + r.length then (15, T) else if (writeP T i r).1 = true then (0, (writeP T i r).2) else (16, (writeP T i r).2)
theorem ask_any {w : World} {S : Nat → Prop} {kb tb : Nat} {T : TP} {cs : Array Value} (hk : Has w kb cs 121) (c30 : cs[30]? = some (.pointer (some ⟨tb, 0, none⟩))) (ht : TapeH w S tb T) (n : Nat) (hn : n ≤ 17592186044416) :
  Calls Tryz.prog 106 #[.pointer (some ⟨kb, 30, none⟩), .int .i64 n] w fun e w' => e = .returned (.int .i64 (askP T n)) ∧ Mod No w w' := by
 have c := hk.cell 30
 rw [c30] at c
 have lt := hk.lt
 have HF := hide (fits_t ht n (by omega) (by omega))
 unfold askP
 clear hk ht c30
 by_cases hr : T.room < (T.used : Int) + n
 ·rw [if_pos hr]
  have hd : decide ((T.used : Int) + n ≤ T.room) = false := by simp; omega
  rw [hd] at HF
  clear hr hd
  go_enter Tryz.func106, Tryz.ntmps106
  go_wp2_with fail
  refine (unhide HF).mono ?_
  rintro e w1 ⟨rfl, m1⟩
  have M1 := hide m1
  clear m1
  go_wp2
  go_ret
  exact ⟨rfl, unhide M1⟩
 ·rw [if_neg hr]
  have hd : decide ((T.used : Int) + n ≤ T.room) = true := by simp; omega
  rw [hd] at HF
  clear hr hd
  go_enter Tryz.func106, Tryz.ntmps106
  go_wp2_with fail
  refine (unhide HF).mono ?_
  rintro e w1 ⟨rfl, m1⟩
  have M1 := hide m1
  clear m1
  go_wp2
  go_ret
  exact ⟨rfl, unhide M1⟩
theorem ask_shut {w : World} {kb : Nat} {cs : Array Value} (hk : Has w kb cs 121) (c30 : cs[30]? = some (.pointer none)) (n : Int) :
  Calls Tryz.prog 106 #[.pointer (some ⟨kb, 30, none⟩), .int .i64 n] w fun e w' => e = .returned (.int .i64 17) ∧ w' = w := by
 have c := hk.cell 30
 rw [c30] at c
 have lt := hk.lt
 clear hk c30
 go_enter Tryz.func106, Tryz.ntmps106
 go_wp2
 go_ret
 exact ⟨rfl, rfl⟩
theorem torn_any {w : World} {kb : Nat} {cs : Array Value} (hk : Has w kb cs 121) (b : Bool) (c32 : cs[32]? = some (.bool b)) :
  Calls Tryz.prog 78 #[.pointer (some ⟨kb, 30, none⟩)] w fun e w' => e = .returned (.bool b) ∧ w' = w := by
 have c := hk.cell 32
 rw [c32] at c
 have lt := hk.lt
 clear hk c32
 go_enter Tryz.func78, Tryz.ntmps78
 go_wp2
 go_ret
 exact ⟨rfl, rfl⟩
theorem die_any {w : World} {kb : Nat} {cs : Array Value} (hk : Has w kb cs 121) (v : Value) (c30 : cs[30]? = some v) :
  Calls Tryz.prog 108 #[.pointer (some ⟨kb, 30, none⟩)] w fun e w' => e = .returned (.int .i64 16) ∧ w' = w.setCell ⟨kb, 30, none⟩ (.pointer none) := by
 have c := hk.cell 30
 rw [c30] at c
 have lt := hk.lt
 have fz := hk.frozen
 clear hk c30
 go_enter Tryz.func108, Tryz.ntmps108
 go_wp2
 go_ret
 exact ⟨rfl, rfl⟩
theorem write_any {w : World} {S : Nat → Prop} {kb tb : Nat} {T : TP} {cs : Array Value} (hk : Has w kb cs 121) (c30 : cs[30]? = some (.pointer (some ⟨tb, 0, none⟩))) (hkS : ¬ S kb) (ht : TapeH w S tb T) (i : Nat) (hi : i < 4)
  (xa : Option Addr) (c : Nat) (r : List Int) (hx : Reads w (.slice xa r.length c) r.length (u8s r)) (hxb : (Value.slice xa r.length c).ownBlock ≠ some tb) (hr : ∀ x ∈ r, 0 ≤ x ∧ x < 256) (hl : (T.b i).length + r.length ≤ 17592186044416) :
  Calls Tryz.prog 107 #[.pointer (some ⟨kb, 30, none⟩), .int .i64 i, .slice xa r.length c] w fun e w' => e = .returned (.bool (writeP T i r).1) ∧ TapeH w' (fun k => S k ∨ w.heap.size ≤ k) tb (writeP T i r).2 ∧ Mod S w w' := by
 have ce := hk.cell 30
 rw [c30] at ce
 have lt := hk.lt
 have HA := hide (append_t ht i hi xa c r hx hxb hr hl)
 have HT := hide ht.inn
 have HK := hide hk
 unfold writeP
 clear hx hk ht
 generalize hR : r.length = n at *
 clear hR hxb
 generalize appendP T i r = A at *
 obtain ⟨a, T1⟩ := A
 simp only at HA ⊢
 cases a with
 | false =>
  rw [if_neg (by simp)]
  go_enter Tryz.func107, Tryz.ntmps107
  go_wp2_with fail
  refine (unhide HA).mono ?_
  rintro e w1 ⟨rfl, h1, m1⟩
  have H1 := hide h1
  have M1 := hide m1
  clear h1 m1
  go_wp2
  go_ret
  exact ⟨rfl, unhide H1, unhide M1⟩
 | true =>
  rw [if_pos rfl]
  have HS := hide fun W (h : TapeH W (fun k => S k ∨ w.heap.size ≤ k) tb T1) => sync_t h i hi
  generalize syncP T1 i = D at *
  obtain ⟨d, T2⟩ := D
  simp only at HS ⊢
  go_enter Tryz.func107, Tryz.ntmps107
  go_wp2_with fail
  refine (unhide HA).mono ?_
  rintro e w1 ⟨rfl, h1, m1⟩
  have hk1 := m1.has (unhide HK) hkS
  have ce1 := hk1.cell 30
  rw [c30] at ce1
  have lt1 := hk1.lt
  have HS := hide ((unhide HS) _ h1)
  have M1 := hide m1
  clear h1 m1 hk1 HA ce
  go_wp2_with fail
  refine (unhide HS).mono ?_
  rintro e w2 ⟨rfl, h2, m2⟩
  have H2 := hide h2
  have M2 := hide ((unhide M1).trans (m2.mono (fun k _ (e : k = tb) => by rw [e]; exact unhide HT)))
  clear h2 m2 HS
  go_wp2
  go_ret
  exact ⟨rfl, unhide H2, unhide M2⟩
theorem sappend_any {w : World} {S : Nat → Prop} {kb tb : Nat} {T : TP} {cs : Array Value} (hk : Has w kb cs 121) (c30 : cs[30]? = some (.pointer (some ⟨tb, 0, none⟩))) (hkS : ¬ S kb) (ht : TapeH w S tb T) (i : Nat) (hi : i < 2) (c31 : cs[31]? = some (.int .i64 i))
  (xa : Option Addr) (c : Nat) (r : List Int) (hx : Reads w (.slice xa r.length c) r.length (u8s r)) (hxb : (Value.slice xa r.length c).ownBlock ≠ some tb) (hr : ∀ x ∈ r, 0 ≤ x ∧ x < 256) (hl : (T.b i).length + r.length ≤ 17592186044416) :
  Calls Tryz.prog 80 #[.pointer (some ⟨kb, 30, none⟩), .slice xa r.length c] w fun e w' => e = .returned (.int .i64 (layP T i r).1) ∧ TapeH w' (fun k => S k ∨ w.heap.size ≤ k) tb (layP T i r).2 ∧
   Has w' kb (if (layP T i r).1 = 16 then cs.setIfInBounds 30 (.pointer none) else cs) 121 ∧ Mod (fun k => S k ∨ k = kb) w w' := by
 have HA := hide (ask_any hk c30 ht r.length (by omega))
 have HW := hide fun W (hm : Mod No w W) => (write_any (hm.has hk (fun x => x)) c30 hkS (ht.mod0 hm) i (by omega) xa c r (hx.mod hm (fun _ _ x => x)) hxb hr hl).mono fun e w' ⟨q1, q2, q3⟩ => (⟨q1, q2.wide (fun k q => q.imp id (fun q => Nat.le_trans hm.size q)), q3⟩ : e = _ ∧ TapeH w' (fun k => S k ∨ w.heap.size ≤ k) tb (writeP T i r).2 ∧ Mod S W w')
 have HK := hide hk
 have HT := hide ht
 have lt := hk.lt
 have NK := hide hkS
 clear hk ht hx hxb hl hr hkS
 unfold layP askP at *
 by_cases hno : T.room < (T.used : Int) + r.length
 ·rw [if_pos hno] at HA ⊢
  rw [if_neg (show ¬ ((15 : Int), T).1 = 16 by simp)]
  have HNO := hide hno
  generalize r.length = n at *
  clear hno HNO HW
  go_enter Tryz.func80, Tryz.ntmps80
  go_wp2_with fail
  refine (unhide HA).mono ?_
  rintro e w1 ⟨rfl, m1⟩
  have M1 := hide m1
  clear m1
  go_wp2
  go_ret
  exact ⟨rfl, ((unhide HT).mod0 (unhide M1)).wide (fun _ q => .inl q), (unhide M1).has (unhide HK) (fun x => x), (unhide M1).mono (fun _ _ x => x.elim)⟩
 ·rw [if_neg hno] at HA ⊢
  clear hno
  generalize writeP T i r = A at *
  obtain ⟨a, T2⟩ := A
  generalize r.length = n at *
  simp only at HW
  cases a with
  | true =>
   simp only [if_true]
   rw [if_neg (by decide)]
   go_enter Tryz.func80, Tryz.ntmps80
   go_wp2_with fail
   refine (unhide HA).mono ?_
   rintro e w1 ⟨rfl, m1⟩
   have h1 := m1.has (unhide HK) (fun x => x)
   have c1 := h1.cell 31
   rw [c31] at c1
   have lt1 := h1.lt
   have HW1 := hide ((unhide HW) _ m1)
   have H1 := hide h1
   have M1 := hide m1
   clear h1 m1 HA HW
   go_wp2_with fail
   refine (unhide HW1).mono ?_
   rintro e w2 ⟨rfl, t2, m2⟩
   have T2H := hide t2
   have H2 := hide (m2.has (unhide H1) (unhide NK))
   have M2 := hide (((unhide M1).mono (S' := fun k => S k ∨ k = kb) (fun _ _ x => x.elim)).trans (m2.mono (fun _ _ q => .inl q)))
   clear t2 m2 HW1
   go_wp2
   go_ret
   exact ⟨rfl, unhide T2H, unhide H2, unhide M2⟩
  | false =>
   simp only [Bool.false_eq_true, if_false]
   rw [if_pos trivial]
   go_enter Tryz.func80, Tryz.ntmps80
   go_wp2_with fail
   refine (unhide HA).mono ?_
   rintro e w1 ⟨rfl, m1⟩
   have h1 := m1.has (unhide HK) (fun x => x)
   have c1 := h1.cell 31
   rw [c31] at c1
   have lt1 := h1.lt
   have HW1 := hide ((unhide HW) _ m1)
   have H1 := hide h1
   have M1 := hide m1
   clear h1 m1 HA HW
   go_wp2_with fail
   refine (unhide HW1).mono ?_
   rintro e w2 ⟨rfl, t2, m2⟩
   have h2 := m2.has (unhide H1) (unhide NK)
   have HD := hide (die_any h2 _ c30)
   have T2H := hide t2
   have H2 := hide h2
   have M2 := hide (((unhide M1).mono (S' := fun k => S k ∨ k = kb) (fun _ _ x => x.elim)).trans (m2.mono (fun _ _ q => .inl q)))
   clear t2 m2 h2 HW1
   go_wp2_with fail
   refine (unhide HD).mono ?_
   rintro e w3 ⟨rfl, rfl⟩
   have FIN := hide (show TapeH (w2.setCell ⟨kb, 30, none⟩ (.pointer none)) (fun k => S k ∨ w.heap.size ≤ k) tb T2 ∧ Has (w2.setCell ⟨kb, 30, none⟩ (.pointer none)) kb (cs.setIfInBounds 30 (.pointer none)) 121 ∧ Mod (fun k => S k ∨ k = kb) w (w2.setCell ⟨kb, 30, none⟩ (.pointer none)) from
    ⟨(unhide T2H).mod (S' := fun k => k = kb) ((Mod.refl _ w2).at 30 _) (fun k q e => by
      subst e
      rcases q with q | q
      ·exact unhide NK q
      ·omega), (unhide H2).set 30 _, (unhide M2).setCell (p := ⟨kb, 30, none⟩) (.inl (.inr rfl)) _⟩)
   clear HD H2 M2 T2H
   go_wp2
   go_ret
   exact ⟨rfl, unhide FIN⟩
theorem sappend_shut {w : World} {kb : Nat} {cs : Array Value} (hk : Has w kb cs 121) (c30 : cs[30]? = some (.pointer none)) (xa : Option Addr) (n c : Nat) :
  Calls Tryz.prog 80 #[.pointer (some ⟨kb, 30, none⟩), .slice xa n c] w fun e w' => e = .returned (.int .i64 17) ∧ w' = w := by
 have HA := hide (ask_shut hk c30 (n : Int))
 clear hk c30
 go_enter Tryz.func80, Tryz.ntmps80
 go_wp2_with fail
 refine (unhide HA).mono ?_
 rintro e w1 ⟨rfl, rfl⟩
 go_wp2
 go_ret
 exact ⟨rfl, rfl⟩
end Go.Proofs.YthhibagcpjeihaaGreat
