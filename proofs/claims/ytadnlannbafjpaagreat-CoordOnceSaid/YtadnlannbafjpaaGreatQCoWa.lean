/- A coordinator: what holds of a new one, and behind so many acts; what a wound's and a circle's abort asks, plain. -/
import Derived.Test.YtadnlannbafjpaaGreatQCoVf
import Derived.Test.YtadnlannbafjpaaGreatQCoW
import Derived.Test.YtadnlannbafjpaaGreatQCliQ
import Derived.Test.YtadnlannbafjpaaGreatQCoVb
import Derived.Test.YtadnlannbafjpaaGreatQFlats
namespace Go.Proofs.YtadnlannbafjpaaGreat
open Go.RowKit
set_option linter.unusedVariables false
set_option linter.unusedSimpArgs false
theorem CoA.new {n : Nat} (f : Cfg) (hn : n ≤ 8) (hs : 1 ≤ f.sh ∧ f.sh ≤ 64) (hr : 1 ≤ f.re ∧ f.re ≤ 1099511627776) : CoA n 0 (newCo f n) :=
 ⟨CoK.new f hn, ⟨(fun t ht => absurd ht (by intro h; cases h)), Nat.le_refl _⟩, hs, hr, ⟨Int.le_refl _, Int.le_refl _⟩⟩
def runC (n : Nat) (c : Co) (al : List (List Int)) : Nat → Co
 | 0 => c
 | j + 1 => (actC n (runC n c al j) (al.getD j [])).1.1
theorem CoA.run {n : Nat} {c : Co} (h : CoA n 0 c) (al : List (List Int)) : ∀ j : Nat, j ≤ 100 → CoA n j (runC n c al j)
 | 0, _ => h
 | j + 1, hj => (CoA.run h al j (by omega)).act (by omega) _
theorem run_cf {n : Nat} {c : Co} (al : List (List Int)) : ∀ j : Nat, (runC n c al j).cf = c.cf
 | 0 => rfl
 | j + 1 => by
   refine Eq.trans ?_ (run_cf (n := n) (c := c) al j)
   show (actC n (runC n c al j) (al.getD j [])).1.1.cf = _
   generalize runC n c al j = d
   generalize al.getD j [] = a
   unfold actC
   split; exact (Kept.lock _ _ _ _ _ _).cf
   split; exact (Kept.fin _ _ _).cf
   split; exact (Kept.abr _ _ _).cf
   split; exact (Kept.cra _ _).cf
   split
   · show (begC n d (fld a 1)).1.cf = _; unfold begC; split; rfl; split <;> rfl
   split; exact (Kept.handle _ _ _).cf
   split
   · show (tickL n d).1.cf = _
     have q := Kept.lsN (tick1 d) (lostR (tick1 d).tm d.cf.le d.cl) (lostR (tick1 d).tm d.cf.le d.cl).length
     unfold tickL; split; exact q.cf; exact q.cf
   · rfl
theorem act_more (n : Nat) (c : Co) (a : List Int) : c.txs.length ≤ (actC n c a).1.1.txs.length := by
 unfold actC
 split; exact Nat.le_of_eq (Kept.lock _ _ _ _ _ _).len.symm
 split; exact Nat.le_of_eq (Kept.fin _ _ _).len.symm
 split; exact Nat.le_of_eq (Kept.abr _ _ _).len.symm
 split; exact Nat.le_of_eq (Kept.cra _ _).len.symm
 split
 · show c.txs.length ≤ (begC n c (fld a 1)).1.txs.length; unfold begC; split; exact Nat.le_refl _; split; exact Nat.le_refl _; rw [List.length_append]; omega
 split; exact Nat.le_of_eq (Kept.handle _ _ _).len.symm
 split
 · show c.txs.length ≤ (tickL n c).1.txs.length
   have q := Kept.lsN (tick1 c) (lostR (tick1 c).tm c.cf.le c.cl) (lostR (tick1 c).tm c.cf.le c.cl).length
   unfold tickL; split; exact Nat.le_of_eq q.len.symm; exact Nat.le_of_eq q.len.symm
 · exact Nat.le_refl _
theorem wpList_build_msgs_g {ops : Array Oper} {rest : List Oper} {o : Oper} {a : Act} {w : World} {Q : Exit → Act → World → Prop} (hg : Region.wanted o (yielded ops a.tmps) = true) (n : Nat) (parts : Array (Nat × Operand)) (ho : o.op = .buildSlice 35 n parts) (ms : List (List Int)) (hm : ∀ m ∈ ms, m.length = 28) (hn : ms.length = n) (hs : n ≤ 1000)
   (hp : parts.toList.map (fun x => (x.1, a.eval x.2)) = partsM ms 0) (h : wpList Tryz.prog ops Q rest (a.put o.dst (.slice (some ⟨w.heap.size, 0, none⟩) n n)) (w.alloc (.cells (ints ms.flatten).toArray 45))) : wpList Tryz.prog ops Q (o :: rest) a w :=
 BigFrame.wpList_want hg fun _ hK => wp_build_msgs n parts ho ms hm hn hs hp (hK _ _ h)
def aF : Cfg := ⟨2, false, 5, 3, 40, 6, 1000⟩
def aC1 : Co := { newCo aF 2 with cl := (beginL (List.replicate 2 noCl) 1 1).1, txs := [newL 1], lf := [1], ev := [[1, 1, 1, 0, 0, 0, 0]] }
def aX : Tr := (askL (newL 1) 1 3 0 4).1
def aC2 : Co := { aC1 with txs := [aX], ev := [[1, 1, 1, 0, 0, 0, 0], [2, 0, 1, 3, 0, 4, 0]] }
theorem aS0 : Short (newL 1) := ⟨by show 0 ≤ 1000; omega, by show 0 ≤ 1000; omega, by show 0 ≤ 1000; omega, by show 0 ≤ 1000; omega, fun _ h => by cases h⟩
theorem aS1 : Short aX := ⟨by show 1 ≤ 1000; omega, by show 0 ≤ 1000; omega, by show 0 ≤ 1000; omega, by show 0 ≤ 1000; omega, fun _ h => by cases h⟩
theorem aT1 : Shs aX.tch := by
 show Shs [1]
 exact ⟨by simp [Ris], fun n hn => by rw [List.mem_singleton.1 hn]; decide⟩
theorem one_fst {L : List (Tr × Sl)} {x : Tr} (h : L.map Prod.fst = [x]) : ∃ s, L = [(x, s)] := by
 cases L with
 | nil => cases h
 | cons q r =>
   obtain ⟨q1, q2⟩ := q
   injection h with h1 h2
   cases r with
   | nil => exact ⟨q2, by rw [show q1 = x from h1]⟩
   | cons _ _ => cases h2
section
variable {g : Nat} {P : Pt}
set_option maxRecDepth 100000 in
set_option maxHeartbeats 8000000 in
theorem a_begin (w : World) (h : CoM w g 2 (newCo aF 2) P) : Calls Tryz.prog 23 #[.pointer (some ⟨g, 0, none⟩), .int .i64 1] w fun e w' => e = .returned (.tuple #[.int .i64 1, .nilIface]) ∧ ∃ P', CoS w w' g 2 P (fun _ => False) aC1 P' :=
 begin_ok 1 w h rfl rfl 0 (by have := h.r.txs; rw [List.map_eq_nil_iff.1 this]; rfl) (by omega) (by show 0 ≤ 1000; omega) (by show 0 ≤ 100000; omega) aC1.cl rfl aC1 rfl
set_option maxRecDepth 100000 in
set_option maxHeartbeats 8000000 in
theorem a_lock (w : World) (h : CoM w g 2 aC1 P) : Calls Tryz.prog 24 #[.pointer (some ⟨g, 0, none⟩), .int .i64 1, .agg #[.int .i64 3, .int .i64 0], .int .i64 4] w fun e w' => ∃ u, e = .returned (.tuple #[u, .nilIface]) ∧ MsgR w' w.heap.size u [lockL aX 1] ∧ ∃ P', CoS w w' g 2 P (fun _ => False) aC2 P' := by
 obtain ⟨s, hs⟩ := one_fst h.r.txs
 exact lock_ok 1 3 0 4 w h rfl 0 rfl (by rw [hs]; exact Nat.zero_lt_one) (by rw [hs]; show 1 ≤ 1000; omega) (newL 1) s (by simp only [hs]; rfl) aS0 Shs.nil (by show (0 : Int) ≤ 0; omega) rfl (by decide) aX [lockL aX 1] rfl (by show 1 ≤ 90000; omega) rfl aC2 rfl
set_option maxRecDepth 100000 in
set_option maxHeartbeats 8000000 in
theorem a_commit (w : World) (h : CoM w g 2 aC2 P) : Calls Tryz.prog 25 #[.pointer (some ⟨g, 0, none⟩), .int .i64 1] w fun e w' => e = .returned (.tuple #[.slice none 0 0, errno 8]) ∧ Below w.heap.size w w' := by
 obtain ⟨s, hs⟩ := one_fst h.r.txs
 exact commit_err 1 w h rfl 0 rfl (by rw [hs]; exact Nat.zero_lt_one) (by rw [hs]; show 1 ≤ 1000; omega) aX s (by simp only [hs]; rfl) aS1 aT1 Shs.nil aX [] 8 (by decide) rfl
end
set_option maxRecDepth 100000 in
set_option maxHeartbeats 16000000 in
theorem a_new (w : World) : Calls Tryz.prog 10 #[.agg #[.int .i64 2, .bool false, .int .i64 5, .int .i64 3, .int .i64 40, .int .i64 6, .int .i64 1000], .int .i64 2] w fun e w' => ∃ g, e = .returned (.tuple #[.pointer (some ⟨g, 0, none⟩), .nilIface]) ∧ ∃ P, CoM w' g 2 (newCo aF 2) P ∧ (∀ k, P.own g k → w.heap.size ≤ k) ∧ Below w.heap.size w w' :=
 coNew_ok aF 2 rfl (by omega) (by omega) w
set_option maxRecDepth 100000 in
set_option maxHeartbeats 16000000 in
theorem coordAlive (w : World) : Calls Tryz.prog 9 #[] w fun e w' => e = .returned (.bool true) ∧ Below w.heap.size w w' := by
 have hen := fun W => run_eql_nil_nil (P := Tryz.prog) W 28 Tryz.underlying28
 have hn0 := fun W => run_neq_nil_nil (P := Tryz.prog) W 28 Tryz.underlying28
 go_enter Tryz.func9, Tryz.ntmps9
 go_upto_region 4 with (first
   | (go_at_call 18; refine (lplain_any false _ rfl _).mono ?_; rintro e V1 ⟨rfl, hb⟩; have B1 := Lib.hid hb; clear hb)
   | (go_at_call 10; refine (a_new _).mono ?_; rintro e V2 ⟨g, rfl, P, hm, ho, hb⟩; have M2 := Lib.hid hm; have O2 := Lib.hid (fun k hk => Nat.le_trans B1.out.size (ho k hk)); have B2 := Lib.hid (stepB B1.out hb); clear hm ho hb))
 go_upto_region 5 with (go_at_call 23; refine (a_begin _ M2.out).mono ?_; rintro e V3 ⟨rfl, P3, hs⟩; have S3 := Lib.hid hs; have M3 := Lib.hid hs.m; clear hs)
 go_upto_region 6 with (go_at_call 24; refine (a_lock _ M3.out).mono ?_; rintro e V4 ⟨u, rfl, hu, P4, hs⟩; obtain ⟨A4, c4, e4⟩ := own_len hu; rw [e4] at hu; rw [e4]; clear e4 u; have U4 := Lib.hid hu; have S4 := Lib.hid (S3.out.trans hs); have M4 := Lib.hid hs.m; clear hs hu)
 go_upto_region 7 with (go_at_call 25; refine (a_commit _ M4.out).mono ?_; rintro e V5 ⟨rfl, hb⟩; have U5 := Lib.hid (own_step U4.out hb); have B5 := Lib.hid ((S4.out.turn.below (B := w.heap.size) (fun k hk e => by have := O2.out k (.inl e); omega) B2.out.size) |> fun h => stepB (B2.out.trans h) hb); clear hb)
 have HQ := Lib.hid (show ∀ m ∈ [lockL aX 1], m.length = 28 from fun m hm => by rw [List.mem_singleton.1 hm]; rfl)
 go_wp2_with (first
   | (refine wpList_build_msgs_g (by rfl) 1 _ rfl [lockL aX 1] HQ.out rfl (by omega) (by rfl) ?_
      have hd := U5.out.alloc (.cells (ints [lockL aX 1].flatten).toArray 45)
      have R6 := Lib.hid (Reads.of_own hd)
      have N6 := Lib.hid (show Reads (V5.alloc (.cells (ints [lockL aX 1].flatten).toArray 45)) (V5.heap.size + 1) 28 (some ⟨V5.heap.size, 0, none⟩) 1 (ints [lockL aX 1].flatten) from by
        have := reads_flat (V := V5) 45 (lockL aX 1) (size := 28) rfl
        simpa using this)
      have B6 := Lib.hid (stepA B5.out (.cells (ints [lockL aX 1].flatten).toArray 45))
      clear hd
      generalize V5.heap.size = r at N6 ⊢
      generalize V5.alloc (.cells (ints [lockL aX 1].flatten).toArray 45) = V6 at R6 N6 B6 ⊢)
   | (go_at_call 16; go_loud (refine (msgs_any _ _ _ _ _ _ _ _ [lockL aX 1] [lockL aX 1] _ (by show 1 ≤ 9223372036854775807; omega) rfl rfl HQ.out HQ.out R6.out N6.out).mono ?_; rintro e V7 ⟨rfl, qq, rfl⟩; rw [decide_eq_true rfl]; have B7 := Lib.hid (below_drewN B6.out qq); generalize V6.drewN qq = V7 at B7 ⊢))
   | (go_at_call 12; refine (code_errV 8 (.inr rfl) _).mono ?_; rintro e w' ⟨rfl, rfl⟩))
 go_ret
 exact ⟨rfl, B7.out⟩
theorem Reads.at33 {w : World} {B n : Nat} {A : Option Addr} {ls : List (List Int)} (h : Reads w B 33 A n (ints ls.flatten)) (hall : ∀ l ∈ ls, l.length = 33) (hn : ls.length = n) {i : Nat} (hi : i < n) :
   ∃ b off, A = some ⟨b, off, none⟩ ∧ b < B ∧ (ls.getD i []).length = 33 ∧ ∀ j v, (ints (ls.getD i []))[j]? = some v → w.cell? ((⟨b, off + i * 33, none⟩ : Addr).add j) = some v := by
 obtain ⟨b, off, e, hb, hc, h33⟩ := h.flat_at hall hn (by omega) hi
 refine ⟨b, off, e, hb, h33, fun j v hv => ?_⟩
 have hj : j < 33 := by have := (List.getElem?_eq_some_iff.1 hv).1; rwa [ints_length, h33] at this
 rw [show (⟨b, off + i * 33, none⟩ : Addr).add j = ⟨b, off + i * 33 + j, none⟩ by unfold Addr.add; split <;> simp_all]
 rw [hc j hj, ← hv]
 generalize ls.getD i [] = a at h33
 simp [ints, fld_get (show j < a.length by omega)]
theorem act18_info {a : List Int} (hl : a.length = 33) : (Tryz.prog.info? 47).map (·.size) = some (ints a).length := by
 rw [ints_length, hl]; kernel_rfl
def cfF (b : Bool) : Cfg := ⟨2, b, 5, 3, 40, 6, 1000⟩
theorem cfF_ok (b : Bool) : cfgB (cfF b) = true := by cases b <;> rfl
theorem cfF_new (n : Nat) (b : Bool) (w : World) (h1 : 1 ≤ n) (h8 : n ≤ 8) : Calls Tryz.prog 10 #[.agg #[.int .i64 2, .bool b, .int .i64 5, .int .i64 3, .int .i64 40, .int .i64 6, .int .i64 1000], .int .i64 (n : Int)] w fun e w' => ∃ g, e = .returned (.tuple #[.pointer (some ⟨g, 0, none⟩), .nilIface]) ∧ ∃ P, CoM w' g n (newCo (cfF b) n) P ∧ (∀ k, P.own g k → w.heap.size ≤ k) ∧ Below w.heap.size w w' :=
 coNew_ok (cfF b) n (cfF_ok b) h1 h8 w
theorem cfF_plain (b : Bool) (w : World) : Calls Tryz.prog 18 #[.bool b] w fun e w' => e = .returned (.agg #[.int .i64 2, .bool b, .int .i64 5, .int .i64 3, .int .i64 40, .int .i64 6, .int .i64 1000]) ∧ Below w.heap.size w w' := lplain_any b (cfF b) rfl w
theorem CoA.start (n : Nat) (b : Bool) (hn : n ≤ 8) : CoA n 0 (newCo (cfF b) n) := CoA.new (cfF b) hn ⟨by show (1 : Int) ≤ 2; omega, by show (2 : Int) ≤ 64; omega⟩ ⟨by show (1 : Int) ≤ 3; omega, by show (3 : Int) ≤ 1099511627776; omega⟩
structure ViewR (W : World) (B r N : Nat) (txs : List Tr) (L : List (Tr × Sl)) : Prop where
 row : W.ownsRow B 62 13 (.slice (some ⟨r, 0, none⟩) N N) N (rowT L)
 fst : L.map Prod.fst = txs
 len : txs.length = N
theorem ViewR.turn {S : Nat → Prop} {W W' : World} {B r N : Nat} {txs : List Tr} {L : List (Tr × Sl)} (h : ViewR W B r N txs L) (ht : Turn S W W') (hn : ∀ k, B ≤ k → ¬ S k) : ViewR W' B r N txs L :=
 ⟨own_turn h.row ht fun k hk => hn k (own_ge h.row hk).1, h.fst, h.len⟩
theorem ViewR.step {W W' : World} {B r N : Nat} {txs : List Tr} {L : List (Tr × Sl)} (h : ViewR W B r N txs L) (hb : Below W.heap.size W W') : ViewR W' B r N txs L := h.turn (S := fun _ => False) (Turn.of_below hb) fun _ _ => id
theorem ViewR.at_ {W : World} {B r N : Nat} {txs : List Tr} {L : List (Tr × Sl)} (h : ViewR W B r N txs L) {k : Nat} {x : Tr} (hx : txs[k]? = some x) : ∃ s, ∀ W', Below W.heap.size W W' → ∀ j u, (trv (x, s))[j]? = some u → W'.cell? ⟨r, k * 13 + j, none⟩ = some u := by
 have hk : k < txs.length := (List.getElem?_eq_some_iff.1 hx).1
 have hL : L.length = N := by rw [← h.len, ← h.fst, List.length_map]
 have hkL : k < L.length := by rw [hL, ← h.len]; exact hk
 have hf : (L[k]).1 = x := by
   rw [← h.fst, List.getElem?_map, List.getElem?_eq_getElem hkL] at hx
   exact Option.some.inj hx
 refine ⟨(L[k]).2, fun W' hb j u hu => ?_⟩
 have hs := h.step hb
 have h0 : TxR W' (.slice (some ⟨r, 0, none⟩) N N) L := by unfold TxR; rw [hL]; exact own_less hs.row (Nat.zero_le _)
 obtain ⟨b, ca, e, hc, _⟩ := h0.open hkL
 injection e with e1 e2 e3
 injection e1 with e1
 injection e1 with e1 _
 rw [e1]
 refine hc j u ?_
 rw [← hu, ← hf]
theorem view_N {g n : Nat} {c : Co} {P : Pt} (N : Nat) (hN : c.txs.length = N) (w : World) (h : CoM w g n c P) (G : CoG n c) :
   Calls Tryz.prog 19 #[.pointer (some ⟨g, 0, none⟩)] w fun e w' => ∃ r L ve, e = .returned (.agg #[.int .i64 c.tm, .int .i64 N, .slice (some ⟨r, 0, none⟩) N N, ve]) ∧ ViewR w' w.heap.size r N c.txs L ∧ w'.ownsRow w.heap.size 65 7 ve c.ev.length (ints c.ev.flatten) ∧ Below w.heap.size w w' := by
 subst hN
 exact (coView_any w h G).mono fun e w' ⟨r, L, ve, he, h1, h2, h3, h4, h5⟩ => ⟨r, L, ve, he, ⟨h2, h1, rfl⟩, h4, h5⟩
theorem CoS.view {w w' : World} {g n : Nat} {c' : Co} {P P' : Pt} {B r N : Nat} {txs : List Tr} {L : List (Tr × Sl)} (h : CoS w w' g n P (fun _ => False) c' P') (hP : ∀ k, P.tur g k → k < B) (hv : ViewR w B r N txs L) : ViewR w' B r N txs L :=
 hv.turn h.turn fun k hk hm => by have := hP k hm; omega
theorem CoS.old {w0 w w' : World} {g n : Nat} {c' : Co} {P P' : Pt} (h : CoS w w' g n P (fun _ => False) c' P') (ho : ∀ k, P.own g k → w0.heap.size ≤ k) (hb : Below w0.heap.size w0 w) : Below w0.heap.size w0 w' ∧ ∀ k, P'.own g k → w0.heap.size ≤ k :=
 ⟨hb.trans (h.turn.below (fun k hk e => by have := ho k (.inl e); omega) hb.size), fun k hk => by
   rcases h.own k hk with e | e | e
   · exact ho k e
   · exact Nat.le_trans hb.size e
   · exact e.elim⟩
theorem run_view3 (a b c d : Value) (W : World) : (Instr.field 56 (.agg #[a, b, c, d]) 3).run Tryz.prog W = .ok d W := by
 unfold Instr.field
 simp [run_underlying Tryz.underlying56, asAgg, part, Tryz.isAgg54, Tryz.sizeOf54]
def Stays (c c' : Co) : Prop := ∀ (k : Nat) (x : Tr), c.txs[k]? = some x → decided x = true → ∃ y, c'.txs[k]? = some y ∧ decided y = true ∧ y.st = x.st ∧ y.rs = x.rs
theorem Stays.same {c c' : Co} (h : c'.txs = c.txs) : Stays c c' := fun k x hx hd => ⟨x, by rw [h]; exact hx, hd, rfl, rfl⟩
theorem Stays.trans {c c' c'' : Co} (h : Stays c c') (h' : Stays c' c'') : Stays c c'' := fun k x hx hd => by
 obtain ⟨y, hy, hyd, h1, h2⟩ := h k x hx hd
 obtain ⟨z, hz, hzd, h3, h4⟩ := h' k y hy hyd
 exact ⟨z, hz, hzd, h3.trans h1, h4.trans h2⟩
theorem Stays.put {c c' : Co} {i : Nat} {x y : Tr} (hx : c.txs[i]? = some x) (h : c'.txs = c.txs.set i y) (hk : decided x = true → decided y = true ∧ y.st = x.st ∧ y.rs = x.rs) : Stays c c' := fun k z hz hd => by
 by_cases e : i = k
 · subst e
   rw [hx] at hz
   obtain rfl := Option.some.inj hz
   obtain ⟨h1, h2, h3⟩ := hk hd
   exact ⟨y, by rw [h, List.getElem?_set_self' , hx]; rfl, h1, h2, h3⟩
 · exact ⟨z, by rw [h, List.getElem?_set_ne e]; exact hz, hd, rfl, rfl⟩
theorem bec_txs (c : Co) (y : Tr) (i : Nat) : (becL c y i).1.txs = c.txs.set i y := by
 unfold becL; split; rfl; split <;> rfl
theorem dec_no {x : Tr} {s : Int} (h : x.st = s) (hs : s = 1 ∨ s = 2) : ¬ (decided x = true) := by
 unfold decided; simp; omega
theorem Stays.abt {c : Co} {i : Nat} {x : Tr} (hx : c.txs[i]? = some x) (r : Int) : Stays c (abtC c x i r).1 := by
 unfold abtC
 split
 · rename_i hc
   refine Stays.put hx (bec_txs _ _ _) fun hd => ?_
   exfalso
   unfold abtL at hc
   split at hc
   · cases hc
   · first | (rw [if_pos hd] at hc; cases hc) | cases hc
 · exact Stays.same rfl
theorem Stays.lsS (c : Co) (t : Int) : Stays c (lsS c t).1 := by
 unfold Go.Proofs.YtadnlannbafjpaaGreat.lsS
 split
 · rename_i h1
   obtain ⟨i, rfl, hi, hx⟩ := eL_one h1
   rw [show ((i : Int) + 1 - 1).toNat = i by omega]
   exact Stays.abt hx _
 · exact Stays.same rfl
theorem Stays.lsN (c : Co) (l : List Int) : ∀ k : Nat, Stays c (lsN c l k).1
 | 0 => Stays.same rfl
 | k + 1 => (Stays.lsN c l k).trans (Stays.lsS _ _)
theorem Stays.comes {c : Co} {i : Nat} {x : Tr} (hx : c.txs[i]? = some x) (m : List Int) : Stays c (comesL c x m i).1 := by
 have an : (ansL x m).2.2 = 0 → ∀ c', c'.txs = c.txs.set i (ansL x m).1 → Stays c c' := fun hc c' e => Stays.put hx e fun hd => absurd hd (dec_no (ans_ok (res3 hc)).2.2 (.inl rfl))
 unfold comesL
 split
 · split
   · rename_i hc; exact an hc _ rfl
   · exact Stays.same rfl
 split
 · split
   · rename_i hc; exact an hc _ rfl
   · exact Stays.same rfl
 split
 · split
   · rename_i hc
     refine Stays.put hx (bec_txs _ _ _) fun hd => ?_
     exfalso
     unfold votL at hc
     split at hc
     · cases hc
     split at hc
     · cases hc
     · rename_i h2; exact dec_no (Decidable.not_not.1 h2) (.inr rfl) hd
   · exact Stays.same rfl
 split
 · split
   · rename_i hc
     refine Stays.put hx rfl fun hd => ?_
     unfold ackL at hc ⊢
     split at hc
     · cases hc
     split at hc
     · cases hc
     split at hc
     · cases hc
     · rename_i h1 h2 h3
       rw [if_neg h1, if_neg h2, if_neg h3]
       exact ⟨hd, rfl, rfl⟩
   · exact Stays.same rfl
 split
 · exact Stays.abt hx _
 split
 · split
   · exact Stays.same rfl
   · exact Stays.abt hx _
 · exact Stays.same rfl
theorem Stays.act {n j : Nat} {c : Co} (h : CoA n j c) (a : List Int) : Stays c (actC n c a).1.1 := by
 unfold actC
 split
 · show Stays c (lockC n c _ _ _ _).1.1
   unfold lockC
   split; exact Stays.same rfl
   split; exact Stays.same rfl
   split; exact Stays.same rfl
   split
   · rename_i h1 h2 h3 h4
     obtain ⟨i, x, hi, hlt, hx⟩ := h.k.now (Decidable.not_not.1 h1) h2
     rw [hi, eL_at hx] at h4 ⊢
     rw [show ((i : Int) + 1 - 1).toNat = i by omega]
     refine Stays.put hx rfl fun hd => ?_
     exfalso
     unfold askL at h4
     split at h4; · cases h4
     split at h4; · cases h4
     rename_i h5
     exact dec_no (Decidable.not_not.1 h5) (.inl rfl) hd
   · exact Stays.same rfl
 split
 · show Stays c (finC n c _).1.1
   unfold finC
   split; exact Stays.same rfl
   split; exact Stays.same rfl
   split
   · rename_i h1 h2 h4
     obtain ⟨i, x, hi, hlt, hx⟩ := h.k.now (Decidable.not_not.1 h1) h2
     rw [hi, eL_at hx] at h4 ⊢
     rw [show ((i : Int) + 1 - 1).toNat = i by omega]
     refine Stays.put hx (bec_txs _ _ _) fun hd => ?_
     exfalso
     unfold finL at h4
     split at h4; · cases h4
     rename_i h5
     exact dec_no (Decidable.not_not.1 h5) (.inl rfl) hd
   · exact Stays.same rfl
 split
 · show Stays c (abrC n c _).1.1
   unfold abrC
   split; exact Stays.same rfl
   split; exact Stays.same rfl
   split; exact Stays.same rfl
   rename_i h1 h2 h4
   obtain ⟨i, x, hi, hlt, hx⟩ := h.k.now (Decidable.not_not.1 h1) h2
   rw [hi, eL_at hx, show ((i : Int) + 1 - 1).toNat = i by omega]
   exact Stays.abt hx _
 split
 · show Stays c (craC c _).1
   unfold craC; split; exact Stays.same rfl; exact Stays.same rfl
 split
 · show Stays c (begC n c _).1
   unfold begC
   split; exact Stays.same rfl
   split; exact Stays.same rfl
   exact fun k x hx hd => ⟨x, by
     show (c.txs ++ [newL ((c.txs.length : Int) + 1)])[k]? = some x
     rw [List.getElem?_append_left (List.getElem?_eq_some_iff.1 hx).1]; exact hx, hd, rfl, rfl⟩
 split
 · show Stays c (handleL c n _).1.1
   unfold handleL
   split; exact Stays.same rfl
   split; exact Stays.same rfl
   split
   · unfold probedL
     split; exact Stays.same rfl
     split
     · rename_i h1 h2
       by_cases hin : inL c.txs (vicL (a.drop 5) (fld (a.drop 5) 11).toNat) = true
       · exact Stays.abt (eL_some hin) _
       · have hlv : liveL (a.drop 5) (openC c n n) = true := by
           cases hl : liveL (a.drop 5) (openC c n n) with
           | true => rfl
           | false => exact absurd (.inr hl) h1
         exfalso
         have hN := isP_N (live_isP hlv)
         obtain ⟨q, hq, ej⟩ := vicL_mem (m := a.drop 5) (fld (a.drop 5) 11).toNat
         obtain ⟨i, hi', e⟩ := openC_mem h.k.cur _ (live_mem hlv (j := q) (by omega))
         have e : stTx (a.drop 5) q = (i : Int) + 1 := e
         refine hin ?_
         unfold inL
         rw [ej, e, decide_eq_true (by omega), decide_eq_true (by omega)]; rfl
     split; exact Stays.same rfl
     split; exact Stays.same rfl
     exact Stays.same rfl
   split; exact Stays.same rfl
   rename_i h4
   exact Stays.comes (eL_some (by simpa using h4)) _
 split
 · show Stays c (tickL n c).1
   have h1 : Stays c (tickC c).1 := (Stays.same (c' := tick1 c) rfl).trans (Stays.lsN _ _ _)
   unfold tickL
   split
   · exact h1.trans (Stays.same rfl)
   · exact h1
 · exact Stays.same rfl
end Go.Proofs.YtadnlannbafjpaaGreat
