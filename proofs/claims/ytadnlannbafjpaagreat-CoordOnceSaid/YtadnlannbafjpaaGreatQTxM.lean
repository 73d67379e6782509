/- A transaction as its coordinator knows it: plain data; what each call makes of it. -/
import Derived.Test.YtadnlannbafjpaaGreatQMsgA
import Derived.Test.YtadnlannbafjpaaGreatQFlats
import Derived.Test.YtadnlannbafjpaaGreatQCliC
import Derived.Test.YtadnlannbafjpaaGreatQShelf17
import Derived.Test.YtadnlannbafjpaaGreatQHeld
import Derived.RegionTactic
import Derived.BigRegion
import Derived.BigQuiet
import Derived.Deep.DeepCutAuto
import Derived.Deep.MidRow
import Derived.Test.YtadnlannbafjpaaGreatQMsgS
import Derived.Test.YtadnlannbafjpaaGreatQBase
import Derived.Lib.SliceRun
import Derived.Test.YtadnlannbafjpaaGreatQMsgF
namespace Go.Proofs.YtadnlannbafjpaaGreat
open Go.RowKit
set_option linter.unusedVariables false
set_option linter.unusedSimpArgs false
structure Tr where
 tx : Int
 st : Int
 rs : Int
 sq : Int
 op : Bool
 sh : Int
 a0 : Int
 a1 : Int
 md : Int
 tch : List Int
 vts : List Int
 acks : List Int
 got : List (List Int)
def msgL (k t tx sq a0 a1 md cd : Int) : List Int := [k, 0, t, tx, sq, a0, a1, md, cd, 0, 0, 0, 0, 0, 0, 0, 0, 0, 0, 0, 0, 0, 0, 0, 0, 0, 0, 0]
def lockL (x : Tr) (t : Int) : List Int := msgL 1 t x.tx x.sq x.a0 x.a1 x.md 0
def newsK (s : Int) : Int := if s = 2 then 4 else if s = 3 ∨ s = 4 then 6 else 8
def newsC (s : Int) : Int := if s = 3 then 1 else 0
def newsL (x : Tr) (t : Int) : List Int := msgL (newsK x.st) t x.tx 0 0 0 0 (newsC x.st)
def sendL (m : List Int) (l : List Int) : List (List Int) := l.map fun n => m.set 2 n
def withoutL (l o : List Int) : List Int := l.filter fun n => !o.contains n
def ins (n : Int) : List Int → List Int
 | [] => [n]
 | y :: r => if n < y then n :: y :: r else if n = y then y :: r else y :: ins n r
theorem mem_ins {n x : Int} : ∀ {l : List Int}, x ∈ ins n l ↔ x = n ∨ x ∈ l
 | [] => by simp [ins]
 | y :: r => by
   have := mem_ins (n := n) (x := x) (l := r)
   unfold ins
   split
   · simp
   · split
     · rename_i h; subst h; simp
     · simp only [List.mem_cons, this]
       constructor
       · rintro (h | h | h)
         · exact .inr (.inl h)
         · exact .inl h
         · exact .inr (.inr h)
       · rintro (h | h | h)
         · exact .inr (.inl h)
         · exact .inl h
         · exact .inr (.inr h)
theorem ris_ins' {n : Int} : ∀ {l : List Int}, Ris l → Ris (ins n l)
 | [], _ => by simp [ins, Ris]
 | y :: r, h => by
   obtain ⟨h1, h2⟩ := List.pairwise_cons.1 h
   have ih := ris_ins' (n := n) h2
   unfold ins
   split
   · rename_i hlt
     refine List.pairwise_cons.2 ⟨fun z hz => ?_, h⟩
     rcases List.mem_cons.1 hz with rfl | hz
     · exact hlt
     · have := h1 z hz; omega
   · split
     · exact h
     · refine List.pairwise_cons.2 ⟨fun z hz => ?_, ih⟩
       rcases mem_ins.1 hz with rfl | hz
       · omega
       · exact h1 z hz
theorem ins_same {n : Int} : ∀ {l : List Int}, Ris l → n ∈ l → ins n l = l
 | l, h, hm => ris_ext (ris_ins' h) h fun x => by rw [mem_ins]; constructor
                                                  · rintro (rfl | h); exact hm; exact h
                                                  · exact .inr
def comL (x : Tr) : Tr := { x with st := 3, op := false }
def pre2 (x : Tr) : Tr := { x with st := 2 }
def goOnL (x : Tr) : Tr × List (List Int) :=
 if x.st = 1 ∧ x.tch ≠ [] then (pre2 x, x.tch.map (newsL (pre2 x))) else if withoutL x.tch x.vts ≠ [] then (x, []) else (comL x, x.tch.map (newsL (comL x)))
def decided (x : Tr) : Bool := decide (x.st = 3 ∨ x.st = 4)
def abtX (x : Tr) (r : Int) : Tr := { x with st := 4, rs := r, op := false }
def badAsk (sh a0 a1 md : Int) : Prop := sh < 1 ∨ 64 < sh ∨ resB a0 a1 = false ∨ md < 1 ∨ 4 < md
instance (sh a0 a1 md : Int) : Decidable (badAsk sh a0 a1 md) := by unfold badAsk; infer_instance
def askX (x : Tr) (sh a0 a1 md : Int) : Tr := { x with sq := x.sq + 1, op := true, sh := sh, a0 := a0, a1 := a1, md := md, tch := ins sh x.tch }
abbrev Res3 := Tr × List (List Int) × Int
def askL (x : Tr) (sh a0 a1 md : Int) : Res3 :=
 if badAsk sh a0 a1 md then (x, [], 1) else if x.st ≠ 1 then (x, [], 11) else if x.op = true then (x, [], 8) else if 1048576 ≤ x.sq then (x, [], 6) else
 (askX x sh a0 a1 md, [lockL (askX x sh a0 a1 md) sh], 0)
def isOf (x : Tr) (m : List Int) (ks : List Int) : Bool := ks.contains (fld m 0) && (decide (fld m 3 = x.tx) && mayB m)
def stale (x : Tr) (m : List Int) : Bool := !x.op || (decide (fld m 4 ≠ x.sq) || (decide (fld m 1 ≠ x.sh) || (decide (fld m 0 = 2) && decide (¬ (fld m 5 = x.a0 ∧ fld m 6 = x.a1)))))
def grantL (m : List Int) : List Int := [fld m 3, fld m 4, fld m 5, fld m 6, fld m 7]
def ansX (x : Tr) (m : List Int) : Tr := { x with op := false, got := if fld m 0 = 2 then x.got ++ [grantL m] else x.got }
def ansL (x : Tr) (m : List Int) : Res3 :=
 if isOf x m [2, 3] = false then (x, [], 5) else if x.st ≠ 1 then (x, [], 11) else if stale x m = true then (x, [], 14) else (ansX x m, [], 0)
def finL (x : Tr) : Res3 := if x.st ≠ 1 then (x, [], 11) else if x.op = true then (x, [], 8) else ((goOnL x).1, (goOnL x).2, 0)
def abtL (x : Tr) (r : Int) : Res3 := if r < 1 ∨ 5 < r then (x, [], 1) else if decided x = true then (x, [], 15) else (abtX x r, x.tch.map (newsL (abtX x r)), 0)
def votX (x : Tr) (n : Int) : Tr := { x with vts := ins n x.vts }
def votL (x : Tr) (m : List Int) : Res3 :=
 if isOf x m [5] = false then (x, [], 5) else if x.st ≠ 2 then (x, [], 11) else if x.tch.contains (fld m 1) = false then (x, [], 10) else if fld m 8 = 0 then abtL x 2 else
 ((goOnL (votX x (fld m 1))).1, (goOnL (votX x (fld m 1))).2, 0)
def ackX (x : Tr) (n : Int) : Tr := { x with acks := ins n x.acks }
def ackL (x : Tr) (m : List Int) : Res3 :=
 if isOf x m [7] = false then (x, [], 5) else if decided x = false then (x, [], 11) else if x.tch.contains (fld m 1) = false then (x, [], 10) else (ackX x (fld m 1), [], 0)
def againL (x : Tr) (alive : Bool) : List (List Int) :=
 if x.st = 1 then (if x.op = true then [lockL x x.sh] else []) ++ (if alive = true then x.tch.map (newsL x) else [])
 else if x.st = 2 then (withoutL x.tch x.vts).map (newsL x) else if x.st = 3 ∨ x.st = 4 then (withoutL x.tch x.acks).map (newsL x) else []
def overB (x : Tr) : Bool := decided x && decide (withoutL x.tch x.acks = [])
def newL (tx : Int) : Tr := ⟨tx, 1, 0, 0, false, 0, 0, 0, 0, [], [], [], []⟩
def noTr : Tr := ⟨0, 0, 0, 0, false, 0, 0, 0, 0, [], [], [], []⟩
structure Shs (l : List Int) : Prop where
 ris : Ris l
 all : ∀ n ∈ l, 1 ≤ n ∧ n ≤ 64
theorem Shs.nil : Shs [] := ⟨List.Pairwise.nil, fun _ h => by cases h⟩
theorem Shs.ins {l : List Int} (h : Shs l) {n : Int} (hn : 1 ≤ n ∧ n ≤ 64) : Shs (ins n l) := ⟨ris_ins' h.ris, fun x hx => by rcases mem_ins.1 hx with rfl | hx; exact hn; exact h.all x hx⟩
theorem Shs.len {l : List Int} (h : Shs l) : l.length ≤ 64 := by
 have := nodup_len (l := l) (m := (List.range 64).map fun (i : Nat) => (i : Int) + 1) (ris_nodup h.ris) fun x hx => by
   have := h.all x hx
   exact List.mem_map.2 ⟨(x - 1).toNat, by rw [List.mem_range]; omega, by omega⟩
 simpa using this
structure TrOk (x : Tr) (k : Nat) : Prop where
 tx : 1 ≤ x.tx ∧ x.tx ≤ 1048576
 st : 1 ≤ x.st ∧ x.st ≤ 4
 rs0 : x.st ≤ 3 → x.rs = 0
 rs1 : x.st = 4 → 1 ≤ x.rs ∧ x.rs ≤ 5
 sq : 0 ≤ x.sq ∧ x.sq ≤ 1048576
 op : x.op = true → x.st = 1 ∧ 1 ≤ x.sq ∧ resB x.a0 x.a1 = true ∧ (1 ≤ x.md ∧ x.md ≤ 4) ∧ x.sh ∈ x.tch
 tch : Shs x.tch
 vts : Shs x.vts
 acks : Shs x.acks
 sub : ∀ n ∈ x.vts, n ∈ x.tch
 com : x.st = 3 → withoutL x.tch x.vts = []
 len : x.got.length ≤ k
 got : ∀ g ∈ x.got, g.length = 5
theorem TrOk.new {tx : Int} (h : 1 ≤ tx ∧ tx ≤ 1048576) (k : Nat) : TrOk (newL tx) k :=
 { tx := h, st := ⟨by show (1 : Int) ≤ 1; omega, by show (1 : Int) ≤ 4; omega⟩, rs0 := fun _ => rfl, rs1 := (fun e => by have : (1 : Int) = 4 := e; omega), sq := ⟨by show (0 : Int) ≤ 0; omega, by show (0 : Int) ≤ 1048576; omega⟩, op := (fun e => by cases e),
   tch := Shs.nil, vts := Shs.nil, acks := Shs.nil, sub := (fun _ e => by cases e), com := (fun _ => rfl), len := Nat.zero_le _, got := (fun _ e => by cases e) }
theorem TrOk.more {x : Tr} {k k' : Nat} (h : TrOk x k) (hk : k ≤ k') : TrOk x k' := { h with len := Nat.le_trans h.len hk }
theorem without_mem {l o : List Int} {n : Int} : n ∈ withoutL l o ↔ n ∈ l ∧ n ∉ o := by simp [withoutL]
theorem TrOk.goOn {x : Tr} {k : Nat} (h : TrOk x k) (hop : x.op = false) (hst : x.st = 1 ∨ x.st = 2) : TrOk (goOnL x).1 k := by
 have hr := h.rs0 (by omega)
 unfold goOnL
 split
 · exact { h with st := ⟨by show (1 : Int) ≤ 2; omega, by show (2 : Int) ≤ 4; omega⟩, rs0 := fun _ => hr, rs1 := (fun e => by have : (2 : Int) = 4 := e; omega), op := (fun e => by rw [show (pre2 x).op = x.op from rfl, hop] at e; cases e), com := (fun e => by have : (2 : Int) = 3 := e; omega) }
 · split
   · exact h
   · rename_i h2
     exact { h with st := ⟨by show (1 : Int) ≤ 3; omega, by show (3 : Int) ≤ 4; omega⟩, rs0 := fun _ => hr, rs1 := (fun e => by have : (3 : Int) = 4 := e; omega), op := (fun e => by cases e), com := fun _ => Decidable.byContradiction h2 }
theorem TrOk.abt {x : Tr} {k : Nat} (h : TrOk x k) {r : Int} (hr : 1 ≤ r ∧ r ≤ 5) : TrOk (abtX x r) k :=
 { h with st := ⟨by show (1 : Int) ≤ 4; omega, by show (4 : Int) ≤ 4; omega⟩, rs0 := (fun e => by have : (4 : Int) ≤ 3 := e; omega), rs1 := fun _ => hr, op := (fun e => by cases e), com := (fun e => by have : (4 : Int) = 3 := e; omega) }
theorem TrOk.vot {x : Tr} {k : Nat} (h : TrOk x k) {n : Int} (hn : n ∈ x.tch) (hst : x.st = 2) : TrOk (votX x n) k :=
 { h with vts := h.vts.ins (h.tch.all n hn), sub := (fun y hy => by rcases mem_ins.1 hy with rfl | hy; exact hn; exact h.sub y hy), com := (fun e => by have : x.st = 3 := e; omega) }
theorem TrOk.ack {x : Tr} {k : Nat} (h : TrOk x k) {n : Int} (hn : n ∈ x.tch) : TrOk (ackX x n) k := { h with acks := h.acks.ins (h.tch.all n hn) }
theorem TrOk.ans {x : Tr} {k : Nat} (h : TrOk x k) (m : List Int) : TrOk (ansX x m) (k + 1) :=
 { h with
   op := (fun e => by cases e)
   len := (by
     have := h.len
     show (if fld m 0 = 2 then x.got ++ [grantL m] else x.got).length ≤ k + 1
     split
     · rw [List.length_append]; simp; omega
     · omega)
   got := (by
     show ∀ g ∈ (if fld m 0 = 2 then x.got ++ [grantL m] else x.got), g.length = 5
     split
     · intro g hg
       rcases List.mem_append.1 hg with hg | hg
       · exact h.got g hg
       · rw [List.mem_singleton.1 hg]; rfl
     · exact h.got) }
theorem TrOk.ask {x : Tr} {k : Nat} (h : TrOk x k) {sh a0 a1 md : Int} (hb : ¬ badAsk sh a0 a1 md) (hst : x.st = 1) (hs : ¬ 1048576 ≤ x.sq) : TrOk (askX x sh a0 a1 md) k := by
 have hsh : 1 ≤ sh ∧ sh ≤ 64 := by unfold badAsk at hb; omega
 have hmd : 1 ≤ md ∧ md ≤ 4 := by unfold badAsk at hb; omega
 have hre : resB a0 a1 = true := by
   cases hx : resB a0 a1 with
   | true => rfl
   | false => exact absurd (.inr (.inr (.inl hx))) hb
 have h0 := h.sq
 exact { h with
   sq := ⟨by show 0 ≤ x.sq + 1; omega, by show x.sq + 1 ≤ 1048576; omega⟩
   op := fun _ => ⟨hst, by show 1 ≤ x.sq + 1; omega, hre, hmd, mem_ins.2 (.inl rfl)⟩
   tch := h.tch.ins hsh
   sub := fun n hn => mem_ins.2 (.inr (h.sub n hn))
   com := fun e => by have : x.st = 3 := e; omega }
end Go.Proofs.YtadnlannbafjpaaGreat
/- A transaction in memory; slices.Clone, slices.Contains at rows of the call's own. -/
namespace Go.Proofs.YtadnlannbafjpaaGreat
open Go.RowKit Go.Shelf Go.Lib Go.Sort
set_option linter.unusedVariables false
set_option linter.unusedSimpArgs false
structure Sl where
 t : Value
 v : Value
 k : Value
 g : Value
def noSl : Sl := ⟨.slice none 0 0, .slice none 0 0, .slice none 0 0, .slice none 0 0⟩
def trc (x : Tr) (s : Sl) : Array Value := #[.int .i64 x.tx, .int .i64 x.st, .int .i64 x.rs, .int .i64 x.sq, .bool x.op, .int .i64 x.sh, .int .i64 x.a0, .int .i64 x.a1, .int .i64 x.md, s.t, s.v, s.k, s.g]
abbrev NumR (w : World) (B : Nat) (v : Value) (l : List Int) : Prop := w.ownsRow B 3 1 v l.length (i64s l)
abbrev GraR (w : World) (B : Nat) (v : Value) (l : List (List Int)) : Prop := w.ownsRow B 149 5 v l.length (ints l.flatten)
abbrev MsgR (w : World) (B : Nat) (v : Value) (l : List (List Int)) : Prop := w.ownsRow B 45 28 v l.length (ints l.flatten)
structure Tm (w : World) (B : Nat) (x : Tr) (s : Sl) : Prop where
 t : NumR w B s.t x.tch
 v : NumR w B s.v x.vts
 k : NumR w B s.k x.acks
 g : GraR w B s.g x.got
structure Apart (s : Sl) : Prop where
 tv : ∀ b, s.t.ownBlock = some b → s.v.ownBlock ≠ some b
 tk : ∀ b, s.t.ownBlock = some b → s.k.ownBlock ≠ some b
 vk : ∀ b, s.v.ownBlock = some b → s.k.ownBlock ≠ some b
theorem own_step {w w' : World} {B n size : Nat} {e : TypeId} {v : Value} {xs : List Value} (h : w.ownsRow B e size v n xs) (hb : Below w.heap.size w w') : w'.ownsRow B e size v n xs := own_turn h (Turn.of_below hb (S := fun _ => False)) (fun _ _ => id)
theorem own_one {w : World} {B n size : Nat} {e : TypeId} {v : Value} {xs : List Value} (h : w.ownsRow B e size v n xs) : v.oneCell' = true := by
 rcases h.2 with ⟨rfl, _⟩ | ⟨g, cap, cur, rfl, _⟩ <;> rfl
theorem own_len {w : World} {B n size : Nat} {e : TypeId} {v : Value} {xs : List Value} (h : w.ownsRow B e size v n xs) : ∃ A c, v = .slice A n c := by
 rcases h.2 with ⟨rfl, h0⟩ | ⟨g, cap, cur, rfl, _⟩
 · exact ⟨none, 0, by rw [h0]⟩
 · exact ⟨_, _, rfl⟩
theorem own_rd {w : World} {base n size : Nat} {t : TypeId} {v : Value} {xs : List Value} (h : w.ownsRow base t size v n xs) : ∃ A c, v = .slice A n c ∧ Reads w w.heap.size size A n xs ∧ n ≤ c ∧ (∀ ad, A = some ad → base ≤ ad.block) := by
 rcases h.2 with ⟨rfl, h0⟩ | ⟨g', cap', cur, rfl, hb, hh, hnc, _⟩
 · subst h0; exact ⟨_, _, rfl, Reads.of_own h, Nat.le_refl _, fun ad e => by cases e⟩
 · exact ⟨_, _, rfl, Reads.of_own h, hnc, fun ad e => by cases e; exact hb⟩
theorem reads_flat {V : World} (t : TypeId) (l : List Int) {size : Nat} (hl : l.length = size) : Reads (V.alloc (.cells (ints l).toArray t)) (V.heap.size + 1) size (some ⟨V.heap.size, 0, none⟩) 1 (ints l) :=
 ⟨by rw [ints_length]; omega, fun _ => ⟨_, rfl, by simp, fun j u hu => by
   have h1 := (Blk.new V t (ints l).toArray).cell j
   have h2 : (⟨V.heap.size, 0, none⟩ : Addr).add j = ⟨V.heap.size, j, none⟩ := by unfold Addr.add; split <;> simp_all
   rw [h2, h1]; simpa using hu⟩⟩
theorem mc_cell {w : World} {g : Nat} {t : TypeId} {m : List Int} (hl : m.length = 28) (h : Blk w g t (mc m)) {i : Nat} (hi : i < 28) : w.cell? ⟨g, i, none⟩ = some (.int .i64 (fld m i)) := by rw [h.cell i]; exact mc_get hl hi
theorem mc_setCell {w : World} {g : Nat} {t : TypeId} {m : List Int} (h : Blk w g t (mc m)) (i : Nat) (z : Int) : Blk (w.setCell ⟨g, i, none⟩ (.int .i64 z)) g t (mc (m.set i z)) := by
 have := h.set_ i (.int .i64 z)
 rwa [show (mc m).setIfInBounds i (.int .i64 z) = mc (m.set i z) from by simp [mc, ints]] at this
section
variable {w w' : World} {B B' : Nat} {x : Tr} {s : Sl}
theorem Tm.step (h : Tm w B x s) (hb : Below w.heap.size w w') : Tm w' B x s := ⟨own_step h.t hb, own_step h.v hb, own_step h.k hb, own_step h.g hb⟩
theorem Tm.less (h : Tm w B x s) (hb : B' ≤ B) : Tm w B' x s := ⟨own_less h.t hb, own_less h.v hb, own_less h.k hb, own_less h.g hb⟩
theorem own_off {w w' : World} {B n size : Nat} {e : TypeId} {v : Value} {xs : List Value} {S : Nat → Prop} (h : w.ownsRow B e size v n xs) (ht : Turn S w w') (hn : ∀ k, B ≤ k → k < w.heap.size → ¬ S k) : w'.ownsRow B e size v n xs :=
 own_turn h ht fun k hk => by obtain ⟨cur, hh, h1⟩ := own_heap h k hk; exact hn k h1 (own_lt hh)
theorem Tm.turn {S : Nat → Prop} (h : Tm w B x s) (ht : Turn S w w') (hn : ∀ k, B ≤ k → k < w.heap.size → ¬ S k) : Tm w' B x s := ⟨own_off h.t ht hn, own_off h.v ht hn, own_off h.k ht hn, own_off h.g ht hn⟩
theorem Tm.none (w : World) (B : Nat) {x : Tr} (h1 : x.tch = []) (h2 : x.vts = []) (h3 : x.acks = []) (h4 : x.got = []) : Tm w B x noSl := by
 refine ⟨?_, ?_, ?_, ?_⟩
 · rw [h1]; exact World.ownsRow_nil _ _ _ _
 · rw [h2]; exact World.ownsRow_nil _ _ _ _
 · rw [h3]; exact World.ownsRow_nil _ _ _ _
 · rw [h4]; exact World.ownsRow_nil _ _ _ _
theorem Tm.new (w : World) (B : Nat) (tx : Int) : Tm w B (newL tx) noSl := Tm.none w B rfl rfl rfl rfl
theorem tr_one (x : Tr) (s : Sl) (h0 : s.t.oneCell' = true) (h1 : s.v.oneCell' = true) (h2 : s.k.oneCell' = true) (h3 : s.g.oneCell' = true) : (trc x s).all (·.oneCell') = true :=
 all_oneCell_toArray (cs := [.int .i64 x.tx, .int .i64 x.st, .int .i64 x.rs, .int .i64 x.sq, .bool x.op, .int .i64 x.sh, .int .i64 x.a0, .int .i64 x.a1, .int .i64 x.md, s.t, s.v, s.k, s.g]) (fun v hv => by
   simp only [List.mem_cons, List.mem_nil_iff, or_false] at hv
   rcases hv with rfl | rfl | rfl | rfl | rfl | rfl | rfl | rfl | rfl | rfl | rfl | rfl | rfl
   all_goals first | rfl | assumption)
theorem Tm.one (h : Tm w B x s) : (trc x s).all (·.oneCell') = true := tr_one x s (own_one h.t) (own_one h.v) (own_one h.k) (own_one h.g)
end
theorem info_txn : (Tryz.prog.info? 62).map (·.size) = some 13 := by kernel_rfl
theorem tr_info (x : Tr) (s : Sl) : (Tryz.prog.info? 62).map (·.size) = some (trc x s).size := info_txn
theorem tr_load {w : World} {g : Nat} {x : Tr} {s : Sl} (h : Blk w g 62 (trc x s)) : (loadVar 62 ⟨g, 0, none⟩).run Tryz.prog w = .ok (.agg (trc x s)) w :=
 run_loadVar_row w g _ 62 (trc x s) (0, 0) _ h Tryz.underlying62 rfl (tr_info x s)
theorem results_one {P : Program} {fn : Func} {p : Tmp} {ty : TypeId} (h : fn.results = #[.cell p ty]) {tmps : Array Value} {w : World} {a : Addr} {u : Value} (hp : tmps.getD p undef = .pointer (some a))
   (hu : (loadVar ty a).run P w = .ok u w) : (results fn tmps).run P w = .ok u w := by
 have hp' : tmps[p]?.getD undef = .pointer (some a) := by simpa using hp
 simp [results, h, hp', asAddr, hu]
theorem results_and2 {P : Program} {fn : Func} {p q r : Tmp} {ty : TypeId} (h : fn.results = #[.cell p ty, .tmp q, .tmp r]) {tmps : Array Value} {w : World} {a : Addr} {u v x : Value} (hp : tmps.getD p undef = .pointer (some a)) (hq : tmps.getD q undef = v) (hr : tmps.getD r undef = x)
   (hu : (loadVar ty a).run P w = .ok u w) : (results fn tmps).run P w = .ok (.tuple #[u, v, x]) w := by
 have hp' : tmps[p]?.getD undef = .pointer (some a) := by simpa using hp
 have hq' : tmps[q]?.getD undef = v := by simpa using hq
 have hr' : tmps[r]?.getD undef = x := by simpa using hr
 simp [results, h, hp', hq', hr', asAddr, hu]
/-! ### the library -/
theorem info_grant : (Tryz.prog.info? 149).map (fun i => (i.zero, i.size, i.bytes)) = some (some (.agg #[.int .i64 0, .int .i64 0, .int .i64 0, .int .i64 0, .int .i64 0]), 5, 40) := by kernel_rfl
theorem ints_one (l : List Int) : ∀ v ∈ ints l, v.oneCell' = true := fun v hv => by obtain ⟨c, _, rfl⟩ := List.mem_map.1 hv; rfl
section
variable {w : World} {B : Nat} {v : Value}
theorem clone_int {l : List Int} (w : World) (h : NumR w B v l) (hn : l.length ≤ 1000) :
   Calls Tryz.prog 83 #[v] w fun e w' => ∃ v', e = .returned v' ∧ NumR w' w.heap.size v' l ∧ Below w.heap.size w w' := by
 obtain ⟨i0, hi0, hz0, hz1, hz2⟩ := info_parts info_int
 rcases h.2 with ⟨rfl, h0⟩ | ⟨g, cap, cur, rfl, hb, hh, h2⟩
 · have hl : l = [] := List.eq_nil_of_length_eq_zero h0
   subst hl
   exact (AnyE.slices_Clone_nil Tryz.laysCloneI 0 0 w).mono fun e w' ⟨he, hw⟩ => ⟨_, he, World.ownsRow_nil _ _ _ _, by subst hw; exact Below.refl _ _⟩
 · have hc : ∀ j u, (i64s l)[j]? = some u → w.cell? ⟨g, 0 + j, none⟩ = some u := fun j u hu => by rw [Nat.zero_add]; exact own_cell h hu
   have := AnyE.slices_Clone Tryz.laysCloneI i0 _ 1 8 hi0 hz0 hz1 hz2 rfl (by omega) Tryz.sizeOf3 g 0 l.length cap (i64s l) w (by rw [i64s_length]; omega) (by unfold maxLen; omega) (by omega) hc (i64s_one l)
   exact Calls.mono this fun e w' ⟨v', he, ho, _, hb'⟩ => ⟨v', he, ho, hb'⟩
theorem clone_gra {l : List (List Int)} (w : World) (h : GraR w B v l) (hn : l.length ≤ 1000) (h5 : ∀ m ∈ l, m.length = 5) :
   Calls Tryz.prog 84 #[v] w fun e w' => ∃ v', e = .returned v' ∧ GraR w' w.heap.size v' l ∧ Below w.heap.size w w' := by
 obtain ⟨i0, hi0, hz0, hz1, hz2⟩ := info_parts info_grant
 rcases h.2 with ⟨rfl, h0⟩ | ⟨g, cap, cur, rfl, hb, hh, h2⟩
 · have hl : l = [] := List.eq_nil_of_length_eq_zero h0
   subst hl
   exact (AnyE.slices_Clone_nil Tryz.laysCloneG 0 0 w).mono fun e w' ⟨he, hw⟩ => ⟨_, he, World.ownsRow_nil _ _ _ _, by subst hw; exact Below.refl _ _⟩
 · have hc : ∀ j u, (ints l.flatten)[j]? = some u → w.cell? ⟨g, 0 + j, none⟩ = some u := fun j u hu => by rw [Nat.zero_add]; exact own_cell h hu
   have := AnyE.slices_Clone Tryz.laysCloneG i0 _ 5 40 hi0 hz0 hz1 hz2 rfl (by omega) Tryz.sizeOf149 g 0 l.length cap (ints l.flatten) w h.1 (by unfold maxLen; omega) (by omega) hc (ints_one _)
   exact Calls.mono this fun e w' ⟨v', he, ho, _, hb'⟩ => ⟨v', he, ho, hb'⟩
theorem cont_own {l : List Int} (x : Int) (w : World) (h : NumR w B v l) (hn : l.length ≤ 1000) :
   Calls Tryz.prog 129 #[v, .int .i64 x] w fun e w' => e = .returned (.bool (l.contains x)) ∧ w = w' := by
 rcases h.2 with ⟨rfl, h0⟩ | ⟨g, cap, cur, rfl, hb, hh, h2⟩
 · have hl : l = [] := List.eq_nil_of_length_eq_zero h0
   subst hl
   have hc := AnyG.slices_Contains_int_empty Tryz.laysContains none 0 x w
   change Calls Tryz.prog 129 _ _ _ at hc
   exact hc.mono fun e w' ⟨h1, h2⟩ => ⟨h1, h2.symm⟩
 · have hc : ∀ j, j < l.length → w.cell? ⟨g, 0 + j, none⟩ = some (.int .i64 (gd l j)) := fun j hj => by rw [Nat.zero_add]; exact own_gd h hj
   have hc := AnyG.slices_Contains_int Tryz.laysContains g 0 l.length cap l x w (by omega) (by omega) (fun j hj => hc j hj)
   change Calls Tryz.prog 129 _ _ _ at hc
   rw [List.take_of_length_le (by omega)] at hc
   exact hc.mono fun e w' ⟨h1, h2⟩ => ⟨h1, h2.symm⟩
end
theorem srt_ins {l : List Int} {n : Int} (h : Ris l) (hn : n ∉ l) : srt (l ++ [n]) = ins n l :=
 ris_ext (srt_ris (by
   rw [List.nodup_append]
   exact ⟨ris_nodup h, by simp, fun a ha b hb e => by rw [List.mem_singleton.1 hb] at e; exact hn (e ▸ ha)⟩)) (ris_ins' h) fun y => by
     rw [srt_mem, mem_ins, List.mem_append, List.mem_singleton]
     constructor
     · rintro (h | h); exact .inr h; exact .inl h
     · rintro (h | h); exact .inr h; exact .inl h
end Go.Proofs.YtadnlannbafjpaaGreat
/- A transaction with lists of its own. -/
namespace Go.Proofs.YtadnlannbafjpaaGreat
open Go.RowKit
set_option linter.unusedVariables false
set_option linter.unusedSimpArgs false
abbrev zTr : Array Value := #[.int .i64 0, .int .i64 0, .int .i64 0, .int .i64 0, .bool false, .int .i64 0, .int .i64 0, .int .i64 0, .int .i64 0, .slice none 0 0, .slice none 0 0, .slice none 0 0, .slice none 0 0]
structure Short (x : Tr) : Prop where
 t : x.tch.length ≤ 1000
 v : x.vts.length ≤ 1000
 k : x.acks.length ≤ 1000
 g : x.got.length ≤ 1000
 g5 : ∀ m ∈ x.got, m.length = 5
theorem TrOk.short {x : Tr} {k : Nat} (h : TrOk x k) (hk : k ≤ 1000) : Short x := ⟨by have := h.tch.len; omega, by have := h.vts.len; omega, by have := h.acks.len; omega, by have := h.len; omega, h.got⟩
theorem own_ge {w : World} {B n size : Nat} {e : TypeId} {v : Value} {xs : List Value} (h : w.ownsRow B e size v n xs) {b : Nat} (hb : v.ownBlock = some b) : B ≤ b ∧ b < w.heap.size := by
 obtain ⟨cur, hh, h1⟩ := own_heap h b hb
 exact ⟨h1, own_lt hh⟩
set_option maxRecDepth 100000 in
set_option maxHeartbeats 8000000 in
theorem own_any {B : Nat} (x : Tr) (s : Sl) (w : World) (h : Tm w B x s) (hs : Short x) :
   Calls Tryz.prog 90 #[.agg (trc x s)] w fun e w' => ∃ s', e = .returned (.agg (trc x s')) ∧ Tm w' w.heap.size x s' ∧ Apart s' ∧ Below w.heap.size w w' := by
 have HS := Lib.hid hs
 have X1 := Lib.hid ((Blk.new w 62 (trc x s)).alloc (.cells zTr 62))
 have Z1 := Lib.hid (Blk.new_at (w := w.alloc (.cells (trc x s) 62)) (n := w.heap.size + 1) (by simp) 62 zTr)
 have B1 := Lib.hid ((Joins.below_alloc1 w (.cells (trc x s) 62)).alloc (by simp) (.cells zTr 62))
 have H1 := Lib.hid (h.step B1.out)
 have H0 := Lib.hid h
 clear h hs
 go_enter Tryz.func90, Tryz.ntmps90
 go_upto_region 1 with fail
 obtain ⟨g, hg⟩ : ∃ g, g = w.heap.size := ⟨_, rfl⟩
 have HG := Lib.hid hg
 rw [← hg] at X1 Z1 ⊢
 clear hg
 generalize (w.alloc (.cells (trc x s) 62)).alloc (.cells zTr 62) = V at X1 Z1 B1 H1 ⊢
 have hgl := X1.out.lt
 have hzl := Z1.out.lt
 have KP := Lib.hid (show ∀ Y, Below V.heap.size V Y → (Y.cell? ⟨g, 9, none⟩ = some s.t ∧ Y.cell? ⟨g, 10, none⟩ = some s.v ∧ Y.cell? ⟨g, 11, none⟩ = some s.k) from fun Y hy =>
   ⟨(X1.out.below hy hgl).cell 9, (X1.out.below hy hgl).cell 10, (X1.out.below hy hgl).cell 11⟩)
 refine wp_region_till 10 (fun w' => w'.cell? ⟨g, 9, none⟩ = some s.t ∧ w'.cell? ⟨g, 10, none⟩ = some s.v ∧ w'.cell? ⟨g, 11, none⟩ = some s.k) (by kernel_rfl) (KP.out _ (Below.refl _ _).drew) (fun hHeld => ?_)
 have BD := Lib.hid (show Below V.heap.size V V.drew from (Below.refl _ _).drew)
 generalize V.drew = V1 at BD hHeld ⊢
 refine wpTill_take (i := 0) (v := ?_) rfl (by kernel_rfl) (by kernel_rfl) (by kernel_rfl) (by kernel_rfl) (fun _ _ _ h => h) (Or.inl ⟨by rfl, ?_⟩) (by assumption) ?_
 rotate_left
 · (intro w0 hSw; (try dsimp only at hSw); go_simp; try with_reducible rfl)
 try simp only [List.getElem_toArray, List.getElem_cons_succ, List.getElem_cons_zero, Act.put, List.setIfInBounds_toArray, List.set_cons_zero, List.set_cons_succ]
 refine wpTill_take (i := 1) (v := ?_) rfl (by kernel_rfl) (by kernel_rfl) (by kernel_rfl) (by kernel_rfl) (fun _ _ _ h => h) (Or.inl ⟨by rfl, ?_⟩) (by assumption) ?_
 rotate_left
 · (intro w0 hSw; (try dsimp only at hSw); go_simp; try with_reducible rfl)
 try simp only [List.getElem_toArray, List.getElem_cons_succ, List.getElem_cons_zero, Act.put, List.setIfInBounds_toArray, List.set_cons_zero, List.set_cons_succ]
 refine wpTill_take (i := 3) (v := ?_) rfl (by kernel_rfl) (by kernel_rfl) (by kernel_rfl) (by kernel_rfl) (fun _ _ _ h => h) (Or.inl ⟨by rfl, ?_⟩) (by assumption) ?_
 rotate_left
 · (intro w0 hSw; (try dsimp only at hSw); go_simp; try with_reducible rfl)
 try simp only [List.getElem_toArray, List.getElem_cons_succ, List.getElem_cons_zero, Act.put, List.setIfInBounds_toArray, List.set_cons_zero, List.set_cons_succ]
 refine wpTill_take (i := 4) (v := ?_) rfl (by kernel_rfl) (by kernel_rfl) (by kernel_rfl) (by kernel_rfl) (fun _ _ _ h => h) (Or.inl ⟨by rfl, ?_⟩) (by assumption) ?_
 rotate_left
 · (intro w0 hSw; (try dsimp only at hSw); go_simp; try with_reducible rfl)
 try simp only [List.getElem_toArray, List.getElem_cons_succ, List.getElem_cons_zero, Act.put, List.setIfInBounds_toArray, List.set_cons_zero, List.set_cons_succ]
 refine wpTill_take (i := 6) (v := ?_) rfl (by kernel_rfl) (by kernel_rfl) (by kernel_rfl) (by kernel_rfl) (fun _ _ _ h => h) (Or.inl ⟨by rfl, ?_⟩) (by assumption) ?_
 rotate_left
 · (intro w0 hSw; (try dsimp only at hSw); go_simp; try with_reducible rfl)
 try simp only [List.getElem_toArray, List.getElem_cons_succ, List.getElem_cons_zero, Act.put, List.setIfInBounds_toArray, List.set_cons_zero, List.set_cons_succ]
 refine wpTill_take (i := 7) (v := ?_) rfl (by kernel_rfl) (by kernel_rfl) (by kernel_rfl) (by kernel_rfl) (fun _ _ _ h => h) (Or.inl ⟨by rfl, ?_⟩) (by assumption) ?_
 rotate_left
 · (intro w0 hSw; (try dsimp only at hSw); go_simp; try with_reducible rfl)
 try simp only [List.getElem_toArray, List.getElem_cons_succ, List.getElem_cons_zero, Act.put, List.setIfInBounds_toArray, List.set_cons_zero, List.set_cons_succ]
 refine wpTill_ready (rs := [2]) (by kernel_rfl) (by simp) ?_
 refine AllTill.cons rfl (fun K hK => ?_) AllTill.nil
 go_simp
 refine (clone_int _ (own_step H1.out.t BD.out) HS.out.t).mono ?_
 rintro e V2 ⟨t', rfl, ht, hb⟩
 try go_simp
 have B2 := Lib.hid (BD.out.trans (hb.mono BD.out.size))
 have T2 := Lib.hid (own_less ht BD.out.size)
 clear hb ht
 refine hK.out _ _ (KP.out _ B2.out) (fun hHeld => ?_)
 clear hK K
 refine wpTill_take (i := 9) (v := ?_) rfl (by kernel_rfl) (by kernel_rfl) (by kernel_rfl) (by kernel_rfl) (fun _ _ _ h => h) (Or.inl ⟨by rfl, ?_⟩) (by assumption) ?_
 rotate_left
 · (intro w0 hSw; (try dsimp only at hSw); go_simp; try with_reducible rfl)
 try simp only [List.getElem_toArray, List.getElem_cons_succ, List.getElem_cons_zero, Act.put, List.setIfInBounds_toArray, List.set_cons_zero, List.set_cons_succ]
 refine wpTill_ready (rs := [5]) (by kernel_rfl) (by simp) ?_
 refine AllTill.cons rfl (fun K hK => ?_) AllTill.nil
 go_simp
 refine (clone_int _ (own_step H1.out.v B2.out) HS.out.v).mono ?_
 rintro e V3 ⟨v', rfl, ht, hb⟩
 try go_simp
 have B3 := Lib.hid (B2.out.trans (hb.mono B2.out.size))
 have T3 := Lib.hid (own_step T2.out hb)
 have U3 := Lib.hid ht
 clear hb ht
 refine hK.out _ _ (KP.out _ B3.out) (fun hHeld => ?_)
 clear hK K
 refine wpTill_ready (rs := [8]) (by kernel_rfl) (by simp) ?_
 refine AllTill.cons rfl (fun K hK => ?_) AllTill.nil
 go_simp
 refine (clone_int _ (own_step H1.out.k B3.out) HS.out.k).mono ?_
 rintro e V4 ⟨k', rfl, ht, hb⟩
 try go_simp
 have B4 := Lib.hid (B3.out.trans (hb.mono B3.out.size))
 have T4 := Lib.hid (own_step T3.out hb)
 have U4 := Lib.hid (own_step U3.out hb)
 have W4 := Lib.hid ht
 have N4 := Lib.hid (show Apart ⟨t', v', k', s.g⟩ from
   ⟨fun b h1 h2 => by have := own_ge T2.out h1; have := own_ge U3.out h2; omega,
    fun b h1 h2 => by have := own_ge T3.out h1; have := own_ge ht h2; omega,
    fun b h1 h2 => by have := own_ge U3.out h1; have := own_ge ht h2; omega⟩)
 have Q4 := Lib.hid (And.intro B2.out.size B3.out.size)
 clear hb ht
 refine hK.out _ _ (KP.out _ B4.out) (fun hHeld => ?_)
 clear hK K hHeld T2 T3 U3 B2 B3 KP
 have X4 := Lib.hid (X1.out.below B4.out hgl)
 have Z4 := Lib.hid (Z1.out.below B4.out hzl)
 obtain ⟨At, ct, et⟩ := own_len T4.out
 obtain ⟨Av, cv, ev⟩ := own_len U4.out
 obtain ⟨Ak, ck, ek⟩ := own_len W4.out
 subst et ev ek
 have c9 : V4.cell? ⟨g, 9, none⟩ = some s.t := X4.out.cell 9
 have f9 := X4.out.frozen 9
 have c10 : V4.cell? ⟨g, 10, none⟩ = some s.v := X4.out.cell 10
 have f10 := X4.out.frozen 10
 have c11 : V4.cell? ⟨g, 11, none⟩ = some s.k := X4.out.cell 11
 have f11 := X4.out.frozen 11
 have X5 := Lib.hid (show Blk (((V4.setCell ⟨g, 9, none⟩ (.slice At x.tch.length ct)).setCell ⟨g, 10, none⟩ (.slice Av x.vts.length cv)).setCell ⟨g, 11, none⟩ (.slice Ak x.acks.length ck)) g 62 (trc x ⟨.slice At x.tch.length ct, .slice Av x.vts.length cv, .slice Ak x.acks.length ck, s.g⟩) from ((X4.out.set_ 9 _).set_ 10 _).set_ 11 _)
 have B5 := Lib.hid (show Below w.heap.size w (((V4.setCell ⟨g, 9, none⟩ (.slice At x.tch.length ct)).setCell ⟨g, 10, none⟩ (.slice Av x.vts.length cv)).setCell ⟨g, 11, none⟩ (.slice Ak x.acks.length ck)) from
   (((B1.out.trans (B4.out.mono B1.out.size)).setCell (p := ⟨g, 9, none⟩) (by have := HG.out; simp only; omega) _).setCell (p := ⟨g, 10, none⟩) (by have := HG.out; simp only; omega) _).setCell (p := ⟨g, 11, none⟩) (by have := HG.out; simp only; omega) _)
 have SZ5 := Lib.hid (show V.heap.size ≤ (((V4.setCell ⟨g, 9, none⟩ (.slice At x.tch.length ct)).setCell ⟨g, 10, none⟩ (.slice Av x.vts.length cv)).setCell ⟨g, 11, none⟩ (.slice Ak x.acks.length ck)).heap.size from by have := B4.out.size; simpa [World.setCell] using this)
 have R5 := Lib.hid (show Turn (fun k => k = g) V4 (((V4.setCell ⟨g, 9, none⟩ (.slice At x.tch.length ct)).setCell ⟨g, 10, none⟩ (.slice Av x.vts.length cv)).setCell ⟨g, 11, none⟩ (.slice Ak x.acks.length ck)) from
   (((Turn.refl (fun k => k = g) V4).setCell (p := ⟨g, 9, none⟩) (fun _ => rfl) _).setCell (p := ⟨g, 10, none⟩) (fun _ => rfl) _).setCell (p := ⟨g, 11, none⟩) (fun _ => rfl) _)
 refine wpTill_ready (rs := [10]) (by kernel_rfl) (by simp) ?_
 refine AllTill.last rfl (of_decide_eq_true (by kernel_rfl)) (fun K hK => ?_)
 go_simp
 refine hK.out _ _ ?_
 clear hK K
 refine wpTill_ready (rs := [11]) (by kernel_rfl) (by simp) ?_
 refine AllTill.past rfl (by kernel_rfl) (fun K hK => ?_)
 go_simp
 refine hK.out _ _ ?_
 clear hK K
 refine wpTill_ready (rs := [12]) (by kernel_rfl) (by simp) ?_
 refine AllTill.past rfl (by kernel_rfl) (fun K hK => ?_)
 go_simp
 refine hK.out _ _ ?_
 clear hK K
 refine wpTill_ready (rs := [13]) (by kernel_rfl) (by simp) ?_
 refine AllTill.past rfl (by kernel_rfl) (fun K hK => ?_)
 go_simp
 refine hK.out _ _ ?_
 clear hK K
 refine wpTill_ready (rs := [14]) (by kernel_rfl) (by simp) ?_
 refine AllTill.past rfl (by kernel_rfl) (fun K hK => ?_)
 go_simp
 refine hK.out _ _ ?_
 clear hK K
 refine wpTill_done (by kernel_rfl) ?_ _
 generalize ((V4.setCell ⟨g, 9, none⟩ (.slice At x.tch.length ct)).setCell ⟨g, 10, none⟩ (.slice Av x.vts.length cv)).setCell ⟨g, 11, none⟩ (.slice Ak x.acks.length ck) = V5 at X5 B5 R5 SZ5 ⊢
 have hoff : ∀ {v : Value} {n size : Nat} {e : TypeId} {xs : List Value}, V4.ownsRow V.heap.size e size v n xs → ∀ k, v.ownBlock = some k → ¬ k = g := fun h k hk e => by have := own_ge h hk; omega
 have T5 := Lib.hid (own_turn T4.out R5.out (hoff T4.out))
 have hU : V4.ownsRow V.heap.size 3 1 (.slice Av x.vts.length cv) x.vts.length (i64s x.vts) := own_less U4.out (by have := Q4.out; omega)
 have U5 := Lib.hid (own_turn hU R5.out (hoff hU))
 have hW : V4.ownsRow V.heap.size 3 1 (.slice Ak x.acks.length ck) x.acks.length (i64s x.acks) := own_less W4.out (by have := Q4.out; omega)
 have W5 := Lib.hid (own_turn hW R5.out (hoff hW))
 have G5 := Lib.hid (own_step H0.out.g B5.out)
 have Z5 := Lib.hid (Z4.out.turn R5.out (by omega))
 have c12 : V5.cell? ⟨g, 12, none⟩ = some s.g := X5.out.cell 12
 clear T4 U4 W4 H1 hU hW hoff R5 X4 Z4 B4 X1 Z1 B1 BD c9 f9 c10 f10 c11 f11 H0
 generalize hst : (.slice At x.tch.length ct : Value) = t' at X5 T5 N4 c12
 generalize hsv : (.slice Av x.vts.length cv : Value) = v' at X5 U5 N4 c12
 generalize hsk : (.slice Ak x.acks.length ck : Value) = k' at X5 W5 N4 c12
 go_upto_region 3 with (go_at_call 84; refine (clone_gra _ G5.out HS.out.g HS.out.g5).mono ?_; rintro e V6 ⟨g', rfl, hg, hb⟩; obtain ⟨Ag, cg, rfl⟩ := own_len hg; have BB6 := Lib.hid hb; have G6 := Lib.hid hg; have k12 : V6.cell? ⟨g, 12, none⟩ = some s.g := (X5.out.here hb).cell 12; have e12 := (X5.out.here hb).frozen 12; clear hg hb c12)
 have X6 := Lib.hid (show Blk (V6.setCell ⟨g, 12, none⟩ (.slice Ag x.got.length cg)) g 62 (trc x ⟨t', v', k', .slice Ag x.got.length cg⟩) from (X5.out.here BB6.out).set_ 12 _)
 have B6 := Lib.hid (show Below w.heap.size w (V6.setCell ⟨g, 12, none⟩ (.slice Ag x.got.length cg)) from (B5.out.trans (BB6.out.mono B5.out.size)).setCell (p := ⟨g, 12, none⟩) (by have := HG.out; simp only; omega) _)
 have R6 := Lib.hid (show Turn (fun k => k = g) V6 (V6.setCell ⟨g, 12, none⟩ (.slice Ag x.got.length cg)) from (Turn.refl (fun k => k = g) V6).setCell (p := ⟨g, 12, none⟩) (fun _ => rfl) _)
 have Z6 := Lib.hid ((Z5.out.here BB6.out).turn R6.out (by omega))
 have B5s := B5.out.size
 have hV5 : V.heap.size ≤ V5.heap.size := SZ5.out
 have TT := Lib.hid (show Tm (V6.setCell ⟨g, 12, none⟩ (.slice Ag x.got.length cg)) V.heap.size x ⟨t', v', k', .slice Ag x.got.length cg⟩ from
   Tm.turn (w := V6) ⟨own_step T5.out BB6.out, own_step U5.out BB6.out, own_step W5.out BB6.out, own_less G6.out hV5⟩ R6.out (fun k hk _ e => by omega))
 have N6 := Lib.hid (show Apart ⟨t', v', k', .slice Ag x.got.length cg⟩ from ⟨N4.out.tv, N4.out.tk, N4.out.vk⟩)
 generalize hsg : (.slice Ag x.got.length cg : Value) = g' at X6 B6 R6 Z6 TT N6 ⊢
 generalize V6.setCell ⟨g, 12, none⟩ g' = V7 at X6 B6 R6 Z6 TT ⊢
 go_wp2_with (first
   | (refine wpList_load_row rfl 62 (.tmp 1) rfl g rfl 62 (trc x ⟨t', v', k', g'⟩) (0, 0) _ X6.out Tryz.underlying62 rfl (tr_info _ _) ?_)
   | (refine wpList_store_mid (by rfl) 62 (.tmp 2) (.tmp 19) (by rfl) (g + 1) 0 (trc x ⟨t', v', k', g'⟩) (by rfl) (by rfl) (Z6.out.there (Nat.le_refl 13)) (tr_info _ _) TT.out.one ?_))
 have E7 : Below w.heap.size V7 (V7.setCells (g + 1) 0 (trc x ⟨t', v', k', g'⟩).toList) := Below.setCells (by have := HG.out; omega) _ _ _ (Below.refl _ _)
 have E8 : Turn (fun k => k = g + 1) V7 (V7.setCells (g + 1) 0 (trc x ⟨t', v', k', g'⟩).toList) := Turn.setCells (S := fun k => k = g + 1) (fun _ => rfl) _ _ _ (Turn.refl _ _)
 exact bodyPost_ret (v := .agg (trc x ⟨t', v', k', g'⟩)) (results_one rfl rfl (tr_load (Z6.out.put (trc x ⟨t', v', k', g'⟩) rfl))) rfl ⟨_, rfl, (TT.out.turn E8 (fun k hk _ e => by omega)).less (by have := HG.out; omega), N6.out, B6.out.trans (E7.mono (Nat.le_refl _))⟩
end Go.Proofs.YtadnlannbafjpaaGreat
/- Messages to shards, and whether a transaction is decided. -/
namespace Go.Proofs.YtadnlannbafjpaaGreat
open Go.RowKit
set_option linter.unusedVariables false
set_option linter.unusedSimpArgs false
theorem sendL_take {m l : List Int} {j : Nat} (h : j < l.length) : sendL m (l.take (j + 1)) = sendL m (l.take j) ++ [m.set 2 (gd l j)] := by
 unfold sendL
 rw [List.take_succ_eq_append_getElem h, List.map_append, gd_get h]; rfl
theorem sendL_len {m l : List Int} : (sendL m l).length = l.length := by simp [sendL]
set_option maxRecDepth 100000 in
set_option maxHeartbeats 8000000 in
theorem send_any {B : Nat} {v : Value} (m l : List Int) (hm : m.length = 28) (w : World) (h : NumR w B v l) (hn : l.length ≤ 1000) :
   Calls Tryz.prog 92 #[.agg (mc m), v] w fun e w' => ∃ u, e = .returned u ∧ MsgR w' w.heap.size u (sendL m l) ∧ Below w.heap.size w w' := by
 obtain ⟨i0, hi0, hz0, hz1, hz2⟩ := info_parts info_msg
 obtain ⟨A, c, rfl, hr, _, _⟩ := own_rd h
 have HM := Lib.hid hm
 have X1 := Lib.hid (Blk.new w 45 (mc m))
 have B1 := Lib.hid (Joins.below_alloc1 w (.cells (mc m) 45))
 have R0 := Lib.hid hr
 have HIQ := Lib.hid (fun (q : List Int) (hq : q.length = 28) => mc_info hq)
 clear h hm hr
 generalize hN : l.length = N at R0 hn ⊢
 have HN := Lib.hid hN
 clear hN
 go_enter Tryz.func92, Tryz.ntmps92
 go_upto_region 1 with fail
 obtain ⟨g, hg⟩ : ∃ g, g = w.heap.size := ⟨_, rfl⟩
 have HG := Lib.hid hg
 rw [← hg] at X1 ⊢
 clear hg
 generalize w.alloc (.cells (mc m) 45) = V at X1 B1 ⊢
 have hgl := X1.out.lt
 have TOK := Lib.hid True.intro
 go_wp2_with fail
 go_loopw [5, 7, 10] (fun s5 s7 s10 wr => ∃ (j : Nat) (z : Int) (q : List Int), s10 = .int .i64 j ∧ j ≤ N ∧ q.length = 28 ∧ (∀ y, q.set 2 y = m.set 2 y) ∧ Blk wr g 45 (mc q) ∧ wr.ownsRow V.heap.size 45 28 s5 j (ints (sendL m (l.take j)).flatten) ∧ Turn (fun k => k = g) V wr) (fun _ _ s10 _ => N - (RowKit.intOf s10).toNat)
 case atStart => exact ⟨0, 0, m, rfl, Nat.zero_le _, HM.out, fun _ => rfl, X1.out, World.ownsRow_nil _ _ _ _, Turn.refl _ _⟩
 case round =>
   obtain ⟨j, z, q, rfl, hj, hq, hqs, hblk, hrow, ht⟩ := hrel
   rename World => X
   have HQ := Lib.hid hq
   have QS := Lib.hid hqs
   have XB := Lib.hid hblk
   have XR := Lib.hid hrow
   have XT := Lib.hid ht
   clear hq hqs hblk hrow ht
   by_cases hlt : j < N
   · have WB := Lib.hid (show Below w.heap.size w X from B1.out.trans (XT.out.below (B := w.heap.size) (fun k hk e => by have := HG.out; omega) B1.out.size))
     obtain ⟨b, off, rfl, hb, hc⟩ := int_cells (R0.out.below WB.out) (by omega)
     have k1 := hc j (by rw [HN.out]; exact hlt)
     have k2 := mc_cell HQ.out XB.out (i := 2) (by omega)
     have f2 := XB.out.frozen 2
     have ST := Lib.hid (sendL_take (m := m) (l := l) (j := j) (by rw [HN.out]; exact hlt))
     clear hc hb
     generalize gd l j = y at k1 ST
     generalize fld q 2 = y0 at k2
     have X2 := Lib.hid (show Blk (X.setCell ⟨g, 2, none⟩ (.int .i64 y)) g 45 (mc (m.set 2 y)) from by have := mc_setCell XB.out 2 y; rwa [QS.out] at this)
     have T2 := Lib.hid (XT.out.setCell (p := ⟨g, 2, none⟩) (fun _ => rfl) (.int .i64 y))
     have Y2 := Lib.hid (own_off XR.out ((Turn.refl (fun k => k = g) X).setCell (p := ⟨g, 2, none⟩) (fun _ => rfl) (.int .i64 y)) (fun k hk _ e => by omega))
     have L2 := Lib.hid (show (m.set 2 y).length = 28 from by simpa using HM.out)
     go_upto_region 6 with fail
     clear k1 k2 f2 XB XR XT WB
     generalize X.setCell ⟨g, 2, none⟩ (.int .i64 y) = W2 at X2 T2 Y2 ⊢
     have S2 := Lib.hid (show ∀ r, (m.set 2 y).set 2 r = m.set 2 r from fun r => by simp)
     generalize m.set 2 y = p at X2 L2 S2 ST
     have FL := Lib.hid (show [p].flatten = p from by simp)
     have RN := Lib.hid (reads_flat (V := W2) 45 p (size := 28) L2.out)
     have TS := Lib.hid T2.out.size
     go_wp2_with (first
       | (have _t := TOK; refine wpList_load_row_g (by rfl) 45 (.tmp 2) rfl g rfl 45 (mc p) (0, 0) _ X2.out Tryz.underlying45 rfl (HIQ.out _ L2.out) ?_; clear _t TOK)
       | (refine wpList_build_msgs rfl 1 _ rfl [p] (by simpa using L2.out) rfl (by omega) (by rfl) ?_; rw [FL.out])
       | (at_builtin; refine wpList_append_any _ rfl (.tmp 16) (.tmp 18) _ rfl V.heap.size 45 i0 _ 28 224 Tryz.underlying35 hi0 hz0 hz1 hz2 rfl (by omega) _ j _ rfl (Y2.out.alloc _) _ _ 1 1 (ints p) rfl RN.out (ints_one _) (by simp only [maxLen]; omega) (by omega) (by have := TS.out; simp only [World.alloc, Array.size_push]; omega) ?_; intro v9 w9 hown9 hg9 hv9; have O9 := Lib.hid hown9; have G9 := Lib.hid hg9; clear hown9 hg9 hv9))
     go_roundw
     case rel =>
       refine ⟨j + 1, y, p, by go_num, by omega, L2.out, S2.out, ?_, ?_, ?_⟩
       · exact (X2.out.alloc _).grown G9.out (fun e => by have := (own_ge Y2.out e).1; omega)
       · rw [ST.out, List.flatten_append, FL.out, show ints ((sendL m (l.take j)).flatten ++ p) = ints (sendL m (l.take j)).flatten ++ ints p by simp [ints]]
         exact O9.out
       · exact (T2.out.alloc _).grown G9.out (fun k hk hl => by have := (own_ge Y2.out hk).1; omega)
     case measure => simp [RowKit.intOf]; omega
   · obtain rfl : j = N := by omega
     rw [List.take_of_length_le (by have := HN.out; omega)] at XR
     have WB := Lib.hid (show Below w.heap.size w X from B1.out.trans (XT.out.below (B := w.heap.size) (fun k hk e => by have := HG.out; omega) B1.out.size))
     go_wp2_with fail
     go_ret
     have e : (sendL m l).length = j := by rw [sendL_len, HN.out]
     have hx := own_less XR.out B1.out.size
     rw [← e] at hx
     exact ⟨_, rfl, hx, WB.out⟩
/-! ### the two messages -/
theorem results_msg {w : World} {g : Nat} {m : List Int} (hm : m.length = 28) (h : Blk w g 45 (mc m)) : (loadVar 45 ⟨g, 0, none⟩).run Tryz.prog w = .ok (.agg (mc m)) w :=
 run_loadVar_row w g _ 45 (mc m) (0, 0) _ h Tryz.underlying45 rfl (mc_info hm)
abbrev zMs : Array Value := #[.int .i64 0, .int .i64 0, .int .i64 0, .int .i64 0, .int .i64 0, .int .i64 0, .int .i64 0, .int .i64 0, .int .i64 0, .int .i64 0, .int .i64 0, .int .i64 0, .int .i64 0, .int .i64 0, .int .i64 0, .int .i64 0, .int .i64 0, .int .i64 0, .int .i64 0, .int .i64 0, .int .i64 0, .int .i64 0, .int .i64 0, .int .i64 0, .int .i64 0, .int .i64 0, .int .i64 0, .int .i64 0]
set_option maxRecDepth 100000 in
set_option maxHeartbeats 4000000 in
theorem request_any (x : Tr) (s : Sl) (w : World) :
   Calls Tryz.prog 93 #[.agg (trc x s)] w fun e w' => e = .returned (.agg (mc (lockL x 0))) ∧ Below w.heap.size w w' := by
 have X1 := Lib.hid ((Blk.new w 62 (trc x s)).alloc (.cells zMs 45))
 have Z1 := Lib.hid (show Blk ((w.alloc (.cells (trc x s) 62)).alloc (.cells zMs 45)) (w.heap.size + 1) 45 (mc zM) from Blk.new_at (by simp) _ _)
 have B1 := Lib.hid ((Joins.below_alloc1 w (.cells (trc x s) 62)).alloc (by simp) (.cells zMs 45))
 have HIQ := Lib.hid (mc_info (m := lockL x 0) rfl)
 have BU := Lib.hid (ints_oneCell (lockL x 0))
 go_enter Tryz.func93, Tryz.ntmps93
 go_upto_region 1 with fail
 obtain ⟨g, hg⟩ : ∃ g, g = w.heap.size := ⟨_, rfl⟩
 have HG := Lib.hid hg
 rw [← hg] at X1 Z1 ⊢
 clear hg
 generalize (w.alloc (.cells (trc x s) 62)).alloc (.cells zMs 45) = V at X1 Z1 B1 ⊢
 have c0 : V.cell? ⟨g, 0, none⟩ = some (.int .i64 x.tx) := X1.out.cell 0
 have c3 : V.cell? ⟨g, 3, none⟩ = some (.int .i64 x.sq) := X1.out.cell 3
 have c6 : V.cell? ⟨g, 6, none⟩ = some (.int .i64 x.a0) := X1.out.cell 6
 have c7 : V.cell? ⟨g, 7, none⟩ = some (.int .i64 x.a1) := X1.out.cell 7
 have c8 : V.cell? ⟨g, 8, none⟩ = some (.int .i64 x.md) := X1.out.cell 8
 go_wp2_with (first
   | (refine wpList_store_mid (by rfl) 45 (.tmp 2) (.tmp 11) (by rfl) (g + 1) 0 (mc (lockL x 0)) (by rfl) (by rfl) (mc_there zM_length rfl Z1.out) HIQ.out BU.out ?_))
 exact bodyPost_ret (v := .agg (mc (lockL x 0))) (results_one rfl rfl (results_msg rfl (mc_put zM_length rfl Z1.out))) rfl ⟨rfl, Below.setCells (by have := HG.out; omega) _ _ _ B1.out⟩
end Go.Proofs.YtadnlannbafjpaaGreat
/- What shards are told of a transaction's state; whether it is decided. -/
namespace Go.Proofs.YtadnlannbafjpaaGreat
open Go.RowKit
set_option linter.unusedVariables false
set_option linter.unusedSimpArgs false
set_option maxRecDepth 100000 in
set_option maxHeartbeats 4000000 in
theorem decided_any (x : Tr) (s : Sl) (w : World) :
   Calls Tryz.prog 20 #[.agg (trc x s)] w fun e w' => e = .returned (.bool (decided x)) ∧ Below w.heap.size w w' := by
 have X1 := Lib.hid (Blk.new w 62 (trc x s))
 have B1 := Lib.hid (Joins.below_alloc1 w (.cells (trc x s) 62))
 obtain ⟨d, hd⟩ : ∃ d, decided x = d := ⟨_, rfl⟩
 rw [hd]
 by_cases h3 : x.st = 3
 · obtain rfl : d = true := by rw [← hd]; unfold decided; simp [h3]
   have e3 : (x.st == 3) = true := by simpa using h3
   clear h3 hd
   go_enter Tryz.func20, Tryz.ntmps20
   go_upto_region 1 with fail
   generalize w.alloc (.cells (trc x s) 62) = V at X1 B1 ⊢
   have c1 : V.cell? ⟨w.heap.size, 1, none⟩ = some (.int .i64 x.st) := X1.out.cell 1
   generalize x.st = st at c1 e3
   go_wp2_with fail
   go_ret
   exact ⟨rfl, B1.out⟩
 · have e3 : (x.st == 3) = false := by simpa using h3
   have hd' : (x.st == 4) = d := by rw [← hd]; unfold decided; by_cases h4 : x.st = 4 <;> simp [h3, h4]
   clear h3 hd
   go_enter Tryz.func20, Tryz.ntmps20
   go_upto_region 1 with fail
   generalize w.alloc (.cells (trc x s) 62) = V at X1 B1 ⊢
   have c1 : V.cell? ⟨w.heap.size, 1, none⟩ = some (.int .i64 x.st) := X1.out.cell 1
   generalize x.st = st at c1 e3 hd'
   go_wp2_with fail
   go_ret
   exact ⟨rfl, B1.out⟩
theorem newsL_2 {x : Tr} (h : x.st = 2) (t : Int) : newsL x t = msgL 4 t x.tx 0 0 0 0 0 := by unfold newsL newsK newsC; rw [if_pos h, if_neg (by omega)]
theorem newsL_3 {x : Tr} (h : x.st = 3) (t : Int) : newsL x t = msgL 6 t x.tx 0 0 0 0 1 := by unfold newsL newsK newsC; rw [if_neg (by omega), if_pos (.inl h), if_pos h]
theorem newsL_4 {x : Tr} (h : x.st = 4) (t : Int) : newsL x t = msgL 6 t x.tx 0 0 0 0 0 := by unfold newsL newsK newsC; rw [if_neg (by omega), if_pos (.inr h), if_neg (by omega)]
theorem newsL_1 {x : Tr} (h2 : ¬ x.st = 2) (h3 : ¬ x.st = 3) (h4 : ¬ x.st = 4) (t : Int) : newsL x t = msgL 8 t x.tx 0 0 0 0 0 := by unfold newsL newsK newsC; rw [if_neg h2, if_neg (by omega), if_neg h3]
set_option maxRecDepth 100000 in
set_option maxHeartbeats 8000000 in
theorem news_any (x : Tr) (s : Sl) (w : World) :
   Calls Tryz.prog 131 #[.agg (trc x s)] w fun e w' => e = .returned (.agg (mc (newsL x 0))) ∧ Below w.heap.size w w' := by
 have X1 := Lib.hid ((Blk.new w 62 (trc x s)).alloc (.cells zMs 45))
 have Z1 := Lib.hid (show Blk ((w.alloc (.cells (trc x s) 62)).alloc (.cells zMs 45)) (w.heap.size + 1) 45 (mc zM) from Blk.new_at (by simp) _ _)
 have B1 := Lib.hid ((Joins.below_alloc1 w (.cells (trc x s) 62)).alloc (by simp) (.cells zMs 45))
 have SZ := Lib.hid (show ((w.alloc (.cells (trc x s) 62)).alloc (.cells zMs 45)).heap.size = w.heap.size + 2 from by simp)
 have HI8 := Lib.hid (mc_info (m := msgL 8 0 x.tx 0 0 0 0 0) rfl)
 have BU8 := Lib.hid (ints_oneCell (msgL 8 0 x.tx 0 0 0 0 0))
 go_enter Tryz.func131, Tryz.ntmps131
 go_upto_region 1 with fail
 obtain ⟨g, hg⟩ : ∃ g, g = w.heap.size := ⟨_, rfl⟩
 have HG := Lib.hid hg
 rw [← hg] at X1 Z1 SZ ⊢
 clear hg
 generalize (w.alloc (.cells (trc x s) 62)).alloc (.cells zMs 45) = V at X1 Z1 B1 SZ ⊢
 have c0 : V.cell? ⟨g, 0, none⟩ = some (.int .i64 x.tx) := X1.out.cell 0
 have X2 := Lib.hid (X1.out.alloc (.cells zMs 45))
 have Z2 := Lib.hid (Z1.out.alloc (.cells zMs 45))
 have M2 := Lib.hid (show Blk (V.alloc (.cells zMs 45)) V.heap.size 45 (mc zM) from Blk.new V _ _)
 have B2 := Lib.hid (stepA B1.out (.cells zMs 45))
 go_upto_region 2 with (refine wpList_store_mid (by rfl) 45 (.tmp 3) (.tmp 6) (by rfl) V.heap.size 0 (mc (msgL 8 0 x.tx 0 0 0 0 0)) (by rfl) (by rfl) (mc_there zM_length rfl M2.out) HI8.out BU8.out ?_)
 obtain ⟨r, hr⟩ : ∃ r, r = V.heap.size := ⟨_, rfl⟩
 have HR := Lib.hid (hr.trans SZ.out)
 rw [← hr] at M2 ⊢
 have X3 := Lib.hid (X2.out.farCells (b := r) (by have := HR.out; omega) (mc (msgL 8 0 x.tx 0 0 0 0 0)).toList 0)
 have Z3 := Lib.hid (Z2.out.farCells (b := r) (by have := HR.out; omega) (mc (msgL 8 0 x.tx 0 0 0 0 0)).toList 0)
 have M3 := Lib.hid (mc_put zM_length (q := msgL 8 0 x.tx 0 0 0 0 0) rfl M2.out)
 have B3 := Lib.hid (Below.setCells (b := r) (by have := HR.out; have := HG.out; omega) (mc (msgL 8 0 x.tx 0 0 0 0 0)).toList 0 _ B2.out)
 clear hr c0 X1 Z1 B1 X2 Z2 M2 B2 HI8 BU8 SZ
 generalize (V.alloc (.cells zMs 45)).setCells r 0 (mc (msgL 8 0 x.tx 0 0 0 0 0)).toList = V3 at X3 Z3 M3 B3 ⊢
 have c1 : V3.cell? ⟨g, 1, none⟩ = some (.int .i64 x.st) := X3.out.cell 1
 have m0 : V3.cell? ⟨r, 0, none⟩ = some (.int .i64 8) := M3.out.cell 0
 have m7 : V3.cell? ⟨r, 7, none⟩ = some (.int .i64 0) := M3.out.cell 7
 have m8 : V3.cell? ⟨r, 8, none⟩ = some (.int .i64 0) := M3.out.cell 8
 have f0 := M3.out.frozen 0
 have f7 := M3.out.frozen 7
 have f8 := M3.out.frozen 8
 have HNL := Lib.hid (mc_info (m := newsL x 0) rfl)
 have HNO := Lib.hid (ints_oneCell (newsL x 0))
 by_cases h2 : x.st = 2
 · have e2 : (x.st == 2) = true := by simpa using h2
   have EQ := Lib.hid (newsL_2 h2 0)
   clear h2
   have M4 := Lib.hid (show Blk (V3.setCell ⟨r, 0, none⟩ (.int .i64 4)) r 45 (mc (newsL x 0)) from by rw [EQ.out]; exact M3.out.set_ 0 _)
   have Z4 := Lib.hid (Z3.out.far (p := ⟨r, 0, none⟩) (by have := HR.out; simp only; omega) (.int .i64 4))
   have B4 := Lib.hid (B3.out.setCell (p := ⟨r, 0, none⟩) (by have := HR.out; have := HG.out; simp only; omega) (.int .i64 4))
   clear EQ
   go_upto_region 9 with fail
   generalize V3.setCell ⟨r, 0, none⟩ (.int .i64 4) = V4 at M4 Z4 B4 ⊢
   clear m0 m7 m8 f0 f7 f8 c1
   go_wp2_with (first
     | (refine wpList_load_row rfl 45 (.tmp 3) rfl r rfl 45 (mc (newsL x 0)) (0, 0) _ M4.out Tryz.underlying45 rfl HNL.out ?_)
     | (refine wpList_store_mid (by rfl) 45 (.tmp 2) (.tmp 18) (by rfl) (g + 1) 0 (mc (newsL x 0)) (by rfl) (by rfl) (mc_there zM_length rfl Z4.out) HNL.out HNO.out ?_))
   exact bodyPost_ret (v := .agg (mc (newsL x 0))) (results_one rfl rfl (results_msg rfl (mc_put zM_length rfl Z4.out))) rfl ⟨rfl, Below.setCells (by have := HG.out; omega) _ _ _ B4.out⟩
 · have e2 : (x.st == 2) = false := by simpa using h2
   by_cases h3 : x.st = 3
   · have e3 : (x.st == 3) = true := by simpa using h3
     have EQ := Lib.hid (newsL_3 h3 0)
     clear h2 h3
     have M4 := Lib.hid (show Blk ((V3.setCell ⟨r, 8, none⟩ (.int .i64 1)).setCell ⟨r, 0, none⟩ (.int .i64 6)) r 45 (mc (newsL x 0)) from by rw [EQ.out]; exact (M3.out.set_ 8 _).set_ 0 _)
     have Z4 := Lib.hid ((Z3.out.far (p := ⟨r, 8, none⟩) (by have := HR.out; simp only; omega) (.int .i64 1)).far (p := ⟨r, 0, none⟩) (by have := HR.out; simp only; omega) (.int .i64 6))
     have B4 := Lib.hid ((B3.out.setCell (p := ⟨r, 8, none⟩) (by have := HR.out; have := HG.out; simp only; omega) (.int .i64 1)).setCell (p := ⟨r, 0, none⟩) (by have := HR.out; have := HG.out; simp only; omega) (.int .i64 6))
     clear EQ
     go_upto_region 9 with fail
     generalize (V3.setCell ⟨r, 8, none⟩ (.int .i64 1)).setCell ⟨r, 0, none⟩ (.int .i64 6) = V4 at M4 Z4 B4 ⊢
     clear m0 m7 m8 f0 f7 f8 c1
     go_wp2_with (first
       | (refine wpList_load_row rfl 45 (.tmp 3) rfl r rfl 45 (mc (newsL x 0)) (0, 0) _ M4.out Tryz.underlying45 rfl HNL.out ?_)
       | (refine wpList_store_mid (by rfl) 45 (.tmp 2) (.tmp 18) (by rfl) (g + 1) 0 (mc (newsL x 0)) (by rfl) (by rfl) (mc_there zM_length rfl Z4.out) HNL.out HNO.out ?_))
     exact bodyPost_ret (v := .agg (mc (newsL x 0))) (results_one rfl rfl (results_msg rfl (mc_put zM_length rfl Z4.out))) rfl ⟨rfl, Below.setCells (by have := HG.out; omega) _ _ _ B4.out⟩
   · have e3 : (x.st == 3) = false := by simpa using h3
     by_cases h4 : x.st = 4
     · have e4 : (x.st == 4) = true := by simpa using h4
       have EQ := Lib.hid (newsL_4 h4 0)
       clear h2 h3 h4
       have M4 := Lib.hid (show Blk (V3.setCell ⟨r, 0, none⟩ (.int .i64 6)) r 45 (mc (newsL x 0)) from by rw [EQ.out]; exact M3.out.set_ 0 _)
       have Z4 := Lib.hid (Z3.out.far (p := ⟨r, 0, none⟩) (by have := HR.out; simp only; omega) (.int .i64 6))
       have B4 := Lib.hid (B3.out.setCell (p := ⟨r, 0, none⟩) (by have := HR.out; have := HG.out; simp only; omega) (.int .i64 6))
       clear EQ
       go_upto_region 9 with fail
       generalize V3.setCell ⟨r, 0, none⟩ (.int .i64 6) = V4 at M4 Z4 B4 ⊢
       clear m0 m7 m8 f0 f7 f8 c1
       go_wp2_with (first
         | (refine wpList_load_row rfl 45 (.tmp 3) rfl r rfl 45 (mc (newsL x 0)) (0, 0) _ M4.out Tryz.underlying45 rfl HNL.out ?_)
         | (refine wpList_store_mid (by rfl) 45 (.tmp 2) (.tmp 18) (by rfl) (g + 1) 0 (mc (newsL x 0)) (by rfl) (by rfl) (mc_there zM_length rfl Z4.out) HNL.out HNO.out ?_))
       exact bodyPost_ret (v := .agg (mc (newsL x 0))) (results_one rfl rfl (results_msg rfl (mc_put zM_length rfl Z4.out))) rfl ⟨rfl, Below.setCells (by have := HG.out; omega) _ _ _ B4.out⟩
     · have e4 : (x.st == 4) = false := by simpa using h4
       have EQ := Lib.hid (newsL_1 h2 h3 h4 0)
       clear h2 h3 h4
       have M4 := Lib.hid (show Blk V3 r 45 (mc (newsL x 0)) from by rw [EQ.out]; exact M3.out)
       have Z4 := Z3
       have B4 := B3
       clear EQ
       clear m0 m7 m8 f0 f7 f8
       go_wp2_with (first
         | (refine wpList_load_row rfl 45 (.tmp 3) rfl r rfl 45 (mc (newsL x 0)) (0, 0) _ M4.out Tryz.underlying45 rfl HNL.out ?_)
         | (refine wpList_store_mid (by rfl) 45 (.tmp 2) (.tmp 18) (by rfl) (g + 1) 0 (mc (newsL x 0)) (by rfl) (by rfl) (mc_there zM_length rfl Z4.out) HNL.out HNO.out ?_))
       exact bodyPost_ret (v := .agg (mc (newsL x 0))) (results_one rfl rfl (results_msg rfl (mc_put zM_length rfl Z4.out))) rfl ⟨rfl, Below.setCells (by have := HG.out; omega) _ _ _ B4.out⟩
end Go.Proofs.YtadnlannbafjpaaGreat
/- Numbers with one more, and without others. -/
namespace Go.Proofs.YtadnlannbafjpaaGreat
open Go.RowKit Go.Shelf Go.Lib Go.Sort
set_option linter.unusedVariables false
set_option linter.unusedSimpArgs false
theorem cont_b {B : Nat} {v : Value} {l : List Int} (x : Int) (w : World) (h : NumR w B v l) (hn : l.length ≤ 1000) (r : Bool) (hr : l.contains x = r) :
   Calls Tryz.prog 129 #[v, .int .i64 x] w fun e w' => e = .returned (.bool r) ∧ w = w' := by rw [← hr]; exact cont_own x w h hn
set_option maxRecDepth 100000 in
set_option maxHeartbeats 4000000 in
theorem with_any {B : Nat} {v : Value} {l : List Int} (n : Int) (w : World) (h : NumR w B v l) (hl : Ris l) (hB : B ≤ w.heap.size) (hn : l.length ≤ 900) :
   Calls Tryz.prog 91 #[v, .int .i64 n] w fun e w' => ∃ v', e = .returned v' ∧ NumR w' B v' (ins n l) ∧ Turn (fun k => v.ownBlock = some k) w w' ∧ (v'.ownBlock = v.ownBlock ∨ ∀ k, v'.ownBlock = some k → w.heap.size ≤ k) := by
 have H := Lib.hid h
 have HL := Lib.hid hl
 have HN := Lib.hid hn
 have HB := Lib.hid hB
 obtain ⟨A, c, rfl⟩ := own_len h
 by_cases hc : l.contains n = true
 · have HE := Lib.hid (ins_same hl (by simpa using hc))
   have HC := Lib.hid hc
   clear h hl hn hB hc
   go_enter Tryz.func91, Tryz.ntmps91
   go_wp2_with (go_at_call 129; refine (cont_b n _ H.out (by have := HN.out; omega) true HC.out).mono ?_; rintro e w' ⟨rfl, rfl⟩)
   go_ret
   exact ⟨_, rfl, by rw [HE.out]; exact H.out, Turn.refl _ _, .inl rfl⟩
 · have HE := Lib.hid (srt_ins hl (n := n) (by simpa using hc))
   have HC := Lib.hid (show l.contains n = false from by simpa using hc)
   clear h hl hn hB hc
   go_enter Tryz.func91, Tryz.ntmps91
   go_upto_region 4 with (first
     | (go_at_call 129; refine (cont_b n _ H.out (by have := HN.out; omega) false HC.out).mono ?_; rintro e w' ⟨rfl, rfl⟩)
     | (at_builtin; refine wpList_app_new _ rfl (.tmp 9) (.tmp 11) _ rfl Tryz.underlying59 B _ l.length l rfl (World.ownsRow.alloc H.out _) [n] 1 1 w _ rfl w.heap.size rfl rfl rfl (by have := HN.out; omega) (by have := HB.out; simp only [World.alloc, Array.size_push]; omega) ?_; intro v9 w9 hown9 hg9 hv9; have O9 := Lib.hid hown9; have G9 := Lib.hid hg9; have V9 := Lib.hid hv9; clear hown9 hg9 hv9))
   have T9 := Lib.hid (show Turn (fun k => (Value.slice A l.length c).ownBlock = some k) w w9 from ((Turn.refl _ w).alloc _).grown G9.out fun k hk _ => hk)
   have Q9 := Lib.hid (show v9.ownBlock = (Value.slice A l.length c).ownBlock ∨ ∀ k, v9.ownBlock = some k → w.heap.size ≤ k from by
     rcases V9.out with e | e
     · exact .inl e
     · exact .inr fun k hk => by rw [e] at hk; cases hk; simp)
   have O9 := Lib.hid (show w9.ownsRow B 3 1 v9 (l.length + 1) (i64s (l ++ [n])) from O9.out)
   obtain ⟨A9, c9, rfl⟩ := own_len O9.out
   go_wp2_with (go_at_call 107; refine (sort_own _ O9.out (by have := HN.out; omega)).mono ?_; rintro e w10 ⟨rfl, ho, ht⟩; have O10 := Lib.hid ho; have T10 := Lib.hid ht; clear ho ht)
   go_ret
   refine ⟨_, rfl, ?_, ?_, Q9.out⟩
   · have h := O10.out
     rw [HE.out] at h
     have hi := h.1
     rw [i64s_length] at hi
     have e : (ins n l).length = l.length + 1 := by omega
     show w10.ownsRow B 3 1 (.slice A9 (l.length + 1) c9) (ins n l).length _
     rw [e]
     exact h
   · refine ⟨T10.out.os.trans T9.out.os, T10.out.tape.trans T9.out.tape, T10.out.output.trans T9.out.output, Nat.le_trans T9.out.size T10.out.size, fun k hk hn => ?_⟩
     refine (T10.out.block k (Nat.lt_of_lt_of_le hk T9.out.size) ?_).trans (T9.out.block k hk hn)
     intro e
     rcases Q9.out with q | q
     · exact hn (q ▸ e)
     · have := q k e; omega
/-! ### the ones that aren't among others -/
def amongF (o : List Int) : Int → Option Value := fun k => if o.contains k then some (.bool true) else none
def clp (x : Int) : Int := if 0 ≤ x ∧ x ≤ 64 then x else 0
def clE (x : Int) : Value := .int .i64 (clp x)
theorem clp_wf (x : Int) : (Lit.int .i64 (clp x)).wf = true := by
 unfold clp; split
 · simp [Lit.wf, IntKind.min, IntKind.max, IntKind.signed, IntKind.bits]; omega
 · rfl
theorem clp_in {x : Int} (h : 1 ≤ x ∧ x ≤ 64) : clp x = x := if_pos (by omega)
theorem map_clE {l : List Int} (h : ∀ n ∈ l, 1 ≤ n ∧ n ≤ 64) : l.map clE = i64s l := List.map_congr_left fun n hn => by unfold clE; rw [clp_in (h n hn)]
theorem zBool (W : World) : (zeroValue 4).run Tryz.prog W = .ok (.bool false) W := Tryz.zeroValue4 W
set_option maxRecDepth 100000 in
set_option maxHeartbeats 4000000 in
theorem among_any {o : List Int} {p b n : Nat} (x : Int) (hx : (Lit.int .i64 x).wf = true) (w : World) (hp : w.cell? ⟨p, 0, none⟩ = some (.map (some b))) (hm : MapV w b n (amongF o)) :
   Calls Tryz.prog 150 #[.int .i64 x, .pointer (some ⟨p, 0, none⟩)] w fun e w' => e = .returned (.bool (o.contains x)) ∧ ∃ q, w' = w.drewN q := by
 have HM := Lib.hid hm
 have HX := Lib.hid hx
 obtain ⟨r, hr⟩ : ∃ r, r = o.contains x := ⟨_, rfl⟩
 have HV := Lib.hid (show (amongF o x).getD (.bool false) = .bool r from by unfold amongF; rw [← hr]; cases r <;> rfl)
 rw [← hr]
 clear hm hx hr
 go_enter Tryz.func150, Tryz.ntmps150
 go_wp2_with (at_lookup; refine wpList_lookV _ rfl _ _ 211 rfl 4 Tryz.underlying211 _ (zBool _) rfl HM.out x rfl HX.out _ HV.out ?_)
 go_ret
 exact ⟨rfl, 0, rfl⟩
theorem turn_put {enc : Int → Value} {g q : Nat} (w : World) (d : Array Int) : Turn (fun k => k = g) w (putRow enc (Sort.ahead w q) g 0 d) :=
 ⟨rfl, rfl, rfl, by simp [putRow, mapBlock, Sort.ahead], fun k hk hn => by simp [putRow, mapBlock, Sort.ahead, Array.getElem?_modify, show g ≠ k from fun e => hn e.symm]⟩
theorem sortWorld_block {enc : Int → Value} {w : World} {g m k : Nat} {dk : Array Int} {os : Array Obj} (hk : k < w.heap.size) (hn : k ≠ g) : (sortWorld enc w g 0 m dk os).heap[k]? = w.heap[k]? := by
 unfold sortWorld
 rw [heap_grow_old _ _ (by show k < (putRow _ _ _ _ _).heap.size; simp [putRow, mapBlock, Sort.ahead]; exact hk)]
 exact (turn_put (enc := enc) (q := m) w dk).block k hk hn
set_option maxRecDepth 100000 in
set_option maxHeartbeats 4000000 in
theorem idx_nil (f : Value) (c : Nat) (w : World) : Calls Tryz.prog 147 #[.slice none 0 c, f] w fun e w' => e = .returned (.int .i64 (-1)) ∧ w = w' := by
 go_enter Tryz.func147, Tryz.ntmps147
 go_wp2_with fail
 refine wp_loop_rounds 1 ?_
 rw [rounds_succ]
 go_wp2_with fail
 go_ret
 exact ⟨rfl, rfl⟩
set_option maxRecDepth 100000 in
set_option maxHeartbeats 4000000 in
theorem del_nil (f : Value) (c : Nat) (w : World) : Calls Tryz.prog 108 #[.slice none 0 c, f] w fun e w' => e = .returned (.slice none 0 c) ∧ w = w' := by
 go_enter Tryz.func108, Tryz.ntmps108
 go_wp2_with (go_at_call 147; refine (idx_nil _ _ _).mono ?_; rintro e w' ⟨rfl, rfl⟩)
 go_ret
 exact ⟨rfl, rfl⟩
set_option maxHeartbeats 4000000 in
theorem del_own {B p b n : Nat} {v : Value} {l o : List Int} (w : World) (h : NumR w B v l) (hl : ∀ n ∈ l, 1 ≤ n ∧ n ≤ 64) (hn : l.length ≤ 1000) (hpB : p < B) (hbB : b < B) (hB : B ≤ w.heap.size) (hp : w.cell? ⟨p, 0, none⟩ = some (.map (some b))) (hm : MapV w b n (amongF o)) :
   Calls Tryz.prog 108 #[v, .func (.func 150) #[] #[.pointer (some ⟨p, 0, none⟩)]] w fun e w' => ∃ v', e = .returned v' ∧ NumR w' B v' (withoutL l o) ∧ Turn (fun k => v.ownBlock = some k) w w' := by
 rcases h.2 with ⟨rfl, h0⟩ | ⟨g, cap, cur, rfl, hb, hh, hnc, h2⟩
 · have hl : l = [] := List.eq_nil_of_length_eq_zero h0
   subst hl
   exact (del_nil _ 0 w).mono fun e w' ⟨h1, h2⟩ => ⟨_, h1, World.ownsRow_nil _ _ _ _, by subst h2; exact Turn.refl _ _⟩
 · have eg : ∀ args w, (callFunc 150 args).run Tryz.prog w = .ok (.enter 150 args) w := enters_of Tryz.func150 (by kernel_rfl) rfl
   have hpl : p < w.heap.size := by omega
   have hpg : p ≠ g := by omega
   have hH : Holds clE w g 0 l.toArray := fun j hj => by
     have hj' : j < l.length := by simpa using hj
     refine ⟨?_, by simp [World.frozen?, hh]⟩
     rw [Nat.zero_add, own_gd h hj']
     have e : l.toArray[j]! = l[j] := by rw [getElem!_pos l.toArray j hj]; simp
     rw [e, gd_get hj']
     unfold clE; rw [clp_in (hl _ (List.getElem_mem hj'))]
   have hcon := AnyE.slices_DeleteFunc Tryz.laysDelF clE (fun _ => rfl) (fun x => o.contains (clp x)) 150 #[.pointer (some ⟨p, 0, none⟩)] eg 0 (fun W => Tryz.zeroValue3 W) g 0 cap l.toArray w
     (fun W x hW => among_any (clp x) (clp_wf x) W ((hW.cell (p := ⟨p, 0, none⟩) hpl).trans hp) (hm.here hW))
     (fun m os dk x _ => among_any (clp x) (clp_wf x) _ ((World.cell?_of_block (sortWorld_block hpl hpg)).trans hp) (hm.of_block (sortWorld_block hm.lt (by omega)))) hH (by simp; omega) (by simpa using hnc)
   change Calls Tryz.prog 108 _ _ _ at hcon
   have hf : (l.toArray.toList.filter fun x => !o.contains (clp x)) = withoutL l o := by
     unfold withoutL
     rw [List.toList_toArray]
     exact List.filter_congr fun x hx => by rw [clp_in (hl x hx)]
   rw [hf] at hcon
   rw [show l.toArray.size = l.length from by simp] at hcon
   refine hcon.mono fun e w' ⟨he, q, hw⟩ => ⟨_, he, ?_, ?_⟩
   · subst hw
     have hle : (withoutL l o).length ≤ l.length := List.length_filter_le _ _
     have hz : w.ownsRow B 3 1 (.slice (some ⟨g, 0, none⟩) l.length cap) l.length (l.map clE) := by rw [map_clE hl]; exact h
     have := Lib.ownsRow_putRow (q := q) (k := (withoutL l o).length) (ys := withoutL l o ++ List.replicate (l.length - (withoutL l o).length) 0) hz (by simp; omega) hle
     rw [List.take_left, map_clE (fun n hn => hl n (without_mem.1 hn).1)] at this
     simpa using this
   · subst hw
     refine (turn_put w _).mono fun k _ hk => by subst hk; rfl
end Go.Proofs.YtadnlannbafjpaaGreat
/- Numbers without others. -/
namespace Go.Proofs.YtadnlannbafjpaaGreat
open Go.RowKit
set_option linter.unusedVariables false
set_option linter.unusedSimpArgs false
theorem among_take {o : List Int} {j : Nat} (h : j < o.length) (k : Int) : (if k = gd o j then some (Value.bool true) else amongF (o.take j) k) = amongF (o.take (j + 1)) k := by
 unfold amongF
 rw [List.take_succ_eq_append_getElem h, gd_get h]
 have e1 : (o.take j ++ [o[j]]).contains k = (decide (k = o[j]) || (o.take j).contains k) := by
   rw [List.contains_eq_any_beq, List.any_append, List.contains_eq_any_beq, Bool.or_comm]
   congr 1
   simp
   by_cases e : k = o[j] <;> simp [e]
 rw [e1]
 by_cases e : k = o[j]
 · rw [if_pos e, decide_eq_true e, Bool.true_or, if_pos rfl]
 · rw [if_neg e, decide_eq_false e, Bool.false_or]
theorem wf_small {x : Int} (h : 1 ≤ x ∧ x ≤ 64) : (Lit.int .i64 x).wf = true := by have := clp_wf x; rwa [clp_in h] at this
set_option maxRecDepth 100000 in
set_option maxHeartbeats 8000000 in
theorem without_any {B B' : Nat} {v u : Value} (l o : List Int) (w : World) (h : NumR w B v l) (h' : NumR w B' u o) (hl : ∀ n ∈ l, 1 ≤ n ∧ n ≤ 64) (ho : ∀ n ∈ o, 1 ≤ n ∧ n ≤ 64) (hn : l.length ≤ 1000) (hm : o.length ≤ 1000) :
   Calls Tryz.prog 130 #[v, u] w fun e w' => ∃ r, e = .returned r ∧ NumR w' w.heap.size r (withoutL l o) ∧ Below w.heap.size w w' := by
 obtain ⟨A', c', rfl, hr', _, _⟩ := own_rd h'
 obtain ⟨A, c, rfl⟩ := own_len h
 have H := Lib.hid h
 have R0 := Lib.hid hr'
 have HL := Lib.hid hl
 have HO := Lib.hid ho
 have HLN := Lib.hid hn
 clear h h' hr' hl ho hn
 generalize hN : o.length = N at R0 hm ⊢
 have HN := Lib.hid hN
 clear hN
 have M1 := Lib.hid ((mapV_made w).alloc (.cells #[.map (some w.heap.size)] 211))
 have P1 := Lib.hid (Blk.new_at (w := w.alloc (.map #[] 0)) (n := w.heap.size + 1) (by simp) 211 #[.map (some w.heap.size)])
 have B1 := Lib.hid ((Joins.below_alloc1 w (.map #[] 0)).alloc (by simp) (.cells #[.map (some w.heap.size)] 211))
 have hmm := @run_makeMap Tryz.prog
 go_enter Tryz.func130, Tryz.ntmps130
 go_upto_region 2 with fail
 obtain ⟨b, hb⟩ : ∃ b, b = w.heap.size := ⟨_, rfl⟩
 have HG := Lib.hid hb
 rw [← hb] at M1 P1 B1 ⊢
 clear hb
 generalize (w.alloc (.map #[] 0)).alloc (.cells #[.map (some b)] 211) = V at M1 P1 B1 ⊢
 have B1 := Lib.hid (show Below w.heap.size w V from by have := B1.out; rwa [HG.out] at this)
 have hbl := M1.out.lt
 have hpl := P1.out.lt
 have VS := B1.out.size
 go_wp2_with fail
 go_loopw [7, 11] (fun s7 s11 wr => ∃ j : Nat, s11 = .int .i64 j ∧ j ≤ N ∧ MapV wr b j (amongF (o.take j)) ∧ Turn (fun k => k = b) V wr) (fun _ s11 _ => N - (RowKit.intOf s11).toNat)
 case atStart => exact ⟨0, rfl, Nat.zero_le _, M1.out, Turn.refl _ _⟩
 case round =>
   obtain ⟨j, rfl, hj, hmap, ht⟩ := hrel
   rename World => X
   have XM := Lib.hid hmap
   have XT := Lib.hid ht
   have XP := Lib.hid (P1.out.turn ht (by omega))
   have WB := Lib.hid (show Below w.heap.size w X from B1.out.trans (ht.below (B := w.heap.size) (fun k hk e => by have := HG.out; omega) B1.out.size))
   clear hmap ht
   have p0 : X.cell? ⟨b + 1, 0, none⟩ = some (.map (some b)) := XP.out.cell 0
   by_cases hlt : j < N
   · obtain ⟨d, off, rfl, hd, hc⟩ := int_cells (R0.out.below WB.out) (by omega)
     have hjo : j < o.length := by rw [HN.out]; exact hlt
     have k1 := hc j hjo
     have WF := Lib.hid (wf_small (HO.out _ (show gd o j ∈ o from by rw [gd_get hjo]; exact List.getElem_mem hjo)))
     have AT := Lib.hid (among_take hjo)
     clear hc hd
     generalize gd o j = y at k1 WF AT
     go_wp2_with (at_mapUpdate; refine wpList_putV _ rfl _ _ _ 211 rfl 4 Tryz.underlying211 rfl XM.out (by simp only [maxLen]; omega) y rfl WF.out _ rfl ?_; intro w9 h9 g9 s9; have M9 := Lib.hid h9; have G9 := Lib.hid g9; clear h9 g9 s9)
     go_roundw
     case rel => exact ⟨j + 1, by go_num, by omega, M9.out.to AT.out, XT.out.grown G9.out (fun k hk _ => by cases hk; rfl)⟩
     case measure => simp [RowKit.intOf]; omega
   · obtain rfl : j = N := by omega
     rw [List.take_of_length_le (by have := HN.out; omega)] at XM
     have XH := Lib.hid (own_step H.out WB.out)
     have SX := Lib.hid WB.out.size
     have SB := Lib.hid (show b + 2 ≤ X.heap.size from by have := XT.out.size; have := HG.out; omega)
     go_wp2_with (first
       | (go_at_call 83; refine (clone_int _ XH.out HLN.out).mono ?_; rintro e X2 ⟨v2, rfl, hv2, hb2⟩; have V2 := Lib.hid hv2; have E2 := Lib.hid hb2; have N2 := Lib.hid ((XP.out.here hb2).cell 0); have Q2 := Lib.hid (XM.out.here hb2); have Z2 := Lib.hid hb2.size; clear hv2 hb2)
       | (go_at_call 108; refine (del_own _ V2.out HL.out HLN.out (by have := SB.out; omega) (by have := SB.out; omega) Z2.out N2.out Q2.out).mono ?_; rintro e X3 ⟨v3, rfl, hv3, ht3⟩; have V3 := Lib.hid hv3; have T3 := Lib.hid ht3; clear hv3 ht3))
     go_ret
     refine ⟨_, rfl, own_less V3.out (by have := SX.out; omega), (WB.out.trans (E2.out.mono SX.out)).trans (T3.out.below (B := w.heap.size) (fun k hk e => ?_) (by have := SX.out; have := Z2.out; omega))⟩
     have := own_ge V2.out e
     have := SX.out
     omega
end Go.Proofs.YtadnlannbafjpaaGreat
/- Is a message of a transaction, and no stale one? -/
namespace Go.Proofs.YtadnlannbafjpaaGreat
open Go.RowKit
set_option linter.unusedVariables false
set_option linter.unusedSimpArgs false
set_option maxRecDepth 100000 in
set_option maxHeartbeats 1000000 in
theorem msgOk_any (m : List Int) (hl : m.length = 28) (w : World) :
   Calls Tryz.prog 58 #[.agg (mc m)] w fun e w' => e = .returned (if mayB m then .nilIface else errno 5) ∧ Below w.heap.size w w' := by
 have HL := Lib.hid hl
 have HI := Lib.hid (mc_info hl)
 clear hl
 cases hm : mayB m
 all_goals
   have HM := Lib.hid hm
   clear hm
   go_enter Tryz.func58, Tryz.ntmps58
   go_wp2_with (refine wpList_load_row rfl 45 (.tmp 1) rfl w.heap.size rfl 45 (mc m) (0, 0) _ (Blk.new _ _ _) Tryz.underlying45 rfl HI.out ?_)
   refine (mayBe_msg m HL.out _).mono ?_
   rintro e w1 ⟨rfl, hb1⟩
   rw [HM.out]
   have HB1 := Lib.hid (stepB (stepA (Below.refl w.heap.size w) _) hb1)
   clear hb1
   go_wp2_with fail
   go_ret
   exact ⟨rfl, HB1.out⟩
theorem own_ints (V : World) (t : TypeId) (ys : List Int) {B n : Nat} (hB : B ≤ V.heap.size) (hn : n = ys.length) (hs : ys.length ≤ 1000) : (V.alloc (.cells (i64s ys).toArray t)).ownsRow B t 1 (.slice (some ⟨V.heap.size, 0, none⟩) n n) ys.length (i64s ys) := by
 subst hn
 exact ⟨by rw [i64s_length]; omega, .inr ⟨_, _, (i64s ys).toArray, rfl, hB, Blk.new V t _, Nat.le_refl _, by simp only [maxLen]; omega, by simp [i64s_length], by rw [List.take_of_length_le (by simp [i64s_length])]⟩⟩
theorem contG {B : Nat} {v : Value} {l : List Int} (x : Int) (w : World) (h : NumR w B v l) (hn : l.length ≤ 1000) (r : Bool) (hr : l.contains x = r) :
   Calls Tryz.prog 129 #[v, .int .i64 x] w fun e w' => e = .returned (.bool r) ∧ w = w' := by rw [← hr]; exact cont_own x w h hn
set_option maxRecDepth 100000 in
set_option maxHeartbeats 8000000 in
theorem isOf_any {B : Nat} {v : Value} {ks : List Int} (x : Tr) (s : Sl) (m : List Int) (hm : m.length = 28) (w : World) (h : NumR w B v ks) (hn : ks.length ≤ 1000) :
   Calls Tryz.prog 143 #[.agg (trc x s), .agg (mc m), v] w fun e w' => e = .returned (.bool (isOf x m ks)) ∧ Below w.heap.size w w' := by
 obtain ⟨A, c, rfl⟩ := own_len h
 have X1 := Lib.hid ((Blk.new w 62 (trc x s)).alloc (.cells (mc m) 45))
 have M1 := Lib.hid (Blk.new_at (w := w.alloc (.cells (trc x s) 62)) (n := w.heap.size + 1) (by simp) 45 (mc m))
 have B1 := Lib.hid ((Joins.below_alloc1 w (.cells (trc x s) 62)).alloc (by simp) (.cells (mc m) 45))
 have H1 := Lib.hid (own_step h B1.out)
 have HL := Lib.hid hm
 have HI := Lib.hid (mc_info hm)
 have HN := Lib.hid hn
 have hen := fun W => run_eql_nil_nil (P := Tryz.prog) W 28 Tryz.underlying28
 have he5 := fun W => run_eql_held_nil (P := Tryz.prog) W 28 81 (.int .i64 5) Tryz.underlying28
 obtain ⟨r, hr⟩ : ∃ r, isOf x m ks = r := ⟨_, rfl⟩
 rw [hr]
 unfold isOf at hr
 clear h hm hn
 go_enter Tryz.func143, Tryz.ntmps143
 go_upto_region 1 with fail
 obtain ⟨g, hg⟩ : ∃ g, g = w.heap.size := ⟨_, rfl⟩
 have HG := Lib.hid hg
 rw [← hg] at X1 M1 ⊢
 clear hg
 generalize (w.alloc (.cells (trc x s) 62)).alloc (.cells (mc m) 45) = V at X1 M1 B1 H1 ⊢
 have c0 : V.cell? ⟨g, 0, none⟩ = some (.int .i64 x.tx) := X1.out.cell 0
 have m0 := mc_cell HL.out M1.out (i := 0) (by omega)
 have m3 := mc_cell HL.out M1.out (i := 3) (by omega)
 cases hk : ks.contains (fld m 0) with
 | false =>
   have HK := Lib.hid hk
   obtain rfl : r = false := by rw [← hr, hk]; rfl
   clear hk hr
   go_wp2_with (go_at_call 129; refine (contG _ _ H1.out HN.out false HK.out).mono ?_; rintro e w' ⟨rfl, rfl⟩)
   go_ret
   exact ⟨rfl, B1.out⟩
 | true =>
   have HK := Lib.hid hk
   rw [hk, Bool.true_and] at hr
   clear hk
   by_cases ht : fld m 3 = x.tx
   · have e3 : (fld m 3 == x.tx) = true := by simpa using ht
     rw [decide_eq_true ht, Bool.true_and] at hr
     clear ht
     cases hb : mayB m with
     | false =>
       have OK := Lib.hid (msgOk_any m HL.out)
       rw [hb, if_neg (by simp)] at OK
       obtain rfl : r = false := hr.symm.trans hb
       clear hb hr
       go_wp2_with (first
         | (go_at_call 129; refine (contG _ _ H1.out HN.out true HK.out).mono ?_; rintro e w' ⟨rfl, rfl⟩)
         | (refine wpList_load_row_g (by rfl) 45 (.tmp 4) rfl (g + 1) rfl 45 (mc m) (0, 0) _ M1.out Tryz.underlying45 rfl HI.out ?_)
         | (go_at_call 58; refine (OK.out _).mono ?_; rintro e w2 ⟨rfl, hb2⟩; have B2 := Lib.hid (stepB B1.out hb2); clear hb2))
       go_ret
       exact ⟨rfl, B2.out⟩
     | true =>
       have OK := Lib.hid (msgOk_any m HL.out)
       rw [hb, if_pos rfl] at OK
       obtain rfl : r = true := hr.symm.trans hb
       clear hb hr
       go_wp2_with (first
         | (go_at_call 129; refine (contG _ _ H1.out HN.out true HK.out).mono ?_; rintro e w' ⟨rfl, rfl⟩)
         | (refine wpList_load_row_g (by rfl) 45 (.tmp 4) rfl (g + 1) rfl 45 (mc m) (0, 0) _ M1.out Tryz.underlying45 rfl HI.out ?_)
         | (go_at_call 58; refine (OK.out _).mono ?_; rintro e w2 ⟨rfl, hb2⟩; have B2 := Lib.hid (stepB B1.out hb2); clear hb2))
       go_ret
       exact ⟨rfl, B2.out⟩
   · have e3 : (fld m 3 == x.tx) = false := by simpa using ht
     obtain rfl : r = false := by rw [← hr, decide_eq_false ht]; rfl
     clear ht hr
     go_wp2_with (go_at_call 129; refine (contG _ _ H1.out HN.out true HK.out).mono ?_; rintro e w' ⟨rfl, rfl⟩)
     go_ret
     exact ⟨rfl, B1.out⟩
end Go.Proofs.YtadnlannbafjpaaGreat
/- Is an answer none to what is open? -/
namespace Go.Proofs.YtadnlannbafjpaaGreat
open Go.RowKit
set_option linter.unusedVariables false
set_option linter.unusedSimpArgs false
theorem neq_res (a0 a1 b0 b1 : Int) (W : World) : (binOp .neq 39 (.agg #[.int .i64 a0, .int .i64 a1]) (.agg #[.int .i64 b0, .int .i64 b1])).run Tryz.prog W = .ok (.bool (!decide (a0 = b0 ∧ a1 = b1))) W :=
 neq_two (d := 5) (by kernel_rfl) (by omega) a0 a1 b0 b1 W
set_option maxRecDepth 100000 in
set_option maxHeartbeats 8000000 in
theorem isStale_any (x : Tr) (s : Sl) (m : List Int) (hm : m.length = 28) (w : World) :
   Calls Tryz.prog 144 #[.agg (trc x s), .agg (mc m)] w fun e w' => e = .returned (.bool (stale x m)) ∧ Below w.heap.size w w' := by
 have X1 := Lib.hid ((Blk.new w 62 (trc x s)).alloc (.cells (mc m) 45))
 have M1 := Lib.hid (Blk.new_at (w := w.alloc (.cells (trc x s) 62)) (n := w.heap.size + 1) (by simp) 45 (mc m))
 have B1 := Lib.hid ((Joins.below_alloc1 w (.cells (trc x s) 62)).alloc (by simp) (.cells (mc m) 45))
 have HL := Lib.hid hm
 obtain ⟨r, hr⟩ : ∃ r, stale x m = r := ⟨_, rfl⟩
 rw [hr]
 unfold stale at hr
 clear hm
 go_enter Tryz.func144, Tryz.ntmps144
 go_upto_region 1 with fail
 obtain ⟨g, hg⟩ : ∃ g, g = w.heap.size := ⟨_, rfl⟩
 rw [← hg] at X1 M1 ⊢
 clear hg
 generalize (w.alloc (.cells (trc x s) 62)).alloc (.cells (mc m) 45) = V at X1 M1 B1 ⊢
 have c4 : V.cell? ⟨g, 4, none⟩ = some (.bool x.op) := X1.out.cell 4
 have c3 : V.cell? ⟨g, 3, none⟩ = some (.int .i64 x.sq) := X1.out.cell 3
 have c5 : V.cell? ⟨g, 5, none⟩ = some (.int .i64 x.sh) := X1.out.cell 5
 have c6 : V.cell? ⟨g, 6, none⟩ = some (.int .i64 x.a0) := X1.out.cell 6
 have c7 : V.cell? ⟨g, 7, none⟩ = some (.int .i64 x.a1) := X1.out.cell 7
 have m0 := mc_cell HL.out M1.out (i := 0) (by omega)
 have m1 := mc_cell HL.out M1.out (i := 1) (by omega)
 have m4 := mc_cell HL.out M1.out (i := 4) (by omega)
 have m5 := mc_cell HL.out M1.out (i := 5) (by omega)
 have m6 := mc_cell HL.out M1.out (i := 6) (by omega)
 generalize x.op = op at c4 hr
 cases op with
 | false =>
   obtain rfl : r = true := by rw [← hr]; rfl
   clear hr
   go_wp2_with fail
   go_ret
   exact ⟨rfl, B1.out⟩
 | true =>
   rw [show (!true) = false from rfl, Bool.false_or] at hr
   by_cases h4 : fld m 4 = x.sq
   · have e4 : (fld m 4 != x.sq) = false := by simpa using h4
     rw [decide_eq_false (show ¬ (fld m 4 ≠ x.sq) from fun h => h h4), Bool.false_or] at hr
     clear h4
     by_cases h1 : fld m 1 = x.sh
     · have e1 : (fld m 1 != x.sh) = false := by simpa using h1
       rw [decide_eq_false (show ¬ (fld m 1 ≠ x.sh) from fun h => h h1), Bool.false_or] at hr
       clear h1
       by_cases h0 : fld m 0 = 2
       · have e0 : (fld m 0 == 2) = true := by simpa using h0
         rw [decide_eq_true h0, Bool.true_and] at hr
         clear h0
         generalize fld m 5 = p5 at m5 hr
         generalize fld m 6 = p6 at m6 hr
         generalize x.a0 = q0 at c6 hr
         generalize x.a1 = q1 at c7 hr
         have he : ∀ W, (binOp .neq 39 (.agg #[.int .i64 p5, .int .i64 p6]) (.agg #[.int .i64 q0, .int .i64 q1])).run Tryz.prog W = .ok (.bool r) W := fun W => by
           rw [neq_res, ← hr, decide_not]
         clear hr
         go_wp2_with fail
         go_ret
         exact ⟨rfl, B1.out⟩
       · have e0 : (fld m 0 == 2) = false := by simpa using h0
         obtain rfl : r = false := by rw [← hr, decide_eq_false h0]; rfl
         clear hr h0
         go_wp2_with fail
         go_ret
         exact ⟨rfl, B1.out⟩
     · have e1 : (fld m 1 != x.sh) = true := by simpa using h1
       obtain rfl : r = true := by rw [← hr, decide_eq_true h1]; rfl
       clear hr h1
       go_wp2_with fail
       go_ret
       exact ⟨rfl, B1.out⟩
   · have e4 : (fld m 4 != x.sq) = true := by simpa using h4
     obtain rfl : r = true := by rw [← hr, decide_eq_true h4]; rfl
     clear hr h4
     go_wp2_with fail
     go_ret
     exact ⟨rfl, B1.out⟩
end Go.Proofs.YtadnlannbafjpaaGreat
