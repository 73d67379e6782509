/- A transaction as its coordinator knows it: plain data; what each call makes of it. -/
import Derived.Test.YtopjkidekbfalaaMsgA
import Derived.Test.YtopjkidekbfalaaGraM
namespace Go.Proofs.Ytopjkidekbfalaa
open Go.RowKit
set_option linter.unusedVariables false
set_option linter.unusedSimpArgs false

structure Tr where
  tx : Int
  st : Int
  rs : Int
  sq : Int
  op : Bool
  sh : Int
  a0 : Int
  a1 : Int
  md : Int
  tch : List Int
  vts : List Int
  acks : List Int
  got : List (List Int)

/-- A message with these fields. -/
def msgL (k t tx sq a0 a1 md cd : Int) : List Int := [k, 0, t, tx, sq, a0, a1, md, cd, 0, 0, 0, 0, 0, 0, 0, 0, 0, 0, 0, 0, 0, 0, 0, 0, 0, 0, 0]
theorem msgL_len (k t tx sq a0 a1 md cd : Int) : (msgL k t tx sq a0 a1 md cd).length = 28 := rfl
def lockL (x : Tr) (t : Int) : List Int := msgL 1 t x.tx x.sq x.a0 x.a1 x.md 0
def newsK (s : Int) : Int := if s = 2 then 4 else if s = 3 ∨ s = 4 then 6 else 8
def newsC (s : Int) : Int := if s = 3 then 1 else 0
def newsL (x : Tr) (t : Int) : List Int := msgL (newsK x.st) t x.tx 0 0 0 0 (newsC x.st)
/-- A message to each of those shards. -/
def sendL (m : List Int) (l : List Int) : List (List Int) := l.map fun n => m.set 2 n
theorem lockL_set (x : Tr) (a b : Int) : (lockL x a).set 2 b = lockL x b := rfl
theorem newsL_set (x : Tr) (a b : Int) : (newsL x a).set 2 b = newsL x b := rfl
def withoutL (l o : List Int) : List Int := l.filter fun n => !o.contains n
/-- Rising numbers, and one more. -/
def ins (n : Int) : List Int → List Int
  | [] => [n]
  | y :: r => if n < y then n :: y :: r else if n = y then y :: r else y :: ins n r
theorem mem_ins {n x : Int} : ∀ {l : List Int}, x ∈ ins n l ↔ x = n ∨ x ∈ l
  | [] => by simp [ins]
  | y :: r => by
    have := mem_ins (n := n) (x := x) (l := r)
    unfold ins
    split
    · simp
    · split
      · rename_i h; subst h; simp
      · simp only [List.mem_cons, this]
        constructor
        · rintro (h | h | h)
          · exact .inr (.inl h)
          · exact .inl h
          · exact .inr (.inr h)
        · rintro (h | h | h)
          · exact .inr (.inl h)
          · exact .inl h
          · exact .inr (.inr h)
theorem ris_ins' {n : Int} : ∀ {l : List Int}, Ris l → Ris (ins n l)
  | [], _ => by simp [ins, Ris]
  | y :: r, h => by
    obtain ⟨h1, h2⟩ := List.pairwise_cons.1 h
    have ih := ris_ins' (n := n) h2
    unfold ins
    split
    · rename_i hlt
      refine List.pairwise_cons.2 ⟨fun z hz => ?_, h⟩
      rcases List.mem_cons.1 hz with rfl | hz
      · exact hlt
      · have := h1 z hz; omega
    · split
      · exact h
      · refine List.pairwise_cons.2 ⟨fun z hz => ?_, ih⟩
        rcases mem_ins.1 hz with rfl | hz
        · omega
        · exact h1 z hz
theorem ins_same {n : Int} : ∀ {l : List Int}, Ris l → n ∈ l → ins n l = l
  | l, h, hm => ris_ext (ris_ins' h) h fun x => by rw [mem_ins]; constructor
                                                   · rintro (rfl | h); exact hm; exact h
                                                   · exact .inr
theorem ins_len (n : Int) : ∀ l : List Int, (ins n l).length ≤ l.length + 1
  | [] => by simp [ins]
  | y :: r => by
    have := ins_len n r
    unfold ins
    split
    · simp
    · split
      · simp
      · simp; omega

def comL (x : Tr) : Tr := { x with st := 3, op := false }
def pre2 (x : Tr) : Tr := { x with st := 2 }
/-- One that goes on from its state, as far as the votes let it. -/
def goOnL (x : Tr) : Tr × List (List Int) :=
  if x.st = 1 ∧ x.tch ≠ [] then (pre2 x, x.tch.map (newsL (pre2 x))) else if withoutL x.tch x.vts ≠ [] then (x, []) else (comL x, x.tch.map (newsL (comL x)))
def decided (x : Tr) : Bool := decide (x.st = 3 ∨ x.st = 4)
def abtX (x : Tr) (r : Int) : Tr := { x with st := 4, rs := r, op := false }
def badAsk (sh a0 a1 md : Int) : Prop := sh < 1 ∨ 64 < sh ∨ resB a0 a1 = false ∨ md < 1 ∨ 4 < md
instance (sh a0 a1 md : Int) : Decidable (badAsk sh a0 a1 md) := by unfold badAsk; infer_instance
def askX (x : Tr) (sh a0 a1 md : Int) : Tr := { x with sq := x.sq + 1, op := true, sh := sh, a0 := a0, a1 := a1, md := md, tch := ins sh x.tch }
abbrev Res3 := Tr × List (List Int) × Int
def askL (x : Tr) (sh a0 a1 md : Int) : Res3 :=
  if badAsk sh a0 a1 md then (x, [], 1) else if x.st ≠ 1 then (x, [], 11) else if x.op = true then (x, [], 8) else if 1048576 ≤ x.sq then (x, [], 6) else
  (askX x sh a0 a1 md, [lockL (askX x sh a0 a1 md) sh], 0)
def isOf (x : Tr) (m : List Int) (ks : List Int) : Bool := ks.contains (fld m 0) && (decide (fld m 3 = x.tx) && mayB m)
def stale (x : Tr) (m : List Int) : Bool := !x.op || (decide (fld m 4 ≠ x.sq) || (decide (fld m 1 ≠ x.sh) || (decide (fld m 0 = 2) && decide (¬ (fld m 5 = x.a0 ∧ fld m 6 = x.a1)))))
def grantL (m : List Int) : List Int := [fld m 3, fld m 4, fld m 5, fld m 6, fld m 7]
def ansX (x : Tr) (m : List Int) : Tr := { x with op := false, got := if fld m 0 = 2 then x.got ++ [grantL m] else x.got }
def ansL (x : Tr) (m : List Int) : Res3 :=
  if isOf x m [2, 3] = false then (x, [], 5) else if x.st ≠ 1 then (x, [], 11) else if stale x m = true then (x, [], 14) else (ansX x m, [], 0)
def finL (x : Tr) : Res3 := if x.st ≠ 1 then (x, [], 11) else if x.op = true then (x, [], 8) else ((goOnL x).1, (goOnL x).2, 0)
def abtL (x : Tr) (r : Int) : Res3 := if r < 1 ∨ 5 < r then (x, [], 1) else if decided x = true then (x, [], 15) else (abtX x r, x.tch.map (newsL (abtX x r)), 0)
def votX (x : Tr) (n : Int) : Tr := { x with vts := ins n x.vts }
def votL (x : Tr) (m : List Int) : Res3 :=
  if isOf x m [5] = false then (x, [], 5) else if x.st ≠ 2 then (x, [], 11) else if x.tch.contains (fld m 1) = false then (x, [], 10) else if fld m 8 = 0 then abtL x 2 else
  ((goOnL (votX x (fld m 1))).1, (goOnL (votX x (fld m 1))).2, 0)
def ackX (x : Tr) (n : Int) : Tr := { x with acks := ins n x.acks }
def ackL (x : Tr) (m : List Int) : Res3 :=
  if isOf x m [7] = false then (x, [], 5) else if decided x = false then (x, [], 11) else if x.tch.contains (fld m 1) = false then (x, [], 10) else (ackX x (fld m 1), [], 0)
def againL (x : Tr) (alive : Bool) : List (List Int) :=
  if x.st = 1 then (if x.op = true then [lockL x x.sh] else []) ++ (if alive = true then x.tch.map (newsL x) else [])
  else if x.st = 2 then (withoutL x.tch x.vts).map (newsL x) else if x.st = 3 ∨ x.st = 4 then (withoutL x.tch x.acks).map (newsL x) else []
def overB (x : Tr) : Bool := decided x && decide (withoutL x.tch x.acks = [])
/-- Something that happens: a list of 33 numbers. -/
def actL (x : Tr) (a : List Int) : Res3 :=
  if fld a 0 = 0 then askL x (fld a 1) (fld a 2) (fld a 3) (fld a 4) else if fld a 0 = 1 then ansL x (a.drop 5) else if fld a 0 = 2 then finL x else
  if fld a 0 = 3 then votL x (a.drop 5) else if fld a 0 = 4 then abtL x (fld a 1) else if fld a 0 = 5 then ackL x (a.drop 5) else (x, [], 0)
def newL (tx : Int) : Tr := ⟨tx, 1, 0, 0, false, 0, 0, 0, 0, [], [], [], []⟩
def noTr : Tr := ⟨0, 0, 0, 0, false, 0, 0, 0, 0, [], [], [], []⟩

/-- Shards, rising. -/
structure Shs (l : List Int) : Prop where
  ris : Ris l
  all : ∀ n ∈ l, 1 ≤ n ∧ n ≤ 64
theorem Shs.nil : Shs [] := ⟨List.Pairwise.nil, fun _ h => by cases h⟩
theorem Shs.ins {l : List Int} (h : Shs l) {n : Int} (hn : 1 ≤ n ∧ n ≤ 64) : Shs (ins n l) := ⟨ris_ins' h.ris, fun x hx => by rcases mem_ins.1 hx with rfl | hx; exact hn; exact h.all x hx⟩
theorem Shs.len {l : List Int} (h : Shs l) : l.length ≤ 64 := by
  have := nodup_len (l := l) (m := (List.range 64).map fun (i : Nat) => (i : Int) + 1) (ris_nodup h.ris) fun x hx => by
    have := h.all x hx
    exact List.mem_map.2 ⟨(x - 1).toNat, by rw [List.mem_range]; omega, by omega⟩
  simpa using this
/-- What holds of a transaction all along, behind k things that happened. -/
structure TrOk (x : Tr) (k : Nat) : Prop where
  tx : 1 ≤ x.tx ∧ x.tx ≤ 1048576
  st : 1 ≤ x.st ∧ x.st ≤ 4
  rs0 : x.st ≤ 3 → x.rs = 0
  rs1 : x.st = 4 → 1 ≤ x.rs ∧ x.rs ≤ 5
  sq : 0 ≤ x.sq ∧ x.sq ≤ 1048576
  op : x.op = true → x.st = 1 ∧ 1 ≤ x.sq ∧ resB x.a0 x.a1 = true ∧ (1 ≤ x.md ∧ x.md ≤ 4) ∧ x.sh ∈ x.tch
  tch : Shs x.tch
  vts : Shs x.vts
  acks : Shs x.acks
  sub : ∀ n ∈ x.vts, n ∈ x.tch
  com : x.st = 3 → withoutL x.tch x.vts = []
  len : x.got.length ≤ k
  got : ∀ g ∈ x.got, g.length = 5
theorem TrOk.new {tx : Int} (h : 1 ≤ tx ∧ tx ≤ 1048576) (k : Nat) : TrOk (newL tx) k :=
  { tx := h, st := ⟨by show (1 : Int) ≤ 1; omega, by show (1 : Int) ≤ 4; omega⟩, rs0 := fun _ => rfl, rs1 := (fun e => by have : (1 : Int) = 4 := e; omega), sq := ⟨by show (0 : Int) ≤ 0; omega, by show (0 : Int) ≤ 1048576; omega⟩, op := (fun e => by cases e),
    tch := Shs.nil, vts := Shs.nil, acks := Shs.nil, sub := (fun _ e => by cases e), com := (fun _ => rfl), len := Nat.zero_le _, got := (fun _ e => by cases e) }
theorem TrOk.more {x : Tr} {k k' : Nat} (h : TrOk x k) (hk : k ≤ k') : TrOk x k' := { h with len := Nat.le_trans h.len hk }
theorem without_mem {l o : List Int} {n : Int} : n ∈ withoutL l o ↔ n ∈ l ∧ n ∉ o := by simp [withoutL]
theorem without_nil {l o : List Int} : withoutL l o = [] ↔ ∀ n ∈ l, n ∈ o := by
  constructor
  · intro h n hn
    by_cases ho : n ∈ o
    · exact ho
    · have := without_mem.2 ⟨hn, ho⟩; rw [h] at this; cases this
  · intro h
    apply List.eq_nil_iff_forall_not_mem.2
    intro n hn
    obtain ⟨h1, h2⟩ := without_mem.1 hn
    exact h2 (h n h1)
theorem TrOk.goOn {x : Tr} {k : Nat} (h : TrOk x k) (hop : x.op = false) (hst : x.st = 1 ∨ x.st = 2) : TrOk (goOnL x).1 k := by
  have hr := h.rs0 (by omega)
  unfold goOnL
  split
  · exact { h with st := ⟨by show (1 : Int) ≤ 2; omega, by show (2 : Int) ≤ 4; omega⟩, rs0 := fun _ => hr, rs1 := (fun e => by have : (2 : Int) = 4 := e; omega), op := (fun e => by rw [show (pre2 x).op = x.op from rfl, hop] at e; cases e), com := (fun e => by have : (2 : Int) = 3 := e; omega) }
  · split
    · exact h
    · rename_i h2
      exact { h with st := ⟨by show (1 : Int) ≤ 3; omega, by show (3 : Int) ≤ 4; omega⟩, rs0 := fun _ => hr, rs1 := (fun e => by have : (3 : Int) = 4 := e; omega), op := (fun e => by cases e), com := fun _ => Decidable.byContradiction h2 }
theorem mayB_from {m : List Int} (h : mayB m = true) (hk : fld m 0 = 5 ∨ fld m 0 = 7 ∨ fld m 0 = 2 ∨ fld m 0 = 3) : 1 ≤ fld m 1 ∧ fld m 1 ≤ 64 := by
  unfold mayB at h
  rw [Bool.and_eq_true] at h
  have h1 := h.1
  unfold goesB wayB at h1
  rw [if_neg (by omega), if_pos (by omega)] at h1
  unfold upB at h1
  rw [Bool.and_eq_true] at h1
  exact inS_iff.1 h1.1
theorem mayB_code {m : List Int} (h : mayB m = true) (hk : fld m 0 = 5) : fld m 8 = 0 ∨ fld m 8 = 1 := by
  unfold mayB at h
  simp only [Bool.and_eq_true] at h
  have h1 := inS_iff.1 h.2.2.2.2.2.1
  unfold sCode at h1
  rw [hk] at h1
  simp at h1
  omega
theorem isOf_kind {x : Tr} {m ks : List Int} (h : ¬ isOf x m ks = false) : fld m 0 ∈ ks ∧ fld m 3 = x.tx ∧ mayB m = true := by
  have h : isOf x m ks = true := by simpa using h
  unfold isOf at h
  simp only [Bool.and_eq_true, decide_eq_true_eq] at h
  exact ⟨by simpa using h.1, h.2.1, h.2.2⟩
theorem TrOk.abt {x : Tr} {k : Nat} (h : TrOk x k) {r : Int} (hr : 1 ≤ r ∧ r ≤ 5) : TrOk (abtX x r) k :=
  { h with st := ⟨by show (1 : Int) ≤ 4; omega, by show (4 : Int) ≤ 4; omega⟩, rs0 := (fun e => by have : (4 : Int) ≤ 3 := e; omega), rs1 := fun _ => hr, op := (fun e => by cases e), com := (fun e => by have : (4 : Int) = 3 := e; omega) }
theorem TrOk.vot {x : Tr} {k : Nat} (h : TrOk x k) {n : Int} (hn : n ∈ x.tch) (hst : x.st = 2) : TrOk (votX x n) k :=
  { h with vts := h.vts.ins (h.tch.all n hn), sub := (fun y hy => by rcases mem_ins.1 hy with rfl | hy; exact hn; exact h.sub y hy), com := (fun e => by have : x.st = 3 := e; omega) }
theorem TrOk.ack {x : Tr} {k : Nat} (h : TrOk x k) {n : Int} (hn : n ∈ x.tch) : TrOk (ackX x n) k := { h with acks := h.acks.ins (h.tch.all n hn) }
theorem TrOk.ans {x : Tr} {k : Nat} (h : TrOk x k) (m : List Int) : TrOk (ansX x m) (k + 1) :=
  { h with
    op := (fun e => by cases e)
    len := (by
      have := h.len
      show (if fld m 0 = 2 then x.got ++ [grantL m] else x.got).length ≤ k + 1
      split
      · rw [List.length_append]; simp; omega
      · omega)
    got := (by
      show ∀ g ∈ (if fld m 0 = 2 then x.got ++ [grantL m] else x.got), g.length = 5
      split
      · intro g hg
        rcases List.mem_append.1 hg with hg | hg
        · exact h.got g hg
        · rw [List.mem_singleton.1 hg]; rfl
      · exact h.got) }
theorem TrOk.ask {x : Tr} {k : Nat} (h : TrOk x k) {sh a0 a1 md : Int} (hb : ¬ badAsk sh a0 a1 md) (hst : x.st = 1) (hs : ¬ 1048576 ≤ x.sq) : TrOk (askX x sh a0 a1 md) k := by
  have hsh : 1 ≤ sh ∧ sh ≤ 64 := by unfold badAsk at hb; omega
  have hmd : 1 ≤ md ∧ md ≤ 4 := by unfold badAsk at hb; omega
  have hre : resB a0 a1 = true := by
    cases hx : resB a0 a1 with
    | true => rfl
    | false => exact absurd (.inr (.inr (.inl hx))) hb
  have h0 := h.sq
  exact { h with
    sq := ⟨by show 0 ≤ x.sq + 1; omega, by show x.sq + 1 ≤ 1048576; omega⟩
    op := fun _ => ⟨hst, by show 1 ≤ x.sq + 1; omega, hre, hmd, mem_ins.2 (.inl rfl)⟩
    tch := h.tch.ins hsh
    sub := fun n hn => mem_ins.2 (.inr (h.sub n hn))
    com := fun e => by have : x.st = 3 := e; omega }
theorem TrOk.act {x : Tr} {k : Nat} (h : TrOk x k) (a : List Int) : TrOk (actL x a).1 (k + 1) := by
  have hk := h.more (Nat.le_succ k)
  have habt : ∀ r, TrOk (abtL x r).1 (k + 1) := by
    intro r
    unfold abtL
    split
    · exact hk
    · split
      · exact hk
      · exact hk.abt (by omega)
  have hgo : ∀ y : Tr, TrOk y (k + 1) → y.op = false → (y.st = 1 ∨ y.st = 2) → TrOk (goOnL y).1 (k + 1) := fun y hy ho hs => hy.goOn ho hs
  unfold actL
  split
  · unfold askL
    split
    · exact hk
    · rename_i hb
      split
      · exact hk
      · rename_i hs
        split
        · exact hk
        · split
          · exact hk
          · rename_i hq
            exact hk.ask hb (by omega) hq
  · split
    · unfold ansL
      split
      · exact hk
      · split
        · exact hk
        · split
          · exact hk
          · exact h.ans _
    · split
      · unfold finL
        split
        · exact hk
        · split
          · exact hk
          · rename_i h1 h2
            exact hgo x hk (by simpa using h2) (by omega)
      · split
        · unfold votL
          split
          · exact hk
          · split
            · exact hk
            · split
              · exact hk
              · split
                · exact habt 2
                · rename_i h1 h2 h3 h4
                  have hm : fld (a.drop 5) 1 ∈ x.tch := by simpa using h3
                  have hst : x.st = 2 := by omega
                  refine hgo _ (hk.vot hm hst) ?_ (.inr hst)
                  show x.op = false
                  cases ho : x.op with
                  | false => rfl
                  | true => have := (h.op ho).1; omega
        · split
          · exact habt _
          · split
            · unfold ackL
              split
              · exact hk
              · split
                · exact hk
                · split
                  · exact hk
                  · rename_i h1 h2 h3
                    exact hk.ack (by simpa using h3)
            · exact hk
/-- A number of an error that a law's Code tells. -/
def codOk (c : Int) : Prop := c = 0 ∨ decide (1 ≤ c ∧ c ≤ 15) = true
theorem actL_code (x : Tr) (a : List Int) : codOk (actL x a).2.2 := by
  have habt : ∀ r, codOk (abtL x r).2.2 := by
    intro r; unfold abtL codOk
    split; exact .inr rfl
    split; exact .inr rfl
    exact .inl rfl
  unfold actL
  split
  · unfold askL codOk
    split; exact .inr rfl
    split; exact .inr rfl
    split; exact .inr rfl
    split; exact .inr rfl
    exact .inl rfl
  split
  · unfold ansL codOk
    split; exact .inr rfl
    split; exact .inr rfl
    split; exact .inr rfl
    exact .inl rfl
  split
  · unfold finL codOk
    split; exact .inr rfl
    split; exact .inr rfl
    exact .inl rfl
  split
  · unfold votL
    split; exact .inr rfl
    split; exact .inr rfl
    split; exact .inr rfl
    split; exact habt 2
    exact .inl rfl
  split
  · exact habt _
  split
  · unfold ackL codOk
    split; exact .inr rfl
    split; exact .inr rfl
    split; exact .inr rfl
    exact .inl rfl
  exact .inl rfl
end Go.Proofs.Ytopjkidekbfalaa
