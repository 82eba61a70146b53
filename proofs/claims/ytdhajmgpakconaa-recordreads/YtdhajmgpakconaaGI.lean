/-
  Lemma texts, one behind the other: IPure, IAbs, IMem. No statement of the seat is proved here.
-/
import Derived.Test.YtdhajmgpakconaaGC
import Derived.Test.YtdhajmgpakconaaGH
import Derived.Test.YtdhajmgpakconaaGG
namespace Go.Proofs.Ytdhajmgpakconaa
open Go.RowKit

/-- The bytes of a record. -/
def recB (x : Rc) : List Int := putB 8 x.1 ++ putB 8 x.2
/-- The bytes of records. -/
def textB (l : List Rc) : List Int := l.flatMap recB
/-- The record that bytes begin with. -/
def recAt (t : List Int) : Rc := (valB 256 (t.take 8), valB 256 ((t.drop 8).take 8))
/-- So many records of bytes. -/
def recsOf : Nat → List Int → List Rc
  | 0, _ => []
  | n + 1, t => recAt t :: recsOf n (t.drop 16)
/-- All records of a text. -/
def recsT (t : List Int) : List Rc := recsOf (t.length / 16) t

theorem recB_length (x : Rc) : (recB x).length = 16 := by
  rw [recB, List.length_append, putB_length, putB_length]
theorem recB_bytes (x : Rc) : ∀ z ∈ recB x, 0 ≤ z ∧ z ≤ 255 := by
  intro z hz
  rcases List.mem_append.1 hz with hz | hz <;> exact putB_bytes _ _ z hz
theorem textB_cons (x : Rc) (l : List Rc) : textB (x :: l) = recB x ++ textB l := by simp [textB]
theorem textB_append (l m : List Rc) : textB (l ++ m) = textB l ++ textB m := by simp [textB]
theorem textB_snoc (l : List Rc) (x : Rc) : textB (l ++ [x]) = textB l ++ recB x := by simp [textB]
theorem textB_length (l : List Rc) : (textB l).length = 16 * l.length := by
  induction l with
  | nil => rfl
  | cons x l ih => rw [textB_cons, List.length_append, recB_length, ih, List.length_cons]; omega
theorem textB_bytes (l : List Rc) : ∀ z ∈ textB l, 0 ≤ z ∧ z ≤ 255 := by
  intro z hz
  simp only [textB, List.mem_flatMap] at hz
  obtain ⟨x, _, hz⟩ := hz
  exact recB_bytes x z hz

theorem recAt_rec (x : Rc) (hx : okR x) (rest : List Int) : recAt (recB x ++ rest) = x := by
  have e1 : (recB x ++ rest).take 8 = putB 8 x.1 := by
    rw [recB, List.append_assoc, List.take_append_of_le_length (by rw [putB_length]; omega), List.take_of_length_le (by rw [putB_length]; omega)]
  have e2 : ((recB x ++ rest).drop 8).take 8 = putB 8 x.2 := by
    rw [recB, List.append_assoc, List.drop_append_of_le_length (by rw [putB_length]; omega), List.drop_of_length_le (by rw [putB_length]; omega), List.nil_append, List.take_append_of_le_length (by rw [putB_length]; omega), List.take_of_length_le (by rw [putB_length]; omega)]
  obtain ⟨⟨a0, a1⟩, b0, b1⟩ := hx
  rw [recAt, e1, e2, valB_put, valB_put]
  have p : (256 : Int) ^ 8 = 18446744073709551616 := by decide
  rw [p, Int.emod_eq_of_lt a0 a1, Int.emod_eq_of_lt b0 b1]

theorem recsOf_text (l : List Rc) (h : ∀ x ∈ l, okR x) : recsOf l.length (textB l) = l := by
  induction l with
  | nil => rfl
  | cons x l ih =>
    rw [List.length_cons, recsOf, textB_cons, recAt_rec x (h x (by simp)), List.drop_append_of_le_length (by rw [recB_length]; omega), List.drop_of_length_le (by rw [recB_length]; omega), List.nil_append, ih (fun y hy => h y (by simp [hy]))]

theorem recsT_text (l : List Rc) (h : ∀ x ∈ l, okR x) : recsT (textB l) = l := by
  rw [recsT, textB_length, show 16 * l.length / 16 = l.length by omega, recsOf_text l h]

theorem recAt_ok (t : List Int) (h : ∀ z ∈ t, 0 ≤ z ∧ z ≤ 255) : okR (recAt t) := by
  have p : ∀ (bs : List Int), (∀ z ∈ bs, 0 ≤ z ∧ z ≤ 255) → bs.length ≤ 8 → 0 ≤ valB 256 bs ∧ valB 256 bs < 18446744073709551616 := fun bs hb hl => by
    have h1 := valB_nonneg 256 (by omega) bs (fun z hz => (hb z hz).1)
    have h2 := valB_lt 256 (by omega) bs (fun z hz => by have := hb z hz; omega)
    refine ⟨h1, Int.lt_of_lt_of_le h2 ?_⟩
    have e : bs.length = 0 ∨ bs.length = 1 ∨ bs.length = 2 ∨ bs.length = 3 ∨ bs.length = 4 ∨ bs.length = 5 ∨ bs.length = 6 ∨ bs.length = 7 ∨ bs.length = 8 := by omega
    rcases e with e | e | e | e | e | e | e | e | e <;> rw [e] <;> decide
  exact ⟨p _ (fun z hz => h z (List.mem_of_mem_take hz)) (by rw [List.length_take]; omega), p _ (fun z hz => h z (List.mem_of_mem_drop (List.mem_of_mem_take hz))) (by rw [List.length_take]; omega)⟩

theorem recsOf_ok (n : Nat) (t : List Int) (h : ∀ z ∈ t, 0 ≤ z ∧ z ≤ 255) : ∀ x ∈ recsOf n t, okR x := by
  induction n generalizing t with
  | zero => simp [recsOf]
  | succ n ih =>
    intro x hx
    rw [recsOf] at hx
    rcases List.mem_cons.1 hx with rfl | hx
    · exact recAt_ok t h
    · exact ih _ (fun z hz => h z (List.mem_of_mem_drop hz)) x hx

theorem recsOf_length (n : Nat) (t : List Int) : (recsOf n t).length = n := by
  induction n generalizing t with
  | zero => rfl
  | succ n ih => rw [recsOf, List.length_cons, ih]

/-- The first record of a text, and the others. -/
theorem recsT_step (t : List Int) (h : t ≠ []) (hm : t.length % 16 = 0) : recsT t = recAt t :: recsT (t.drop 16) ∧ 16 ≤ t.length ∧ (t.drop 16).length % 16 = 0 := by
  have h0 : 0 < t.length := List.length_pos_iff.2 h
  obtain ⟨n, hn⟩ : ∃ n, t.length / 16 = n + 1 := ⟨t.length / 16 - 1, by omega⟩
  refine ⟨?_, by omega, by rw [List.length_drop]; omega⟩
  rw [recsT, hn, recsOf, recsT, List.length_drop, show (t.length - 16) / 16 = n by omega]

/-! ### A file of records -/

def fileN : Nat → List Rc → List Int
  | 0, _ => []
  | n + 1, l => if l = [] then [] else blkB (textB (l.take 50)) ++ fileN n (l.drop 50)
/-- The bytes of a file of records. -/
def fileB (l : List Rc) : List Int := fileN l.length l

theorem fileN_fuel (n m : Nat) (l : List Rc) (hn : l.length ≤ n) (hm : l.length ≤ m) : fileN n l = fileN m l := by
  induction n generalizing m l with
  | zero =>
    obtain rfl : l = [] := List.eq_nil_of_length_eq_zero (by omega)
    cases m <;> simp [fileN]
  | succ n ih =>
    cases m with
    | zero =>
      obtain rfl : l = [] := List.eq_nil_of_length_eq_zero (by omega)
      simp [fileN]
    | succ m =>
      simp only [fileN]
      split
      · rfl
      · rename_i h
        have := List.length_pos_iff.2 h
        rw [ih m (l.drop 50) (by rw [List.length_drop]; omega) (by rw [List.length_drop]; omega)]

theorem fileB_nil : fileB [] = [] := rfl
theorem fileB_step (l : List Rc) (h : l ≠ []) : fileB l = blkB (textB (l.take 50)) ++ fileB (l.drop 50) := by
  have h0 := List.length_pos_iff.2 h
  obtain ⟨n, hn⟩ : ∃ n, l.length = n + 1 := ⟨l.length - 1, by omega⟩
  rw [fileB, hn, fileN, if_neg h, fileB, fileN_fuel n (l.drop 50).length _ (by rw [List.length_drop]; omega) (Nat.le_refl _)]
theorem fileB_short (l : List Rc) (h : l ≠ []) (hl : l.length ≤ 50) : fileB l = blkB (textB l) := by
  rw [fileB_step l h, List.take_of_length_le hl, List.drop_of_length_le hl, fileB_nil, List.append_nil]
/-- A full block ahead. -/
theorem fileB_full (a l : List Rc) (ha : a.length = 50) : fileB (a ++ l) = blkB (textB a) ++ fileB l := by
  rw [fileB_step (a ++ l) (by intro e; simp at e; rw [e.1] at ha; simp at ha), List.take_append_of_le_length (by omega), List.take_of_length_le (by omega), List.drop_append_of_le_length (by omega), List.drop_of_length_le (by omega), List.nil_append]

theorem len_ind {P : List Rc → Prop} (h : ∀ l, (∀ m : List Rc, m.length < l.length → P m) → P l) (l : List Rc) : P l := by
  have : ∀ n (l : List Rc), l.length ≤ n → P l := fun n => by
    induction n with
    | zero => exact fun l hl => h l (fun m hm => by omega)
    | succ n ih => exact fun l hl => h l (fun m hm => ih m (by omega))
  exact this l.length l (Nat.le_refl _)

theorem fileB_bytes (l : List Rc) : ∀ z ∈ fileB l, 0 ≤ z ∧ z ≤ 255 := by
  refine len_ind (P := fun l => ∀ z ∈ fileB l, 0 ≤ z ∧ z ≤ 255) (fun l ih => ?_) l
  by_cases h : l = []
  · subst h
    simp [fileB_nil]
  · have h0 := List.length_pos_iff.2 h
    intro z hz
    rw [fileB_step l h] at hz
    rcases List.mem_append.1 hz with hz | hz
    · exact blkB_bytes _ (textB_bytes _) z hz
    · exact ih (l.drop 50) (by rw [List.length_drop]; omega) z hz

theorem fileB_length (l : List Rc) : (fileB l).length = 16 * l.length + 6 * ((l.length + 49) / 50) := by
  refine len_ind (P := fun l => (fileB l).length = 16 * l.length + 6 * ((l.length + 49) / 50)) (fun l ih => ?_) l
  by_cases h : l = []
  · subst h
    rfl
  · have h0 := List.length_pos_iff.2 h
    rw [fileB_step l h, List.length_append, blkB_length, textB_length, List.length_take, ih (l.drop 50) (by rw [List.length_drop]; omega), List.length_drop]
    omega

/-! ### What is read -/

/-- A text is one of from 1 to 50 records. -/
def rightB (t : List Int) : Bool := decide (16 ≤ t.length) && (decide (t.length ≤ 800) && decide (t.length % 16 = 0))

theorem rightB_iff {t : List Int} : rightB t = true ↔ 16 ≤ t.length ∧ t.length ≤ 800 ∧ t.length % 16 = 0 := by
  simp [rightB]

/-- The records of bytes, up to the error. s: the block ahead was short. -/
def readN : Nat → Bool → List Int → List Rc × Int
  | 0, _, _ => ([], 0)
  | n + 1, s, c => if c = [] then ([], 0) else if (decB c).2.2 ≠ 0 then ([], (decB c).2.2) else if s = true ∨ rightB (decB c).1 = false then ([], 2) else
      (recsT (decB c).1 ++ (readN n (decide ((decB c).1.length < 800)) (c.drop (decB c).2.1)).1, (readN n (decide ((decB c).1.length < 800)) (c.drop (decB c).2.1)).2)
def readB (s : Bool) (c : List Int) : List Rc × Int := readN c.length s c

theorem decB_pos (c : List Int) (h : (decB c).2.2 = 0) : 6 ≤ (decB c).2.1 ∧ (decB c).2.1 ≤ c.length ∧ (decB c).1.length + 6 = (decB c).2.1 ∧ (decB c).1.length ≤ 1000 := by
  unfold decB at h ⊢
  split
  · rename_i h1; rw [if_pos h1] at h; simp at h
  · rename_i h1
    rw [if_neg h1] at h
    split
    · rename_i h2; rw [if_pos h2] at h; simp at h
    · rename_i h2
      rw [if_neg h2] at h
      split
      · rename_i h3; rw [if_pos h3] at h; simp at h
      · rename_i h3
        rw [if_neg h3] at h
        split
        · rename_i h4; rw [if_pos h4] at h; simp at h
        · simp
          omega

theorem readN_fuel (n m : Nat) (s : Bool) (c : List Int) (hn : c.length ≤ n) (hm : c.length ≤ m) : readN n s c = readN m s c := by
  induction n generalizing m s c with
  | zero =>
    obtain rfl : c = [] := List.eq_nil_of_length_eq_zero (by omega)
    cases m <;> simp [readN]
  | succ n ih =>
    cases m with
    | zero =>
      obtain rfl : c = [] := List.eq_nil_of_length_eq_zero (by omega)
      simp [readN]
    | succ m =>
      simp only [readN]
      split
      · rfl
      · split
        · rfl
        · rename_i h1 h2
          split
          · rfl
          · have h3 := decB_pos c (by simpa using h2)
            rw [ih m _ (c.drop (decB c).2.1) (by rw [List.length_drop]; omega) (by rw [List.length_drop]; omega)]

theorem readB_nil (s : Bool) : readB s [] = ([], 0) := rfl
theorem readB_unfold (s : Bool) (c : List Int) (h : c ≠ []) : readB s c = if (decB c).2.2 ≠ 0 then ([], (decB c).2.2) else if s = true ∨ rightB (decB c).1 = false then ([], 2) else
      (recsT (decB c).1 ++ (readB (decide ((decB c).1.length < 800)) (c.drop (decB c).2.1)).1, (readB (decide ((decB c).1.length < 800)) (c.drop (decB c).2.1)).2) := by
  have h0 := List.length_pos_iff.2 h
  obtain ⟨n, hn⟩ : ∃ n, c.length = n + 1 := ⟨c.length - 1, by omega⟩
  rw [readB, hn, readN, if_neg h]
  split
  · rfl
  · rename_i h2
    have h3 := decB_pos c (by simpa using h2)
    split
    · rfl
    · rw [readB, readN_fuel n (c.drop (decB c).2.1).length _ (c.drop (decB c).2.1) (by rw [List.length_drop]; omega) (Nat.le_refl _)]

theorem readB_bad {s : Bool} {c : List Int} (h : c ≠ []) (he : (decB c).2.2 ≠ 0) : readB s c = ([], (decB c).2.2) := by
  rw [readB_unfold s c h, if_pos he]
theorem readB_form {s : Bool} {c : List Int} (h : c ≠ []) (he : (decB c).2.2 = 0) (hf : s = true ∨ rightB (decB c).1 = false) : readB s c = ([], 2) := by
  rw [readB_unfold s c h, if_neg (by simpa using he), if_pos hf]
theorem readB_more {c : List Int} (h : c ≠ []) (he : (decB c).2.2 = 0) (hr : rightB (decB c).1 = true) :
    readB false c = (recsT (decB c).1 ++ (readB (decide ((decB c).1.length < 800)) (c.drop (decB c).2.1)).1, (readB (decide ((decB c).1.length < 800)) (c.drop (decB c).2.1)).2) := by
  rw [readB_unfold false c h, if_neg (by simpa using he), if_neg (by simp [hr])]

/-- What was written is read. -/
theorem readB_file (l : List Rc) (hl : ∀ x ∈ l, okR x) : readB false (fileB l) = (l, 0) := by
  revert hl
  refine len_ind (P := fun l => (∀ x ∈ l, okR x) → readB false (fileB l) = (l, 0)) (fun l ih hl => ?_) l
  by_cases h : l = []
  · subst h
    rfl
  · have h0 := List.length_pos_iff.2 h
    have hlen : (textB (l.take 50)).length = 16 * min 50 l.length := by rw [textB_length, List.length_take]
    have hd := decB_blk (textB (l.take 50)) (fileB (l.drop 50)) (by omega) (textB_bytes _)
    rw [← fileB_step l h] at hd
    have hne : fileB l ≠ [] := by
      intro e
      have := fileB_length l
      rw [e] at this
      simp at this
      omega
    rw [readB_more hne (by rw [hd]) (by rw [hd]; exact rightB_iff.2 ⟨by dsimp only; omega, by dsimp only; omega, by dsimp only; omega⟩), hd]
    dsimp only
    have hdr : (fileB l).drop ((textB (l.take 50)).length + 6) = fileB (l.drop 50) := by
      rw [fileB_step l h, List.drop_append_of_le_length (by rw [blkB_length]; omega), List.drop_of_length_le (by rw [blkB_length]; omega), List.nil_append]
    rw [hdr, recsT_text _ (fun x hx => hl x (List.mem_of_mem_take hx))]
    by_cases h50 : l.length ≤ 50
    · rw [List.drop_of_length_le h50, fileB_nil, readB_nil, List.take_of_length_le h50, List.append_nil]
    · rw [decide_eq_false (by omega), ih (l.drop 50) (by rw [List.length_drop]; omega) (fun x hx => hl x (List.mem_of_mem_drop hx)), List.take_append_drop]

/-- Less than a block is none. -/
theorem decB_cut (t rest : List Int) (hl : t.length ≤ 1000) (k : Nat) (hk : k < t.length + 6) : decB ((blkB t ++ rest).take k) = ([], 0, 2) := by
  have hlen : ((blkB t ++ rest).take k).length ≤ k := by rw [List.length_take]; omega
  unfold decB
  by_cases h2 : ((blkB t ++ rest).take k).length < 2
  · rw [if_pos h2]
  · rw [if_neg h2]
    have hs : sizeB ((blkB t ++ rest).take k) = t.length := by
      have := sizeB_blk t rest hl
      unfold sizeB at this ⊢
      rw [List.take_take, Nat.min_eq_left (by omega)]
      exact this
    rw [hs, if_neg (by omega), if_pos (by omega)]

/-- What is read of a front of a file: some of the records, from the first one on, or an error of form. -/
theorem readB_front (l : List Rc) (hl : ∀ x ∈ l, okR x) (k : Nat) : ((readB false ((fileB l).take k)).2 = 0 ∧ (readB false ((fileB l).take k)).1 = l.take (readB false ((fileB l).take k)).1.length) ∨ (readB false ((fileB l).take k)).2 = 2 := by
  revert k hl
  refine len_ind (P := fun l => (∀ x ∈ l, okR x) → ∀ k, ((readB false ((fileB l).take k)).2 = 0 ∧ (readB false ((fileB l).take k)).1 = l.take (readB false ((fileB l).take k)).1.length) ∨ (readB false ((fileB l).take k)).2 = 2) (fun l ih hl k => ?_) l
  by_cases h : l = []
  · subst h
    left
    rw [fileB_nil, List.take_nil, readB_nil]
    simp
  · have h0 := List.length_pos_iff.2 h
    have hlen : (textB (l.take 50)).length = 16 * min 50 l.length := by rw [textB_length, List.length_take]
    by_cases hk0 : k = 0
    · subst hk0
      left
      rw [List.take_zero, readB_nil]
      simp
    · have hfl := fileB_length l
      have hne : (fileB l).take k ≠ [] := by
        intro e
        have e2 : min k (fileB l).length = 0 := by rw [← List.length_take, e]; rfl
        omega
      by_cases hk : k < (textB (l.take 50)).length + 6
      · right
        have hd := decB_cut (textB (l.take 50)) (fileB (l.drop 50)) (by omega) k hk
        rw [← fileB_step l h] at hd
        rw [readB_bad hne (by rw [hd]; simp), hd]
      · have ht : (fileB l).take k = blkB (textB (l.take 50)) ++ (fileB (l.drop 50)).take (k - ((textB (l.take 50)).length + 6)) := by
          rw [fileB_step l h, List.take_append, List.take_of_length_le (by rw [blkB_length]; omega), blkB_length]
        have hd := decB_blk (textB (l.take 50)) ((fileB (l.drop 50)).take (k - ((textB (l.take 50)).length + 6))) (by omega) (textB_bytes _)
        rw [← ht] at hd
        have hdr : ((fileB l).take k).drop ((textB (l.take 50)).length + 6) = (fileB (l.drop 50)).take (k - ((textB (l.take 50)).length + 6)) := by
          rw [ht, List.drop_append_of_le_length (by rw [blkB_length]; omega), List.drop_of_length_le (by rw [blkB_length]; omega), List.nil_append]
        rw [readB_more hne (by rw [hd]) (by rw [hd]; exact rightB_iff.2 ⟨by dsimp only; omega, by dsimp only; omega, by dsimp only; omega⟩), hd]
        dsimp only
        rw [hdr, recsT_text _ (fun x hx => hl x (List.mem_of_mem_take hx))]
        by_cases h50 : l.length ≤ 50
        · rw [List.drop_of_length_le h50, fileB_nil, List.take_nil, readB_nil, List.take_of_length_le h50]
          left
          simp
        · rw [decide_eq_false (by omega)]
          rcases ih (l.drop 50) (by rw [List.length_drop]; omega) (fun x hx => hl x (List.mem_of_mem_drop hx)) (k - ((textB (l.take 50)).length + 6)) with ⟨e1, e2⟩ | e
          · left
            refine ⟨e1, ?_⟩
            generalize (readB false ((fileB (l.drop 50)).take (k - ((textB (l.take 50)).length + 6)))).1 = r at e2
            have hr : r.length ≤ l.length - 50 := by
              have := congrArg List.length e2
              rw [List.length_take, List.length_drop] at this
              omega
            rw [List.length_append, List.length_take, Nat.min_eq_left (by omega), List.take_add, ← e2]
          · exact .inr e

/-- Of bytes, no more than so many are wanted to tell the block that they begin with. -/
theorem decB_take (c : List Int) (k : Nat) (h : (decB (c.take k)).2.2 ≠ 2 ∨ 1006 ≤ k ∨ c.length ≤ k) : decB (c.take k) = decB c := by
  by_cases hck : c.length ≤ k
  · rw [List.take_of_length_le hck]
  · have hlen : (c.take k).length = k := by rw [List.length_take]; omega
    by_cases hk2 : k < 2
    · exfalso
      have : decB (c.take k) = ([], 0, 2) := by rw [decB, if_pos (by omega)]
      rw [this] at h
      simp at h
      omega
    · have hs : sizeB (c.take k) = sizeB c := by
        unfold sizeB
        rw [List.take_take, Nat.min_eq_left (by omega)]
      unfold decB at h ⊢
      rw [hs, hlen] at h ⊢
      rw [if_neg (by omega), if_neg (by omega : ¬ c.length < 2)]
      rw [if_neg (by omega)] at h
      by_cases h1 : 1000 < sizeB c
      · rw [if_pos h1, if_pos h1]
      · rw [if_neg h1] at h ⊢
        rw [if_neg h1]
        by_cases h2 : k < sizeB c + 6
        · exfalso
          rw [if_pos h2] at h
          simp at h
          omega
        · rw [if_neg h2, if_neg (by omega : ¬ c.length < sizeB c + 6)]
          have e1 : ((c.take k).drop (sizeB c + 2)).take 4 = (c.drop (sizeB c + 2)).take 4 := by
            rw [List.drop_take, List.take_take, Nat.min_eq_left (by omega)]
          have e2 : (c.take k).take (sizeB c + 2) = c.take (sizeB c + 2) := by rw [List.take_take, Nat.min_eq_left (by omega)]
          have e3 : ((c.take k).drop 2).take (sizeB c) = (c.drop 2).take (sizeB c) := by
            rw [List.drop_take, List.take_take, Nat.min_eq_left (by omega)]
          rw [e1, e2, e3]

end Go.Proofs.Ytdhajmgpakconaa

namespace Go.Proofs.Ytdhajmgpakconaa
open Go.RowKit Go.Maps

abbrev Dsk := List Ab × Ds

/-- What Sync answers, and leaves. -/
def syncW (A : Dsk) (n : List UInt8) : Int × Dsk := match errA A n with | some k => (k, A) | none => match lookA A.1 n with | some x => (0, (setA A.1 (x.1, x.2.1, x.2.1), A.2)) | none => (0, A)
/-- What flush answers, and leaves of the disk. -/
def flushW (A : Dsk) (n : List UInt8) (t : List Int) : Int × Dsk := appendA (beginA A.1 A.2) n (blkB t)
/-- What Put answers, and leaves: of the disk, and of the text. -/
def putW (A : Dsk) (n : List UInt8) (t : List Int) (x : Rc) : Int × Dsk × List Int :=
  if (t ++ recB x).length < 800 then (0, A, t ++ recB x) else ((flushW A n (t ++ recB x)).1, (flushW A n (t ++ recB x)).2, [])
/-- What Close answers, and leaves. -/
def closeW (A : Dsk) (n : List UInt8) (t : List Int) : Int × Dsk :=
  if t = [] then syncW (beginA A.1 A.2) n else if (flushW A n t).1 = 0 then syncW (beginA (flushW A n t).2.1 (flushW A n t).2.2) n else flushW A n t
/-- What Put of all, and Close, answer, and leave. -/
def restW (n : List UInt8) : Dsk → List Int → List Rc → Int × Dsk
  | A, t, [] => closeW A n t
  | A, t, x :: l => if (putW A n t x).1 = 0 then restW n (putW A n t x).2.1 (putW A n t x).2.2 l else ((putW A n t x).1, (putW A n t x).2.1)
/-- What Write answers, and leaves. -/
def writeW (A : Dsk) (n : List UInt8) (l : List Rc) : Int × Dsk :=
  if (createA (beginA A.1 A.2) n).1 = 0 then restW n (createA (beginA A.1 A.2) n).2 [] l else createA (beginA A.1 A.2) n

/-! ### Operations counted -/

theorem appendA_ops (A : Dsk) (n : List UInt8) (cs : List Int) : (appendA A n cs).2.2.ops = A.2.ops := by
  unfold appendA
  split
  · rfl
  · split
    · unfold writeA
      split
      · rfl
      · split <;> rfl
    · rfl
theorem createA_ops (A : Dsk) (n : List UInt8) : (createA A n).2.2.ops = A.2.ops := by
  unfold createA
  split
  · rfl
  · split
    · rfl
    · split <;> rfl
theorem flushW_ops (A : Dsk) (n : List UInt8) (t : List Int) : (flushW A n t).2.2.ops = A.2.ops + 1 := by
  rw [flushW, appendA_ops, beginA_ops]
theorem putW_ops (A : Dsk) (n : List UInt8) (t : List Int) (x : Rc) : (putW A n t x).2.1.2.ops ≤ A.2.ops + 1 ∧ A.2.ops ≤ (putW A n t x).2.1.2.ops := by
  unfold putW
  split
  · dsimp only; omega
  · dsimp only; rw [flushW_ops]; omega

/-! ### Files in their places -/

theorem lookA_ins (l : List Ab) (x : Ab) (h : lookA l x.1 = none) : lookA (insA l x) x.1 = some x := by
  induction l with
  | nil => simp [insA, lookA]
  | cons g r ih =>
    have hn := lookA_none h
    have hr : lookA r x.1 = none := by
      unfold lookA at h ⊢
      rw [List.find?_cons] at h
      split at h
      · simp at h
      · exact h
    unfold insA
    split
    · have hg : (g.1 == x.1) = false := by simpa using hn g (by simp)
      have := ih hr
      unfold lookA at this ⊢
      rw [List.find?_cons, hg]
      exact this
    · simp [lookA]

theorem lookA_insO (l : List Ab) (x : Ab) (m : List UInt8) (hm : x.1 ≠ m) : lookA (insA l x) m = lookA l m := by
  have hx : (x.1 == m) = false := by simpa using hm
  induction l with
  | nil => simp [insA, lookA, hx]
  | cons g r ih =>
    unfold insA
    split
    · unfold lookA at ih ⊢
      rw [List.find?_cons, List.find?_cons, ih]
    · unfold lookA
      rw [List.find?_cons, hx]

theorem setA_none (l : List Ab) (y : Ab) (h : ∀ z ∈ l, z.1 ≠ y.1) : setA l y = l := by
  unfold setA
  have : ∀ z ∈ l, (if z.1 == y.1 then y else z) = z := fun z hz => by rw [if_neg (by simpa using h z hz)]
  exact (List.map_congr_left this).trans (List.map_id l)

theorem setA_ins (l : List Ab) (x y : Ab) (hxy : y.1 = x.1) (h : lookA l x.1 = none) : setA (insA l x) y = insA l y := by
  have hn := lookA_none h
  clear h
  induction l with
  | nil => simp [insA, setA, hxy]
  | cons g r ih =>
    have hg : (g.1 == y.1) = false := by rw [hxy]; simpa using hn g (by simp)
    unfold insA
    rw [hxy]
    by_cases hlt : g.1 < x.1
    · rw [if_pos hlt, if_pos hlt]
      have := ih (fun z hz => hn z (by simp [hz]))
      unfold setA at this ⊢
      rw [List.map_cons, hg, this]
      rfl
    · rw [if_neg hlt, if_neg hlt]
      have := setA_none (g :: r) y (fun z hz => by rw [hxy]; exact hn z hz)
      unfold setA at this ⊢
      rw [List.map_cons, this, if_pos (by simp [hxy])]

theorem putA_end (F cs : List Int) : putA F F.length cs = F ++ cs := by
  unfold putA
  rw [List.take_length, List.drop_of_length_le (by omega), List.append_nil]
theorem moreA_end (F cs : List Int) : moreA F F.length cs = sec (F ++ cs).length - sec F.length := by
  unfold moreA
  rw [List.length_append, Nat.max_eq_right (by omega)]

/-! ### A disk that is up, and not armed -/

/-- A disk that is up, and not armed: its room, its sectors in use, its operations. -/
def upS (R U k : Int) : Ds := { room := R, used := U, ops := k, down := false, left := 0, keep := [] }

theorem begin_up (l : List Ab) (R U k : Int) : beginA l (upS R U k) = (l, upS R U (k + 1)) := rfl

section
variable {l0 : List Ab} {n : List UInt8} {R U k : Int} {F S : List Int}

theorem append_up (hno : lookA l0 n = none) (cs : List Int) : appendA (insA l0 (n, F, S), upS R (U + sec F.length) k) n cs =
    if U + sec (F ++ cs).length ≤ R then (0, (insA l0 (n, F ++ cs, S), upS R (U + sec (F ++ cs).length) k)) else (6, (insA l0 (n, F, S), upS R (U + sec F.length) k)) := by
  have e1 : errA (insA l0 (n, F, S), upS R (U + sec F.length) k) n = none := by
    unfold errA
    rw [if_neg (by simp [upS]), lookA_ins l0 (n, F, S) hno]
  have e2 : lookA (insA l0 (n, F, S)) n = some (n, F, S) := lookA_ins l0 (n, F, S) hno
  unfold appendA
  rw [e1]
  dsimp only
  rw [e2]
  dsimp only
  unfold writeA
  rw [if_neg (by dsimp only; omega)]
  simp only [Int.toNat_natCast, putA_end, moreA_end]
  rw [setA_ins l0 (n, F, S) (n, F ++ cs, S) rfl hno]
  by_cases hf : U + sec (F ++ cs).length ≤ R
  · rw [if_neg (by simp only [upS]; omega), if_pos hf]
    simp only [upS]
    rw [show U + sec F.length + (sec (F ++ cs).length - sec F.length) = U + sec (F ++ cs).length by omega]
  · rw [if_pos (by simp only [upS]; omega), if_neg hf]

theorem flush_up (hno : lookA l0 n = none) (t : List Int) : flushW (insA l0 (n, F, S), upS R (U + sec F.length) k) n t =
    if U + sec (F ++ blkB t).length ≤ R then (0, (insA l0 (n, F ++ blkB t, S), upS R (U + sec (F ++ blkB t).length) (k + 1))) else (6, (insA l0 (n, F, S), upS R (U + sec F.length) (k + 1))) := by
  unfold flushW
  dsimp only
  rw [begin_up]
  exact append_up hno (blkB t)

theorem sync_up (hno : lookA l0 n = none) : syncW (insA l0 (n, F, S), upS R U k) n = (0, (insA l0 (n, F, F), upS R U k)) := by
  have e1 : errA (insA l0 (n, F, S), upS R U k) n = none := by
    unfold errA
    rw [if_neg (by simp [upS]), lookA_ins l0 (n, F, S) hno]
  unfold syncW
  rw [e1]
  dsimp only
  rw [lookA_ins l0 (n, F, S) hno]
  dsimp only
  rw [setA_ins l0 (n, F, S) (n, F, F) rfl hno]

theorem sec_le_append (F G : List Int) : sec F.length ≤ sec (F ++ G).length := sec_mono (by simp)

/-- One record more, where all of them have room. -/
theorem put_up (hno : lookA l0 n = none) {ts : List Rc} (hts : ts.length < 50) (x : Rc) (l : List Rc) (hfit : U + sec (F ++ fileB (ts ++ x :: l)).length ≤ R) :
    ∃ F' ts' k', putW (insA l0 (n, F, S), upS R (U + sec F.length) k) n (textB ts) x = (0, (insA l0 (n, F', S), upS R (U + sec F'.length) k'), textB ts') ∧ F' ++ fileB (ts' ++ l) = F ++ fileB (ts ++ x :: l) ∧ ts'.length < 50 ∧ k ≤ k' ∧ k' ≤ k + 1 := by
  unfold putW
  rw [← textB_snoc, textB_length, List.length_append, List.length_singleton]
  by_cases h : ts.length + 1 < 50
  · rw [if_pos (by omega)]
    exact ⟨F, ts ++ [x], k, rfl, by rw [List.append_assoc]; rfl, by simpa using h, by omega, by omega⟩
  · rw [if_neg (by omega)]
    have e : fileB (ts ++ x :: l) = blkB (textB (ts ++ [x])) ++ fileB l := by
      rw [show ts ++ x :: l = (ts ++ [x]) ++ l by simp]
      exact fileB_full _ l (by rw [List.length_append, List.length_singleton]; omega)
    rw [e, ← List.append_assoc] at hfit
    have h2 := sec_le_append (F ++ blkB (textB (ts ++ [x]))) (fileB l)
    rw [flush_up hno, if_pos (by omega)]
    exact ⟨F ++ blkB (textB (ts ++ [x])), [], k + 1, rfl, by rw [e, List.nil_append, List.append_assoc], by simp, by omega, by omega⟩

theorem close_up (hno : lookA l0 n = none) {ts : List Rc} (hts : ts.length < 50) (hU : U + sec F.length ≤ R) : ∃ k', closeW (insA l0 (n, F, S), upS R (U + sec F.length) k) n (textB ts) =
    (if U + sec (F ++ fileB ts).length ≤ R then (0, (insA l0 (n, F ++ fileB ts, F ++ fileB ts), upS R (U + sec (F ++ fileB ts).length) k')) else (6, (insA l0 (n, F, S), upS R (U + sec F.length) k'))) ∧ k < k' ∧ k' ≤ k + 2 := by
  unfold closeW
  by_cases h : ts = []
  · subst h
    refine ⟨k + 1, ?_, by omega, by omega⟩
    rw [if_pos (by rfl)]
    dsimp only
    rw [begin_up, sync_up hno, fileB_nil, List.append_nil, if_pos hU]
  · have hne : textB ts ≠ [] := by
      intro e
      have := congrArg List.length e
      rw [textB_length] at this
      have h0 := List.length_pos_iff.2 h
      simp at this
      omega
    rw [if_neg hne, flush_up hno, fileB_short ts h (by omega)]
    by_cases hf : U + sec (F ++ blkB (textB ts)).length ≤ R
    · refine ⟨k + 1 + 1, ?_, by omega, by omega⟩
      rw [if_pos hf, if_pos hf, if_pos rfl]
      dsimp only
      rw [begin_up, sync_up hno]
    · refine ⟨k + 1, ?_, by omega, by omega⟩
      rw [if_neg hf, if_neg hf, if_neg (by simp)]

/-- All records, and the end: where there is room for all of them, they are there; else it is ErrSpace. -/
theorem rest_up (hno : lookA l0 n = none) (l : List Rc) : ∀ {F : List Int} {ts : List Rc} {k : Int}, ts.length < 50 → U + sec F.length ≤ R → ∃ k' G, restW n (insA l0 (n, F, []), upS R (U + sec F.length) k) (textB ts) l =
    (if U + sec (F ++ fileB (ts ++ l)).length ≤ R then (0, (insA l0 (n, F ++ fileB (ts ++ l), F ++ fileB (ts ++ l)), upS R (U + sec (F ++ fileB (ts ++ l)).length) k')) else (6, (insA l0 (n, G, []), upS R (U + sec G.length) k'))) ∧ U + sec G.length ≤ R ∧ k < k' ∧ k' ≤ k + l.length + 2 := by
  induction l with
  | nil =>
    intro F ts k hts hU
    obtain ⟨k', e, h1, h2⟩ := close_up (S := []) (k := k) hno hts hU
    refine ⟨k', F, ?_, hU, h1, by simp; omega⟩
    rw [restW, e, List.append_nil]
  | cons x l ih =>
    intro F ts k hts hU
    by_cases hfit : U + sec (F ++ fileB (ts ++ x :: l)).length ≤ R
    · obtain ⟨F', ts', k1, e1, e2, h1, h2, h3⟩ := put_up (S := []) (k := k) hno hts x l hfit
      have hU' : U + sec F'.length ≤ R := by
        have := sec_le_append F' (fileB (ts' ++ l))
        rw [e2] at this
        omega
      obtain ⟨k', G, e, hG, h4, h5⟩ := ih (k := k1) h1 hU'
      refine ⟨k', G, ?_, hG, by omega, by simp; omega⟩
      rw [restW, e1, if_pos rfl]
      dsimp only
      rw [e, e2]
    · by_cases h : ts.length + 1 < 50
      · have e1 : putW (insA l0 (n, F, []), upS R (U + sec F.length) k) n (textB ts) x = (0, (insA l0 (n, F, []), upS R (U + sec F.length) k), textB (ts ++ [x])) := by
          unfold putW
          rw [← textB_snoc, textB_length, List.length_append, List.length_singleton, if_pos (by omega)]
        obtain ⟨k', G, e, hG, h4, h5⟩ := ih (F := F) (ts := ts ++ [x]) (k := k) (by simpa using h) hU
        refine ⟨k', G, ?_, hG, by omega, by simp; omega⟩
        rw [restW, e1, if_pos rfl]
        dsimp only
        rw [e, show ts ++ [x] ++ l = ts ++ x :: l by simp]
      · have ef : fileB (ts ++ x :: l) = blkB (textB (ts ++ [x])) ++ fileB l := by
          rw [show ts ++ x :: l = (ts ++ [x]) ++ l by simp]
          exact fileB_full _ l (by rw [List.length_append, List.length_singleton]; omega)
        have e0 : putW (insA l0 (n, F, []), upS R (U + sec F.length) k) n (textB ts) x = ((flushW (insA l0 (n, F, []), upS R (U + sec F.length) k) n (textB (ts ++ [x]))).1, (flushW (insA l0 (n, F, []), upS R (U + sec F.length) k) n (textB (ts ++ [x]))).2, []) := by
          unfold putW
          rw [← textB_snoc, textB_length, List.length_append, List.length_singleton, if_neg (by omega)]
        rw [flush_up hno] at e0
        by_cases hf : U + sec (F ++ blkB (textB (ts ++ [x]))).length ≤ R
        · rw [if_pos hf] at e0
          obtain ⟨k', G, e, hG, h4, h5⟩ := ih (F := F ++ blkB (textB (ts ++ [x]))) (ts := []) (k := k + 1) (by simp) hf
          refine ⟨k', G, ?_, hG, by omega, by simp; omega⟩
          rw [restW, e0, if_pos rfl]
          dsimp only
          rw [show textB [] = [] from rfl] at e
          rw [e, ef, List.nil_append, List.append_assoc]
        · rw [if_neg hf] at e0
          refine ⟨k + 1, F, ?_, hU, by omega, by simp; omega⟩
          rw [restW, e0, if_neg (by simp), if_neg hfit]

end

/-- Write, of a file that is not there, on a disk that is up. -/
theorem write_up {l0 : List Ab} {n : List UInt8} {R U k : Int} (hno : lookA l0 n = none) (hm : mayB n = true) (hU : U ≤ R) (l : List Rc) : ∃ k' G, writeW (l0, upS R U k) n l =
    (if U + sec (fileB l).length ≤ R then (0, (insA l0 (n, fileB l, fileB l), upS R (U + sec (fileB l).length) k')) else (6, (insA l0 (n, G, []), upS R (U + sec G.length) k'))) ∧ U + sec G.length ≤ R ∧ k < k' ∧ k' ≤ k + l.length + 3 := by
  have e0 : sec ([] : List Int).length = 0 := rfl
  obtain ⟨k', G, e, hG, h1, h2⟩ := rest_up (F := []) (ts := []) (k := k + 1) (R := R) (U := U) hno l (by simp) (by rw [e0]; omega)
  refine ⟨k', G, ?_, hG, by omega, by omega⟩
  have ec : createA (beginA l0 (upS R U k)) n = (0, (insA l0 (n, [], []), upS R U (k + 1))) := by
    rw [begin_up]
    unfold createA
    rw [if_neg (by simp [upS]), if_neg (by simp [hm])]
    dsimp only
    rw [hno]
  unfold writeW
  dsimp only
  rw [ec, if_pos rfl]
  rw [e0, Int.add_zero, List.nil_append, List.nil_append] at e
  exact e

/-- .. of one that is there. -/
theorem write_is {l0 : List Ab} {n : List UInt8} {R U k : Int} {x : Ab} (hx : lookA l0 n = some x) (hm : mayB n = true) (l : List Rc) : writeW (l0, upS R U k) n l = (5, (l0, upS R U (k + 1))) := by
  have ec : createA (beginA l0 (upS R U k)) n = (5, (l0, upS R U (k + 1))) := by
    rw [begin_up]
    unfold createA
    rw [if_neg (by simp [upS]), if_neg (by simp [hm])]
    dsimp only
    rw [hx]
  unfold writeW
  dsimp only
  rw [ec, if_neg (by simp)]

end Go.Proofs.Ytdhajmgpakconaa

namespace Go.Proofs.Ytdhajmgpakconaa
open Go.RowKit Go.Maps

/-- A writer in its block. -/
def wcells (p : Nat) (nm : ByteArray) (tv : Value) : Obj := .cells #[.pointer (some ⟨p, 0, none⟩), .string nm, tv] 91 (0, 0)
/-- A writer that is closed. -/
def xcells : Obj := .cells #[.pointer none, .string ⟨#[]⟩, .slice none 0 0] 91 (0, 0)

/-- A disk, and a writer over it: fd the disk's blocks, q the writer's, tv the slice of its text. -/
structure WkE (w : World) (fd : List Nat) (tv : Value) (p q : Nat) (A : Dsk) (nm : ByteArray) (t : List Int) : Prop where
  disk : Dk w fd p A.1 A.2
  cells : w.heap[q]? = some (wcells p nm tv)
  row : RowB w tv t
  qfd : q ∉ fd
  tfd : ∀ x ∈ own tv, x ∉ fd
  qt : q ∉ own tv

/-- All its blocks. -/
def wfp (fd : List Nat) (q : Nat) (tv : Value) : List Nat := fd ++ q :: own tv

theorem wfp_mem {fd : List Nat} {q : Nat} {tv : Value} {x : Nat} : x ∈ wfp fd q tv ↔ x ∈ fd ∨ x = q ∨ x ∈ own tv := by simp [wfp]

/-- .. by its blocks. -/
def Wk (w : World) (fp : List Nat) (p q : Nat) (A : Dsk) (nm : ByteArray) (t : List Int) : Prop := ∃ fd tv, WkE w fd tv p q A nm t ∧ fp = wfp fd q tv
def WkO (w w' : World) (fp : List Nat) (p q : Nat) (A : Dsk) (nm : ByteArray) (t : List Int) : Prop := ∃ fp', Wk w' fp' p q A nm t ∧ Kept fp w w' ∧ Newly w fp fp'
/-- .. behind its end. -/
def Wx (w : World) (fp : List Nat) (p q : Nat) (A : Dsk) : Prop := ∃ fd, Dk w fd p A.1 A.2 ∧ w.heap[q]? = some xcells ∧ q ∉ fd ∧ fp = fd ++ [q]
def WxO (w w' : World) (fp : List Nat) (p q : Nat) (A : Dsk) : Prop := ∃ fp', Wx w' fp' p q A ∧ Kept fp w w' ∧ Newly w fp fp'

theorem Kept.heap9 {fp : List Nat} {w w' : World} (h : Kept fp w w') {b : Nat} {o : Obj} (hv : w.heap[b]? = some o) (hp : b ∉ fp) : w'.heap[b]? = some o :=
  (h.block b (Array.getElem?_eq_some_iff.1 hv).1 hp).trans hv

theorem heap_lt {w : World} {b : Nat} {o : Obj} (hv : w.heap[b]? = some o) : b < w.heap.size := (Array.getElem?_eq_some_iff.1 hv).1

section
variable {w w' : World} {fd : List Nat} {tv : Value} {p q : Nat} {A A' : Dsk} {nm : ByteArray} {t : List Int}

theorem WkE.lt (h : WkE w fd tv p q A nm t) : ∀ x ∈ wfp fd q tv, x < w.heap.size := fun x hx => by
  rcases wfp_mem.1 hx with hx | rfl | hx
  · exact h.disk.lt x hx
  · exact heap_lt h.cells
  · exact h.row.lt x hx

theorem WkE.kept {fp : List Nat} (h : WkE w fd tv p q A nm t) (hk : Kept fp w w') (hf : ∀ x ∈ wfp fd q tv, x ∉ fp) : WkE w' fd tv p q A nm t :=
  ⟨h.disk.kept hk (fun x hx => hf x (wfp_mem.2 (.inl hx))), hk.heap9 h.cells (hf q (wfp_mem.2 (.inr (.inl rfl)))), h.row.kept hk (fun x hx => hf x (wfp_mem.2 (.inr (.inr hx)))), h.qfd, h.tfd, h.qt⟩

theorem WkE.below (h : WkE w fd tv p q A nm t) (hb : Below w.heap.size w w') : WkE w' fd tv p q A nm t := h.kept (fp := []) (Kept.of_below hb) (by simp)

/-- An operation of the disk. -/
theorem WkE.disk_op (h : WkE w fd tv p q A nm t) (ho : Outc w w' fd p A') : ∃ fd', WkE w' fd' tv p q A' nm t ∧ Kept (wfp fd q tv) w w' ∧ Newly w (wfp fd q tv) (wfp fd' q tv) := by
  obtain ⟨fd', d, k, n⟩ := ho
  have hq := heap_lt h.cells
  refine ⟨fd', ⟨d, k.heap9 h.cells h.qfd, h.row.kept k h.tfd, fun e => ?_, fun x hx e => ?_, h.qt⟩, k.mono (fun x hx => wfp_mem.2 (.inl hx)), fun x hx => ?_⟩
  · rcases n q e with e | e
    · exact h.qfd e
    · omega
  · rcases n x e with e | e
    · exact h.tfd x hx e
    · have := h.row.lt x hx; omega
  · rcases wfp_mem.1 hx with hx | hx
    · exact (n x hx).imp (fun e => wfp_mem.2 (.inl e)) id
    · exact .inl (wfp_mem.2 (.inr hx))

/-- Another text. -/
theorem WkE.turn (h : WkE w fd tv p q A nm t) {tv' : Value} {t' : List Int} (hk : Kept (q :: own tv) w w') (hc : w'.heap[q]? = some (wcells p nm tv')) (hr : RowB w' tv' t') (hn : ∀ x ∈ own tv', x ∈ own tv ∨ w.heap.size ≤ x) :
    WkE w' fd tv' p q A nm t' ∧ Kept (wfp fd q tv) w w' ∧ Newly w (wfp fd q tv) (wfp fd q tv') := by
  have hq := heap_lt h.cells
  refine ⟨⟨h.disk.kept hk (fun x hx e => ?_), hc, hr, h.qfd, fun x hx e => ?_, fun e => ?_⟩, hk.mono (fun x hx => ?_), fun x hx => ?_⟩
  · rcases List.mem_cons.1 e with rfl | e
    · exact h.qfd hx
    · exact h.tfd x e hx
  · rcases hn x hx with e2 | e2
    · exact h.tfd x e2 e
    · have := h.disk.lt x e; omega
  · rcases hn q e with e2 | e2
    · exact h.qt e2
    · omega
  · exact wfp_mem.2 (.inr (by simpa using hx))
  · rcases wfp_mem.1 hx with hx | hx | hx
    · exact .inl (wfp_mem.2 (.inl hx))
    · exact .inl (wfp_mem.2 (.inr (.inl hx)))
    · exact (hn x hx).imp (fun e => wfp_mem.2 (.inr (.inr e))) id

/-- The end. -/
theorem WkE.shut (h : WkE w fd tv p q A nm t) (hk : Kept [q] w w') (hc : w'.heap[q]? = some xcells) : WxO w w' (wfp fd q tv) p q A := by
  refine ⟨fd ++ [q], ⟨fd, h.disk.kept hk (fun x hx e => ?_), hc, h.qfd, rfl⟩, hk.mono (fun x hx => wfp_mem.2 (.inr (.inl (by simpa using hx)))), fun x hx => .inl ?_⟩
  · simp only [List.mem_singleton] at e
    subst e
    exact h.qfd hx
  · simp only [List.mem_append, List.mem_singleton] at hx
    rcases hx with hx | hx
    · exact wfp_mem.2 (.inl hx)
    · exact wfp_mem.2 (.inr (.inl hx))

theorem WkO.trans {fp : List Nat} {w1 w2 : World} {t1 t2 : List Int} {B C : Dsk} (h : WkO w w1 fp p q B nm t1) (k : ∀ fp1, Wk w1 fp1 p q B nm t1 → WkO w1 w2 fp1 p q C nm t2) : WkO w w2 fp p q C nm t2 := by
  obtain ⟨fp1, a, k1, n1⟩ := h
  obtain ⟨fp2, b, k2, n2⟩ := k fp1 a
  exact ⟨fp2, b, k1.trans k2 n1, n1.trans n2 k1.size⟩

theorem WkO.shut {fp : List Nat} {w1 w2 : World} {t1 : List Int} {B C : Dsk} (h : WkO w w1 fp p q B nm t1) (k : ∀ fp1, Wk w1 fp1 p q B nm t1 → WxO w1 w2 fp1 p q C) : WxO w w2 fp p q C := by
  obtain ⟨fp1, a, k1, n1⟩ := h
  obtain ⟨fp2, b, k2, n2⟩ := k fp1 a
  exact ⟨fp2, b, k1.trans k2 n1, n1.trans n2 k1.size⟩

theorem WkE.cellAt (h : WkE w fd tv p q A nm t) : w.cell? ⟨q, 0, none⟩ = some (.pointer (some ⟨p, 0, none⟩)) ∧ w.cell? ⟨q, 1, none⟩ = some (.string nm) ∧ w.cell? ⟨q, 2, none⟩ = some tv ∧ ∀ o, w.frozen? ⟨q, o, none⟩ = false := by
  refine ⟨?_, ?_, ?_, fun o => frozen_of_heap h.cells o⟩
  · have := cell_of_heap h.cells 0; simpa using this
  · have := cell_of_heap h.cells 1; simpa using this
  · have := cell_of_heap h.cells 2; simpa using this

theorem Wk.below {fp : List Nat} (h : Wk w fp p q A nm t) (hb : Below w.heap.size w w') : Wk w' fp p q A nm t := by
  obtain ⟨fd, tv, e, rfl⟩ := h
  exact ⟨fd, tv, e.below hb, rfl⟩
theorem Wk.kept {fp fp' : List Nat} (h : Wk w fp p q A nm t) (hk : Kept fp' w w') (hf : ∀ x ∈ fp, x ∉ fp') : Wk w' fp p q A nm t := by
  obtain ⟨fd, tv, e, rfl⟩ := h
  exact ⟨fd, tv, e.kept hk hf, rfl⟩
theorem Wk.lt {fp : List Nat} (h : Wk w fp p q A nm t) : ∀ x ∈ fp, x < w.heap.size := by
  obtain ⟨fd, tv, e, rfl⟩ := h
  exact e.lt
theorem Wx.lt {fp : List Nat} (h : Wx w fp p q A) : ∀ x ∈ fp, x < w.heap.size := by
  obtain ⟨fd, d, c, _, rfl⟩ := h
  intro x hx
  rcases List.mem_append.1 hx with hx | hx
  · exact d.lt x hx
  · simp only [List.mem_singleton] at hx
    subst hx
    exact heap_lt c
theorem Wx.kept {fp fp' : List Nat} (h : Wx w fp p q A) (hk : Kept fp' w w') (hf : ∀ x ∈ fp, x ∉ fp') : Wx w' fp p q A := by
  obtain ⟨fd, d, c, a, rfl⟩ := h
  exact ⟨fd, d.kept hk (fun x hx => hf x (by simp [hx])), hk.heap9 c (hf q (by simp)), a, rfl⟩
theorem Wx.below {fp : List Nat} (h : Wx w fp p q A) (hb : Below w.heap.size w w') : Wx w' fp p q A := h.kept (Kept.of_below (fp := []) hb) (by simp)
end

/-! ### closed, end -/

set_option maxRecDepth 100000 in
theorem closed_no {w : World} {q : Nat} {a : Addr} (h : w.cell? ⟨q, 0, none⟩ = some (.pointer (some a))) : Calls Try.prog 45 #[.pointer (some ⟨q, 0, none⟩)] w fun e w' => e = .returned (.bool false) ∧ w' = w := by
  go_enter Try.func45, Try.ntmps45
  go_wp2
  go_ret
  exact ⟨rfl, rfl⟩

set_option maxRecDepth 100000 in
theorem closed_yes {w : World} {q : Nat} (h : w.cell? ⟨q, 0, none⟩ = some (.pointer none)) : Calls Try.prog 45 #[.pointer (some ⟨q, 0, none⟩)] w fun e w' => e = .returned (.bool true) ∧ w' = w := by
  go_enter Try.func45, Try.ntmps45
  go_wp2
  go_ret
  exact ⟨rfl, rfl⟩

set_option maxRecDepth 100000 in
theorem end_any {w : World} {fd : List Nat} {tv : Value} {p q : Nat} {A : Dsk} {nm : ByteArray} {t : List Int} (h : WkE w fd tv p q A nm t) : Calls Try.prog 49 #[.pointer (some ⟨q, 0, none⟩)] w fun e w' => e = .returned (.tuple #[]) ∧ WxO w w' (wfp fd q tv) p q A := by
  obtain ⟨c0, c1, c2, c3⟩ := h.cellAt
  have H := hide h
  clear h
  go_enter Try.func49, Try.ntmps49
  go_wp2
  go_end0
  refine ⟨rfl, H.out.shut ((((Kept.refl _ w).setCell (.inl (by simp)) _).setCell (.inl (by simp)) _).setCell (.inl (by simp)) _) ?_⟩
  have e := heap_setCell (heap_setCell (heap_setCell H.out.cells 0 (.pointer none)) 1 (.string ⟨#[]⟩)) 2 (.slice none 0 0)
  simpa [wcells, xcells] using e

end Go.Proofs.Ytdhajmgpakconaa
