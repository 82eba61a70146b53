/-
  extsort.Sort on a disk that is armed. A lemma file: no statement of the seat is proved here.
-/
import Derived.Test.YtgpbanjammipiaaGreatDoorGAY
namespace Go.Proofs.YtgpbanjammipiaaGreatDoor
open Go.RowKit Go.Maps

/-- What the disk is behind a Sort, of an armed disk: it is up, or down; what was synced stays. -/
def Aft (l : List Ab) (R U : Int) (rs : List Rc) (temp : ByteArray) (inn out : List UInt8) (c : List Int) (B : Dsk) : Prop :=
  B.2.room = R ∧ B.2.used ≤ U + 4 * (rs.length : Int) ∧ lookA B.1 inn = some (inn, c, c) ∧ ∀ m, m ≠ out → (∀ r, m ≠ rowB temp r) → lookA l m = none → lookA B.1 m = none

theorem Aft.of_cr {A0 B : Dsk} {l : List Ab} {R U : Int} {rs : List Rc} {temp : ByteArray} {inn out : List UInt8} {c : List Int} {top : Int} (h : Cr A0 B (Mw temp out) top) (h1 : A0.1 = l) (hR : A0.2.room = R) (hU : A0.2.used = U) (ht : top ≤ 4 * (rs.length : Int)) (hx : lookA l inn = some (inn, c, c)) : Aft l R U rs temp inn out c B := by
  subst h1 hR hU
  have := h.used
  exact ⟨h.room, by omega, h.synced _ _ hx, fun m h1 h2 h3 => h.none m (fun e => e.elim h1 (fun ⟨r, e⟩ => h2 r e)) h3⟩

theorem Aft.of_ext {A0 B : Dsk} {l : List Ab} {R U : Int} {rs : List Rc} {temp : ByteArray} {inn out : List UInt8} {c F : List Int} (h : Ext A0 B [(out, F, F)]) (h1 : A0.1 = l) (hR : A0.2.room = R) (hU : A0.2.used = U) (ht : sec F.length ≤ 4 * (rs.length : Int)) (hx : lookA l inn = some (inn, c, c)) : Aft l R U rs temp inn out c B := by
  subst h1 hR hU
  have e := h.used
  rw [usedB_cons, usedB_nil] at e
  dsimp only at e
  exact ⟨h.room, by omega, h.old hx, fun m h1 h2 h3 => h.free (fun x hx e => by
    simp only [List.mem_singleton] at hx
    subst hx
    exact h1 e.symm) h3⟩

section
variable {w0 w : World} {p : Nat} {hs : List Nat} {l : List Ab} {s : Ds} {inn out temp : ByteArray} {n fan : Nat} {how : Int} {rs : List Rc} {c : List Int}

theorem Lw.sort_armed (h : Lw w0 w p (l, s) hs) (hup0 : s.down = false) (ht : Tab w0) (hn : 0 < n) (hn1 : n ≤ 100000) (hf : 2 ≤ fan) (hf1 : fan ≤ 100000) (hh : mayH how = true) (hk0 : 0 ≤ s.ops) (hk : s.ops ≤ 580000) (hnm : inn.size ≤ maxLen) (hnm2 : out.size ≤ maxLen) (htm : temp.size ≤ 17)
    (hx : lookA l inn.data.toList = some (inn.data.toList, c, c)) (hlen : c.length ≤ 1000000000) (hr : readB false c = (rs, 0)) (hok : ∀ y ∈ rs, okR y) (hl : rs.length ≤ 120) (hno : lookA l out.data.toList = none) (hm : mayB out.data.toList = true) (hdo : (46 : UInt8) ∉ out.data.toList) (h0 : ∀ r, lookA l (rowB temp r) = none) (hroom : 4 * (rs.length : Int) ≤ s.room - s.used) :
    Calls Tryz.prog 14 #[.pointer (some ⟨p, 0, none⟩), .string inn, .string out, .string temp, .int .i64 (n : Int), .int .i64 (fan : Int), .int .i64 how] w fun e w' => ∃ (B : Dsk) (P k : Int), Lw w0 w' p B hs ∧ Hld hs w w' ∧ s.ops ≤ B.2.ops ∧ B.2.ops ≤ s.ops + 310010 ∧ Aft l s.room s.used rs temp inn.data.toList out.data.toList c B ∧
      e = .returned (.tuple #[.int .i64 P, .int .i64 k]) ∧ ((k = 0 ∧ B.2.down = false) ∨ (k = 7 ∧ B.2.down = true)) := by
  obtain ⟨fp, d, b, f, a⟩ := h
  have hnt : 0 ≤ 4 * (rs.length : Int) := by omega
  have htd : gTab ∉ fp := fun e => by
    have := f _ e
    have := ht.lt
    omega
  have hA := (Ext.start (A0 := (l, s)) hup0).begin (M := Mw temp out.data.toList) d.ok (by simp)
  obtain ⟨ho, hA⟩ := hA
  have hokA : okA (bg (l, s)).1 (bg (l, s)).2 := beginA_ok d.ok
  have ho' : (bg (l, s)).2.ops = s.ops + 1 := ho
  rcases hA with ⟨hx1, hl1, hup⟩ | hc
  · have hl1' : (bg (l, s)).1 = l := hl1
    have hup' : (bg (l, s)).2.down = false := hup
    have hR : (bg (l, s)).2.room = s.room := hx1.room
    have hU : (bg (l, s)).2.used = s.used := by have := hx1.used; rw [usedB_nil, Int.add_zero] at this; exact this
    have hxx : lookA (bg (l, s)).1 inn.data.toList = some (inn.data.toList, c, c) := by rw [hl1']; exact hx
    have hnn : lookA (bg (l, s)).1 out.data.toList = none := by rw [hl1']; exact hno
    have hC := (Ext.start (A0 := bg (l, s)) hup').create (M := Mw temp out.data.toList) hokA (by simp) hm (by simp) hnn
    obtain ⟨hCo, hC⟩ := hC
    obtain ⟨kc, BC, hB⟩ : ∃ kc BC, createA (beginA (bg (l, s)).1 (bg (l, s)).2) out.data.toList = (kc, BC) := ⟨_, _, rfl⟩
    rw [hB] at hC hCo
    dsimp only at hC hCo
    rcases hC with ⟨rfl, hC⟩ | ⟨rfl, hC⟩
    · refine (soTop_any (A := (l, s)) (B := BC) (temp := temp) (x := (inn.data.toList, c, c)) (er := 0) (rs := rs) d hn hn1 hf hf1 hh (by dsimp only; omega) hk0 hnm hnm2 htm hup' hxx hlen hr hok hl hB hC hCo (ht.below b) htd (dot_ne hdo temp) (fun r => by rw [hl1']; exact h0 r) (.inr ⟨rfl, by rw [hR, hU]; exact hroom⟩)).mono ?_
      rintro e w' ⟨B, fd', d', k', n', ho2, H⟩
      obtain ⟨O1, O2⟩ := Lw.op (hs := hs) (B := B) b f a ⟨fd', d', k', n'⟩
      have ho3 : s.ops ≤ B.2.ops := ho2
      rcases H with ⟨_, h1, h2, h3⟩ | ⟨e', g0, h1, h2, ⟨⟨_, h3⟩ | ⟨_, h3⟩, _⟩ | ⟨rfl, h3⟩⟩
      · have h1' : B.2.ops ≤ s.ops + 200010 := h1
        exact ⟨B, _, 0, O1, O2, ho3, by omega, .of_ext h3 hl1' hR hU (by have := sec_file (canR how rs); have := canR_le how rs; omega) hx, h2, .inl ⟨rfl, h3.up⟩⟩
      · exact absurd rfl h3
      · rw [hR, hU] at h3; omega
      · have h1' : B.2.ops ≤ s.ops + 310000 := h1
        exact ⟨B, _, 7, O1, O2, ho3, by omega, .of_cr h3 hl1' hR hU (by omega) hx, h2, .inr ⟨rfl, h3.down⟩⟩
    · refine (sort_noout (A := (l, s)) (temp := temp) d n fan how hn hn1 hf hh (by dsimp only; omega) hnm hnm2 hup' hxx hlen (by decide) hB).mono ?_
      rintro e w' ⟨rfl, o⟩
      obtain ⟨O1, O2⟩ := Lw.op (hs := hs) b f a o
      exact ⟨BC, 0, 7, O1, O2, by omega, by omega, .of_cr hC hl1' hR hU (by rw [usedB_nil]; exact hnt) hx, rfl, .inr ⟨rfl, hC.down⟩⟩
  · have he : errA (bg (l, s)) inn.data.toList = some 7 := down_errA hc.down _
    refine (sort_noin (A := (l, s)) (out := out) (temp := temp) d n fan how hn hn1 hf hh (by dsimp only; omega) hnm he).mono ?_
    rintro e w' ⟨rfl, o⟩
    obtain ⟨O1, O2⟩ := Lw.op (hs := hs) b f a o
    exact ⟨bg (l, s), 0, 7, O1, O2, by omega, by omega, .of_cr hc rfl rfl rfl (by rw [usedB_nil]; exact hnt) hx, rfl, .inr ⟨rfl, hc.down⟩⟩
end

theorem more_ne (r r' : Nat) : rowB ⟨#[109, 111, 114, 101]⟩ r ≠ rowB ⟨#[116, 101, 109, 112]⟩ r' := fun e => by
  unfold rowB at e
  rw [rowN_list, rowN_list] at e
  have := congrArg List.head? e
  simp at this

end Go.Proofs.YtgpbanjammipiaaGreatDoor
