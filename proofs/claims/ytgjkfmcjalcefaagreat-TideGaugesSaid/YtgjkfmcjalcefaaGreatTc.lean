/- Right cycles, divisors, values of a cycle, comparing lists: the program's and the reference's, over the calculator's memory. -/
import Derived.Test.YtgjkfmcjalcefaaGreatTb
namespace Go.Proofs.YtgjkfmcjalcefaaGreat
open Go.Proofs.YtgjkfmcjalcefaaGreat.Ev

theorem cyOk_no {c : Cy} (h : CyOk c → False) : cyOk c = false := by
  cases e : cyOk c with
  | false => rfl
  | true => exact (h (cyOk_iff.1 e)).elim
theorem ItV.ne {h : Heap} {v : AV} {xs : List Int} (k : ItV h v xs) (hn : 0 < xs.length) : ∃ b off c, v = .slice b off xs.length c ∧ InH h b off xs := by
  rcases k with ⟨_, rfl⟩ | k
  · simp at hn
  · exact k
theorem all_mem {xs : List Int} {p : Int → Prop} (h : ∀ i, i < xs.length → p (nth xs i)) : ∀ x ∈ xs, p x := fun x hx => by
  obtain ⟨i, hi, rfl⟩ := List.getElem_of_mem hx
  have := h i hi
  rwa [nth_eq hi] at this
set_option maxRecDepth 100000 in
set_option maxHeartbeats 4000000 in
theorem isCycle_con (h : Heap) (g : Gd h) (id bg ev : Int) (v : AV) (hs : List Int) (hv : ItV h v hs) :
    Con Tryz.prog Bs 53 [.agg [.int .i64 id, .int .i64 bg, .int .i64 ev, v]] h [] (.bool (cyOk ⟨id, bg, ev, hs⟩)) [] := by
  refine Con.start rfl Tryz.func53 rfl rfl Tryz.ntmps53 rfl rfl g ?_
  (refine WK.seq ?_; refine WK.region ?_; refine St.box fun _ _ => ?_; refine St.assign ?_; refine WO.nil ?_; refine WK.seq ?_; refine WK.seq ?_; refine WK.region ?_; refine St.fieldAddr ?_; refine St.load ?_)
  rename_i p hp
  refine St.call (fun _ => rfl) (fun h2 hh => isID_con h2 hh.gd id) ?_
  (refine St.un ?_; refine St.move ?_)
  refine St.split (fun hc => ?_) (fun hc => ?_)
  · (refine St.skip ?_; refine St.skip ?_; refine St.skip ?_; refine St.skip ?_; refine St.pickT ?_; refine St.move ?_; refine St.skip ?_; refine St.skip ?_; refine St.skip ?_; refine St.pickT ?_; refine St.move ?_; refine St.skip ?_; refine St.skip ?_; refine St.skip ?_; refine St.pickT ?_; refine WO.nil ?_; refine WK.condT ?_; refine WK.seq ?_; refine WK.region ?_; refine St.assign ?_; refine WO.nil ?_)
    refine St.ret (by first | exact .tmp .nil | exact .cell .nil | exact .cell (.tmp .nil) | exact .tmp (.tmp .nil) | exact .cell (.cell .nil) | exact .tmp (.cell .nil) | exact .nil | exact .tmp (.cell (.tmp .nil)) | exact .cell (.tmp (.tmp .nil)) | exact .cell (.cell (.tmp .nil)) | exact .tmp (.tmp (.tmp .nil)) | exact .cell (.cell (.cell .nil))) ?_
    have : cyOk ⟨id, bg, ev, hs⟩ = false := cyOk_no fun k => by have h1 := k.id1; have h2 := k.id2; simp at hc h1 h2; omega
    rw [this]; rfl
  have k1 : 1 ≤ id ∧ id ≤ 1099511627776 := by simp at hc; omega
  clear hc
  (refine St.fieldAddr ?_; refine St.load ?_)
  refine St.call (fun _ => rfl) (fun h2 hh => isMinute_con h2 hh.gd bg) ?_
  (refine St.un ?_; refine St.pickF ?_; refine St.move ?_)
  refine St.split (fun hc => ?_) (fun hc => ?_)
  · (refine St.skip ?_; refine St.skip ?_; refine St.skip ?_; refine St.pickT ?_; refine St.move ?_; refine St.skip ?_; refine St.skip ?_; refine St.skip ?_; refine St.pickT ?_; refine WO.nil ?_; refine WK.condT ?_; refine WK.seq ?_; refine WK.region ?_; refine St.assign ?_; refine WO.nil ?_)
    refine St.ret (by first | exact .tmp .nil | exact .cell .nil | exact .cell (.tmp .nil) | exact .tmp (.tmp .nil) | exact .cell (.cell .nil) | exact .tmp (.cell .nil) | exact .nil | exact .tmp (.cell (.tmp .nil)) | exact .cell (.tmp (.tmp .nil)) | exact .cell (.cell (.tmp .nil)) | exact .tmp (.tmp (.tmp .nil)) | exact .cell (.cell (.cell .nil))) ?_
    have : cyOk ⟨id, bg, ev, hs⟩ = false := cyOk_no fun k => by have h1 := k.bg1; have h2 := k.bg2; simp at hc h1 h2; omega
    rw [this]; rfl
  have k2 : 0 ≤ bg ∧ bg ≤ 1048576 := by simp at hc; omega
  clear hc
  (refine St.fieldAddr ?_; refine St.load ?_; refine St.bin ?_; refine St.pickF ?_; refine St.move ?_)
  refine St.split (fun hc => ?_) (fun hc => ?_)
  · (refine St.skip ?_; refine St.skip ?_; refine St.skip ?_; refine St.pickT ?_; refine WO.nil ?_; refine WK.condT ?_; refine WK.seq ?_; refine WK.region ?_; refine St.assign ?_; refine WO.nil ?_)
    refine St.ret (by first | exact .tmp .nil | exact .cell .nil | exact .cell (.tmp .nil) | exact .tmp (.tmp .nil) | exact .cell (.cell .nil) | exact .tmp (.cell .nil) | exact .nil | exact .tmp (.cell (.tmp .nil)) | exact .cell (.tmp (.tmp .nil)) | exact .cell (.cell (.tmp .nil)) | exact .tmp (.tmp (.tmp .nil)) | exact .cell (.cell (.cell .nil))) ?_
    have : cyOk ⟨id, bg, ev, hs⟩ = false := cyOk_no fun k => by have h1 := k.ev1; simp at hc h1; omega
    rw [this]; rfl
  have k3 : 1 ≤ ev := by simp at hc; omega
  clear hc
  (refine St.fieldAddr ?_; refine St.load ?_; refine St.bin ?_; refine St.pickF ?_; refine WO.nil ?_)
  refine St.splitC (fun hc => ?_) (fun hc => ?_)
  · (refine WK.seq ?_; refine WK.region ?_; refine St.assign ?_; refine WO.nil ?_)
    refine St.ret (by first | exact .tmp .nil | exact .cell .nil | exact .cell (.tmp .nil) | exact .tmp (.tmp .nil) | exact .cell (.cell .nil) | exact .tmp (.cell .nil) | exact .nil | exact .tmp (.cell (.tmp .nil)) | exact .cell (.tmp (.tmp .nil)) | exact .cell (.cell (.tmp .nil)) | exact .tmp (.tmp (.tmp .nil)) | exact .cell (.cell (.cell .nil))) ?_
    have : cyOk ⟨id, bg, ev, hs⟩ = false := cyOk_no fun k => by have h1 := k.ev2; simp at hc h1; omega
    rw [this]; rfl
  have k4 : ev ≤ 120 := by simp at hc; omega
  clear hc
  (refine WK.skip ?_; refine WK.seq ?_; refine WK.seq ?_; refine WK.region ?_; refine St.fieldAddr ?_; refine St.load ?_)
  refine St.lenV rfl hv.len ?_
  (refine St.bin ?_; refine St.move ?_)
  refine St.split (fun hc => ?_) (fun hc => ?_)
  · (refine St.skip ?_; refine St.skip ?_; refine St.skip ?_; refine St.skip ?_; refine St.pickT ?_; refine WO.nil ?_; refine WK.condT ?_; refine WK.seq ?_; refine WK.region ?_; refine St.assign ?_; refine WO.nil ?_)
    refine St.ret (by first | exact .tmp .nil | exact .cell .nil | exact .cell (.tmp .nil) | exact .tmp (.tmp .nil) | exact .cell (.cell .nil) | exact .tmp (.cell .nil) | exact .nil | exact .tmp (.cell (.tmp .nil)) | exact .cell (.tmp (.tmp .nil)) | exact .cell (.cell (.tmp .nil)) | exact .tmp (.tmp (.tmp .nil)) | exact .cell (.cell (.cell .nil))) ?_
    have : cyOk ⟨id, bg, ev, hs⟩ = false := cyOk_no fun k => by have h1 := k.n1; simp at hc h1; omega
    rw [this]; rfl
  have k5 : 1 ≤ hs.length := by simp at hc; omega
  clear hc
  (refine St.fieldAddr ?_; refine St.load ?_)
  refine St.lenV rfl hv.len ?_
  (refine St.bin ?_; refine St.pickF ?_; refine WO.nil ?_)
  refine St.splitC (fun hc => ?_) (fun hc => ?_)
  · (refine WK.seq ?_; refine WK.region ?_; refine St.assign ?_; refine WO.nil ?_)
    refine St.ret (by first | exact .tmp .nil | exact .cell .nil | exact .cell (.tmp .nil) | exact .tmp (.tmp .nil) | exact .cell (.cell .nil) | exact .tmp (.cell .nil) | exact .nil | exact .tmp (.cell (.tmp .nil)) | exact .cell (.tmp (.tmp .nil)) | exact .cell (.cell (.tmp .nil)) | exact .tmp (.tmp (.tmp .nil)) | exact .cell (.cell (.cell .nil))) ?_
    have : cyOk ⟨id, bg, ev, hs⟩ = false := cyOk_no fun k => by have h1 := k.n2; simp at hc h1; omega
    rw [this]; rfl
  have k6 : hs.length ≤ 60 := by simp at hc; omega
  clear hc
  obtain ⟨b, off, c, rfl, hk⟩ := hv.ne k5
  (refine WK.skip ?_; refine WK.seq ?_; refine WK.seq ?_; refine WK.region ?_; refine St.fieldAddr ?_; refine St.load ?_; refine St.len ?_; refine St.move ?_; refine WO.nil ?_; refine WK.block ?_)
  refine WK.inv (ι := Nat) (fun z => [(1, .ptr p 0), (2, .bool false), (36, .slice b off hs.length c), (37, .int .i64 hs.length), (38, .int .i64 z)]) (fun _ => [(p, .cells [.int .i64 id, .int .i64 bg, .int .i64 ev, .slice b off hs.length c] 55)]) (fun z => z ≤ hs.length ∧ ∀ i, i < z → -4000 ≤ nth hs i ∧ nth hs i ≤ 4000) (fun z => hs.length - z) 0 ⟨by omega, fun i hi => absurd hi (by omega)⟩ ⟨rfl, rfl, rfl, rfl, rfl, trivial⟩ (by (repeat (first | exact List.Sublist.refl _ | exact List.nil_sublist _ | apply List.Sublist.cons_cons | apply List.Sublist.cons))) ?_
  rintro k ⟨hkl, hall⟩ ih
  (refine WK.seq ?_; refine WK.region ?_; refine St.bin ?_; refine WO.nil ?_; refine WK.seq ?_)
  refine St.splitC (fun hc => ?_) (fun hc => ?_)
  · have hlt : k < hs.length := by simp at hc; omega
    (refine WK.skip ?_; refine WK.seq ?_; refine WK.block ?_; refine WK.seq ?_; refine WK.region ?_)
    refine St.at ?_
    refine St.loadX (fun h hh => ((hk.vw hh).at_ (z := (k : Int)) (n := k) (by omega) hlt).one rfl) ?_
    (refine St.assign ?_; refine WO.nil ?_; refine WK.seq ?_; refine WK.region ?_; refine St.move ?_)
    refine St.call (fun _ => rfl) (fun h2 hh => within_con h2 hh.gd (nth hs k)) ?_
    (refine St.un ?_; refine WO.nil ?_)
    refine St.splitC (fun hc2 => ?_) (fun hc2 => ?_)
    · (refine WK.seq ?_; refine WK.region ?_; refine St.assign ?_; refine WO.nil ?_)
      refine St.ret (by first | exact .tmp .nil | exact .cell .nil | exact .cell (.tmp .nil) | exact .tmp (.tmp .nil) | exact .cell (.cell .nil) | exact .tmp (.cell .nil) | exact .nil | exact .tmp (.cell (.tmp .nil)) | exact .cell (.tmp (.tmp .nil)) | exact .cell (.cell (.tmp .nil)) | exact .tmp (.tmp (.tmp .nil)) | exact .cell (.cell (.cell .nil))) ?_
      have : cyOk ⟨id, bg, ev, hs⟩ = false := cyOk_no fun q => by
        have h1 := q.at_ k
        simp [inB] at hc2 h1
        omega
      rw [this]; rfl
    · have hb : -4000 ≤ nth hs k ∧ nth hs k ≤ 4000 := inB_iff.1 (by simpa using hc2)
      (refine WK.skip ?_; refine WK.blk ?_; refine WK.region ?_; refine St.binI ?_; refine St.move ?_; refine WO.nil ?_)
      refine WK.le ?_ (by (repeat (first | exact List.Sublist.refl _ | exact List.nil_sublist _ | apply List.Sublist.cons_cons | apply List.Sublist.cons))) (ih (k + 1) ⟨hlt, fun i hi => ?_⟩ (by omega))
      · exact ⟨rfl, rfl, rfl, rfl, rfl, trivial⟩
      · rcases Nat.lt_succ_iff_lt_or_eq.1 hi with h1 | rfl
        · exact hall i h1
        · exact hb
  · have : k = hs.length := by simp at hc; omega
    subst this
    (refine WK.exit ?_; refine WK.seq ?_; refine WK.region ?_; refine St.assign ?_; refine WO.nil ?_)
    refine St.ret (by first | exact .tmp .nil | exact .cell .nil | exact .cell (.tmp .nil) | exact .tmp (.tmp .nil) | exact .cell (.cell .nil) | exact .tmp (.cell .nil) | exact .nil | exact .tmp (.cell (.tmp .nil)) | exact .cell (.tmp (.tmp .nil)) | exact .cell (.cell (.tmp .nil)) | exact .tmp (.tmp (.tmp .nil)) | exact .cell (.cell (.cell .nil))) ?_
    have : cyOk ⟨id, bg, ev, hs⟩ = true := cyOk_iff.2 ⟨k1.1, k1.2, k2.1, k2.2, k3, k4, k5, k6, all_mem hall⟩
    rw [this]; rfl
set_option maxRecDepth 100000 in
set_option maxHeartbeats 4000000 in
theorem right_con (h : Heap) (g : Gd h) (id bg ev : Int) (v : AV) (hs : List Int) (hv : ItV h v hs) :
    Con Tryz.prog Bs 101 [.agg [.int .i64 id, .int .i64 bg, .int .i64 ev, v]] h [] (.bool (cyOk ⟨id, bg, ev, hs⟩)) [] := by
  refine Con.start rfl Tryz.func101 rfl rfl Tryz.ntmps101 rfl rfl g ?_
  (refine WK.seq ?_; refine WK.region ?_; refine St.box fun _ _ => ?_; refine St.assign ?_; refine WO.nil ?_; refine WK.seq ?_; refine WK.region ?_; refine St.fieldAddr ?_; refine St.load ?_)
  rename_i p hp
  refine St.call (fun _ => rfl) (fun h2 hh => rwithin_con h2 hh.gd id 1 1099511627776) ?_
  (refine St.assign ?_; refine WO.nil ?_; refine WK.seq ?_; refine WK.region ?_; refine St.fieldAddr ?_; refine St.load ?_)
  refine St.call (fun _ => rfl) (fun h2 hh => rwithin_con h2 hh.gd bg 0 1048576) ?_
  (refine St.assign ?_; refine WO.nil ?_; refine WK.seq ?_; refine WK.region ?_; refine St.fieldAddr ?_; refine St.load ?_)
  refine St.call (fun _ => rfl) (fun h2 hh => rwithin_con h2 hh.gd ev 1 120) ?_
  (refine St.assign ?_; refine WO.nil ?_; refine WK.seq ?_; refine WK.region ?_; refine St.fieldAddr ?_; refine St.load ?_)
  refine St.lenV rfl hv.len ?_
  skip
  refine St.call (fun _ => rfl) (fun h2 hh => rwithin_con h2 hh.gd hs.length 1 60) ?_
  (refine St.assign ?_; refine WO.nil ?_; refine WK.seq ?_; refine WK.seq ?_; refine WK.region ?_; refine St.move ?_; refine St.un ?_; refine St.move ?_)
  refine St.split (fun hc => ?_) (fun hc => ?_)
  · (refine St.skip ?_; refine St.skip ?_; refine St.pickT ?_; refine St.move ?_; refine St.skip ?_; refine St.skip ?_; refine St.pickT ?_; refine St.move ?_; refine St.skip ?_; refine St.skip ?_; refine St.pickT ?_; refine WO.nil ?_; refine WK.condT ?_; refine WK.seq ?_; refine WK.region ?_; refine St.assign ?_; refine WO.nil ?_)
    refine St.ret (by first | exact .tmp .nil | exact .cell .nil | exact .cell (.tmp .nil) | exact .tmp (.tmp .nil) | exact .cell (.cell .nil) | exact .tmp (.cell .nil) | exact .nil | exact .tmp (.cell (.tmp .nil)) | exact .cell (.tmp (.tmp .nil)) | exact .cell (.cell (.tmp .nil)) | exact .tmp (.tmp (.tmp .nil)) | exact .cell (.cell (.cell .nil))) ?_
    have : cyOk ⟨id, bg, ev, hs⟩ = false := cyOk_no fun k => by have h1 := k.id1; have h2 := k.id2; simp at hc h1 h2; omega
    rw [this]; rfl
  have k1 : 1 ≤ id ∧ id ≤ 1099511627776 := by simp at hc; omega
  clear hc
  (refine St.move ?_; refine St.un ?_; refine St.pickF ?_; refine St.move ?_)
  refine St.split (fun hc => ?_) (fun hc => ?_)
  · (refine St.skip ?_; refine St.skip ?_; refine St.pickT ?_; refine St.move ?_; refine St.skip ?_; refine St.skip ?_; refine St.pickT ?_; refine WO.nil ?_; refine WK.condT ?_; refine WK.seq ?_; refine WK.region ?_; refine St.assign ?_; refine WO.nil ?_)
    refine St.ret (by first | exact .tmp .nil | exact .cell .nil | exact .cell (.tmp .nil) | exact .tmp (.tmp .nil) | exact .cell (.cell .nil) | exact .tmp (.cell .nil) | exact .nil | exact .tmp (.cell (.tmp .nil)) | exact .cell (.tmp (.tmp .nil)) | exact .cell (.cell (.tmp .nil)) | exact .tmp (.tmp (.tmp .nil)) | exact .cell (.cell (.cell .nil))) ?_
    have : cyOk ⟨id, bg, ev, hs⟩ = false := cyOk_no fun k => by have h1 := k.bg1; have h2 := k.bg2; simp at hc h1 h2; omega
    rw [this]; rfl
  have k2 : 0 ≤ bg ∧ bg ≤ 1048576 := by simp at hc; omega
  clear hc
  (refine St.move ?_; refine St.un ?_; refine St.pickF ?_; refine St.move ?_)
  refine St.split (fun hc => ?_) (fun hc => ?_)
  · (refine St.skip ?_; refine St.skip ?_; refine St.pickT ?_; refine WO.nil ?_; refine WK.condT ?_; refine WK.seq ?_; refine WK.region ?_; refine St.assign ?_; refine WO.nil ?_)
    refine St.ret (by first | exact .tmp .nil | exact .cell .nil | exact .cell (.tmp .nil) | exact .tmp (.tmp .nil) | exact .cell (.cell .nil) | exact .tmp (.cell .nil) | exact .nil | exact .tmp (.cell (.tmp .nil)) | exact .cell (.tmp (.tmp .nil)) | exact .cell (.cell (.tmp .nil)) | exact .tmp (.tmp (.tmp .nil)) | exact .cell (.cell (.cell .nil))) ?_
    have : cyOk ⟨id, bg, ev, hs⟩ = false := cyOk_no fun k => by have h1 := k.ev1; have h2 := k.ev2; simp at hc h1 h2; omega
    rw [this]; rfl
  have k3 : 1 ≤ ev ∧ ev ≤ 120 := by simp at hc; omega
  clear hc
  (refine St.move ?_; refine St.un ?_; refine St.pickF ?_; refine WO.nil ?_)
  refine St.splitC (fun hc => ?_) (fun hc => ?_)
  · (refine WK.seq ?_; refine WK.region ?_; refine St.assign ?_; refine WO.nil ?_)
    refine St.ret (by first | exact .tmp .nil | exact .cell .nil | exact .cell (.tmp .nil) | exact .tmp (.tmp .nil) | exact .cell (.cell .nil) | exact .tmp (.cell .nil) | exact .nil | exact .tmp (.cell (.tmp .nil)) | exact .cell (.tmp (.tmp .nil)) | exact .cell (.cell (.tmp .nil)) | exact .tmp (.tmp (.tmp .nil)) | exact .cell (.cell (.cell .nil))) ?_
    have : cyOk ⟨id, bg, ev, hs⟩ = false := cyOk_no fun k => by have h1 := k.n1; have h2 := k.n2; simp at hc h1 h2; omega
    rw [this]; rfl
  have k5 : 1 ≤ hs.length ∧ hs.length ≤ 60 := by simp at hc; omega
  clear hc
  obtain ⟨b, off, c, rfl, hk⟩ := hv.ne (by omega)
  (refine WK.skip ?_; refine WK.seq ?_; refine WK.seq ?_; refine WK.region ?_; refine St.assign ?_; refine WO.nil ?_; refine WK.block ?_)
  refine WK.inv (ι := Nat) (fun z => [(1, .ptr p 0), (2, .bool false), (7, .int .i64 z)]) (fun _ => [(p, .cells [.int .i64 id, .int .i64 bg, .int .i64 ev, .slice b off hs.length c] 55)]) (fun z => z ≤ hs.length ∧ ∀ i, i < z → -4000 ≤ nth hs i ∧ nth hs i ≤ 4000) (fun z => hs.length - z) 0 ⟨by omega, fun i hi => absurd hi (by omega)⟩ ⟨rfl, rfl, rfl, trivial⟩ (by (repeat (first | exact List.Sublist.refl _ | exact List.nil_sublist _ | apply List.Sublist.cons_cons | apply List.Sublist.cons))) ?_
  rintro k ⟨hkl, hall⟩ ih
  (refine WK.seq ?_; refine WK.seq ?_; refine WK.region ?_; refine St.move ?_; refine St.fieldAddr ?_; refine St.load ?_; refine St.len ?_; refine St.bin ?_; refine WO.nil ?_)
  refine St.splitC (fun hc => ?_) (fun hc => ?_)
  · have hlt : k < hs.length := by simp at hc; omega
    (refine WK.skip ?_; refine WK.seq ?_; refine WK.block ?_; refine WK.seq ?_; refine WK.region ?_; refine St.fieldAddr ?_; refine St.load ?_; refine St.move ?_)
    refine St.at ?_
    refine St.loadX (fun h hh => ((hk.vw hh).at_ (z := (k : Int)) (n := k) (by omega) hlt).one rfl) ?_
    skip
    refine St.call (fun _ => rfl) (fun h2 hh => rwithin_con h2 hh.gd (nth hs k) (-4000) 4000) ?_
    (refine St.assign ?_; refine WO.nil ?_; refine WK.seq ?_; refine WK.region ?_; refine St.move ?_; refine St.un ?_; refine WO.nil ?_)
    refine St.splitC (fun hc2 => ?_) (fun hc2 => ?_)
    · (refine WK.seq ?_; refine WK.region ?_; refine St.assign ?_; refine WO.nil ?_)
      refine St.ret (by first | exact .tmp .nil | exact .cell .nil | exact .cell (.tmp .nil) | exact .tmp (.tmp .nil) | exact .cell (.cell .nil) | exact .tmp (.cell .nil) | exact .nil | exact .tmp (.cell (.tmp .nil)) | exact .cell (.tmp (.tmp .nil)) | exact .cell (.cell (.tmp .nil)) | exact .tmp (.tmp (.tmp .nil)) | exact .cell (.cell (.cell .nil))) ?_
      have : cyOk ⟨id, bg, ev, hs⟩ = false := cyOk_no fun q => by
        have h1 := q.at_ k
        simp at hc2 h1
        omega
      rw [this]; rfl
    · have hb : -4000 ≤ nth hs k ∧ nth hs k ≤ 4000 := by simp at hc2; omega
      (refine WK.skip ?_; refine WK.blk ?_; refine WK.region ?_; refine St.move ?_; refine St.binI ?_; refine St.assign ?_; refine WO.nil ?_)
      refine WK.le ?_ (by (repeat (first | exact List.Sublist.refl _ | exact List.nil_sublist _ | apply List.Sublist.cons_cons | apply List.Sublist.cons))) (ih (k + 1) ⟨hlt, fun i hi => ?_⟩ (by omega))
      · exact ⟨rfl, rfl, rfl, trivial⟩
      · rcases Nat.lt_succ_iff_lt_or_eq.1 hi with h1 | rfl
        · exact hall i h1
        · exact hb
  · have : k = hs.length := by simp at hc; omega
    subst this
    (refine WK.exit ?_; refine WK.seq ?_; refine WK.region ?_; refine St.assign ?_; refine WO.nil ?_)
    refine St.ret (by first | exact .tmp .nil | exact .cell .nil | exact .cell (.tmp .nil) | exact .tmp (.tmp .nil) | exact .cell (.cell .nil) | exact .tmp (.cell .nil) | exact .nil | exact .tmp (.cell (.tmp .nil)) | exact .cell (.tmp (.tmp .nil)) | exact .cell (.cell (.tmp .nil)) | exact .tmp (.tmp (.tmp .nil)) | exact .cell (.cell (.cell .nil))) ?_
    have : cyOk ⟨id, bg, ev, hs⟩ = true := cyOk_iff.2 ⟨k1.1, k1.2, k2.1, k2.2, k3.1, k3.2, k5.1, k5.2, all_mem hall⟩
    rw [this]; rfl
end Go.Proofs.YtgjkfmcjalcefaaGreat
