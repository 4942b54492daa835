/- Joined: ProVers. -/
import Derived.Test.YthhdhdjdhekgpaaDoorProMath
/- The plain mathematics of layer 6: what another version changes of the bytes. Nothing of the program. -/
namespace Go.Proofs.YthhdhdjdhekgpaaDoor.Pro
open Go.Proofs.YthhdhdjdhekgpaaDoor.Oct Go.Proofs.YthhdhdjdhekgpaaDoor.Rec Go.Proofs.YthhdhdjdhekgpaaDoor.Cod

/-- a number's last byte is the first one below 128 -/
theorem vb_last (u : Nat) : ∃ (i : List UInt8) (c : UInt8), vb u = i ++ [c] ∧ (∀ d ∈ i, 127 < d.toNat) ∧ c.toNat ≤ 127 := by
  induction u using Nat.strongRecOn with
  | ind u ih =>
    by_cases h : u < 128
    · exact ⟨[], UInt8.ofNat u, by rw [vb_small h]; rfl, by simp, by rw [ofNat_toNat' (by omega)]; omega⟩
    · obtain ⟨i, c, h1, h2, h3⟩ := ih (u / 128) (by omega)
      refine ⟨UInt8.ofNat (u % 128 + 128) :: i, c, by rw [vb_big (by omega), h1]; rfl, fun d hd => ?_, h3⟩
      rcases List.mem_cons.1 hd with rfl | hd
      · rw [ofNat_toNat' (by omega)]; omega
      · exact h2 d hd
/-- what stands behind who asks -/
def tailQ (r : Rq) : List UInt8 := (intsC r.kind).put r.ints ++ ((textsC r.kind).put r.texts ++ (blobC r.kind).put r.blob)
def tailP (r : Rp) : List UInt8 := (ccount cvar (ckM 64) (ckM_pos 64)).put r.ints ++ ((ccount txt64 (ckM 16) (ckM_pos 16)).put r.texts ++ (cblob (ckM 4096) (ckM_pos 4096)).put r.blob)
theorem reqC_put (r : Rq) : reqC.put r = UInt8.ofNat r.kind.toNat :: UInt8.ofNat r.ver.toNat :: (vb (zz r.id) ++ ((whoC r.ver).put r.who ++ tailQ r)) := rfl
theorem respC_put (r : Rp) : respC.put r = UInt8.ofNat r.kind.toNat :: UInt8.ofNat r.ver.toNat :: (vb (zz r.id) ++ (vb (zz r.e) ++ ((waitC r.ver).put r.wait ++ tailP r))) := rfl
/-- a request without who asks, in another version -/
def atQ (r : Rq) (v : Int) : Rq := { r with who := ByteArray.empty, ver := v }
def atP (r : Rp) (v : Int) : Rp := { r with ver := v }
theorem okQ_at {r : Rq} {v x : Int} (h : OkQ (atQ r v)) : OkQ (atQ r x) := by
  obtain ⟨h1, h2, h3, h4⟩ := h
  exact ⟨h1, h2, fun _ => rfl, h4⟩
theorem ckQ_at {r : Rq} {x : Int} (h : ckQ (atQ r 0) = 0) (hx : 0 ≤ x ∧ x ≤ 2) : ckQ (atQ r x) = 0 := by
  obtain ⟨h1, h2⟩ := ckQ_iff.1 h
  have h3 := (known_iff.1 h1).1
  exact ckQ_iff.2 ⟨known_iff.2 ⟨h3, hx⟩, okQ_at h2⟩
theorem put_at0 (r : Rq) : reqC.put (atQ r 0) = UInt8.ofNat r.kind.toNat :: 0 :: (vb (zz r.id) ++ tailQ r) := rfl
theorem put_at1 (r : Rq) : reqC.put (atQ r 1) = UInt8.ofNat r.kind.toNat :: 1 :: (vb (zz r.id) ++ tailQ r) := rfl
theorem put_at2 (r : Rq) : reqC.put (atQ r 2) = UInt8.ofNat r.kind.toNat :: 2 :: (vb (zz r.id) ++ (0 :: tailQ r)) := by
  rw [reqC_put]
  have e : (whoC (atQ r 2).ver).put (atQ r 2).who = [0] := by
    show tx ByteArray.empty = [0]
    unfold tx
    rw [vb_small (by decide)]
    rfl
  rw [e]
  rfl
theorem ckP_at {r : Rp} {x : Int} (h : ckP (atP r 1) = 0) (hx : 1 ≤ x ∧ x ≤ 2) : ckP (atP r x) = 0 := by
  obtain ⟨h1, h2, h3, h4, h5⟩ := ckP_iff.1 h
  have h6 := (known_iff.1 h1).1
  exact ckP_iff.2 ⟨known_iff.2 ⟨h6, by show 0 ≤ x ∧ x ≤ 2; omega⟩, h2, h3, fun h => by (have h : x = 0 := h); omega, h5⟩
/-- in version 0 it has no Wait -/
theorem ckP_at0 {r : Rp} (h : ckP (atP r 1) = 0) : ckP (atP r 0) = if r.wait = 0 then 0 else 1 := by
  obtain ⟨h1, h2, h3, h4, h5⟩ := ckP_iff.1 h
  have h6 := (known_iff.1 h1).1
  have hk : known (atP r 0).kind (atP r 0).ver = 0 := known_iff.2 ⟨h6, by show (0 : Int) ≤ 0 ∧ (0 : Int) ≤ 2; omega⟩
  by_cases hw : r.wait = 0
  · rw [if_pos hw]
    exact ckP_iff.2 ⟨hk, h2, h3, fun _ => hw, h5⟩
  · rw [if_neg hw]
    unfold ckP
    rw [if_neg (by simpa using hk), if_neg]
    rintro ⟨_, _, h, _⟩
    exact hw (h rfl)
theorem putP_at (r : Rp) {v : Int} (h : 1 ≤ v) : respC.put (atP r v) = UInt8.ofNat r.kind.toNat :: UInt8.ofNat v.toNat :: (vb (zz r.id) ++ (vb (zz r.e) ++ (vb (zz r.wait) ++ tailP r))) := by
  rw [respC_put]
  have e : (waitC (atP r v).ver).put (atP r v).wait = vb (zz r.wait) := by
    unfold waitC
    rw [if_pos (show 1 ≤ (atP r v).ver from h)]
    rfl
  rw [e]
  rfl
theorem putP_at0 (r : Rp) : respC.put (atP r 0) = UInt8.ofNat r.kind.toNat :: 0 :: (vb (zz r.id) ++ (vb (zz r.e) ++ tailP r)) := rfl
theorem zero_one : (vb (zz 0)).length = 1 := by rw [show zz 0 = 0 from rfl, vb_small (by decide)]; rfl
end Go.Proofs.YthhdhdjdhekgpaaDoor.Pro
