/- Joined: ProLens. -/
import Derived.Test.YthhdhdjdhekgpaaDoorProP2
import Derived.Test.YthhdhdjdhekgpaaDoorProP3
/- How long a request's and an answer's bytes are. -/
namespace Go.Proofs.YthhdhdjdhekgpaaDoor.Pro
open Go.RowKit Go.Proofs.YthhdhdjdhekgpaaDoor.Oct Go.Proofs.YthhdhdjdhekgpaaDoor.Cod Go.Proofs.YthhdhdjdhekgpaaDoor.Lay

theorem str_len (s : ByteArray) : s.data.toList.length = s.size := by rw [Array.length_toList]; rfl
theorem putQ_len {r : Rq} (h : ckQ r = 0) : (reqC.put r).length ≤ 100000 := by
  obtain ⟨h1, ⟨i0, i1⟩, hw, hw0, hn, hi, ⟨ht0, ht1⟩, hts, hb⟩ := ckQ_iff.1 h
  have hk := (known_iff.1 h1).1
  have a1 := vb_ten (zz_lt (n := r.id) (by omega))
  have a2 : ((whoC r.ver).put r.who).length ≤ 74 := by
    by_cases hv : r.ver = 2
    · rw [hv, who_put2, List.length_append, str_len]
      have := vb_ten (zz_lt (n := (r.who.size : Int)) (by omega))
      omega
    · rw [who_put0 hv]; simp
  have a3 := many_ten r.ints fun x hx => by have := hi x hx; omega
  have a4 : ((textsC r.kind).put r.texts).length ≤ 10 + 74 * r.texts.length := by
    have h5 := many_74 r.texts hts
    by_cases hv : r.kind = 7
    · rw [hv, texts_put7, List.length_append]
      have hm : (r.texts.length : Int) ≤ 100 := by rw [hv] at ht1; exact Int.le_trans ht1 (by decide)
      have := vb_ten (zz_lt (n := (r.texts.length : Int)) (by omega))
      omega
    · rw [texts_put0 hv]; omega
  have a5 : ((blobC r.kind).put r.blob).length ≤ 10 + 2048 := by
    by_cases hv : r.kind = 2
    · have hm : (r.blob.length : Int) ≤ 2048 := by rw [hv] at hb; exact Int.le_trans hb (by decide)
      rw [hv, blob_put2, List.length_append]
      have := vb_ten (zz_lt (n := (r.blob.length : Int)) (by omega))
      omega
    · rw [blob_put0 hv]; simp
  have a6 : r.ints.length ≤ 100 := by
    have : nI r.kind ≤ 100 := by
      obtain ⟨K, hK⟩ : ∃ K : Nat, r.kind = (K : Int) := ⟨r.kind.toNat, by omega⟩
      rw [hK] at hk ⊢
      have : ∀ K : Nat, K < 13 → nI (K : Int) ≤ 100 := by decide
      exact this K (by omega)
    omega
  have a7 : r.texts.length ≤ 100 := by
    have : nT r.kind + mT r.kind ≤ 100 := by
      obtain ⟨K, hK⟩ : ∃ K : Nat, r.kind = (K : Int) := ⟨r.kind.toNat, by omega⟩
      rw [hK] at hk ⊢
      have : ∀ K : Nat, K < 13 → nT (K : Int) + mT (K : Int) ≤ 100 := by decide
      exact this K (by omega)
    omega
  rw [put_eq]
  simp only [List.length_append, List.length_cons, List.length_nil]
  omega
theorem putP_len {r : Rp} (h : ckP r = 0) : (respC.put r).length ≤ 100000 := by
  obtain ⟨h1, ⟨i0, i1⟩, ⟨w0, w1⟩, hw, ⟨e0, e1⟩, hn, hi, hts0, hts, hb⟩ := ckP_iff.1 h
  have a1 := vb_ten (zz_lt (n := r.id) (by omega))
  have a2 := vb_ten (zz_lt (n := r.e) (by omega))
  have a3 := many_ten r.ints fun x hx => by have := hi x hx; omega
  have a4 := many_74 r.texts hts
  have a5 := vb_ten (zz_lt (n := (r.ints.length : Int)) (by omega))
  have a6 := vb_ten (zz_lt (n := (r.texts.length : Int)) (by omega))
  have a7 := vb_ten (zz_lt (n := (r.blob.length : Int)) (by omega))
  have a8 : ((waitC r.ver).put r.wait).length ≤ 10 := by
    have h9 := vb_ten (zz_lt (n := r.wait) (by omega))
    by_cases hv : 1 ≤ r.ver
    · rw [wait_put1 hv]; exact h9
    · rw [wait_put0 (by omega)]; simp
  rw [putr_eq]
  simp only [List.length_append, List.length_cons, List.length_nil]
  omega
theorem ptQ_len {r : Rq} {x : List UInt8} {e : Int} (h : ptQ r = (x, e)) : x.length ≤ 100000 := by
  unfold ptQ at h
  by_cases hc : ckQ r = 0
  · rw [if_pos hc] at h; injection h with h _; rw [← h]; exact putQ_len hc
  · rw [if_neg hc] at h; injection h with h _; rw [← h]; simp
theorem ptP_len {r : Rp} {x : List UInt8} {e : Int} (h : ptP r = (x, e)) : x.length ≤ 100000 := by
  unfold ptP at h
  by_cases hc : ckP r = 0
  · rw [if_pos hc] at h; injection h with h _; rw [← h]; exact putP_len hc
  · rw [if_neg hc] at h; injection h with h _; rw [← h]; simp
end Go.Proofs.YthhdhdjdhekgpaaDoor.Pro
