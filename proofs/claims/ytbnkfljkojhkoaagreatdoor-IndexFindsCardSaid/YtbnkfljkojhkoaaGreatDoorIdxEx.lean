/- Joined: IdxEx. -/
import Derived.Test.YtbnkfljkojhkoaaGreatDoorJIdxM
import Derived.Test.YtbnkfljkojhkoaaGreatDoorJSegM
/- The document's example: a segment of two batches, and its index. Nothing of the program. -/
namespace Go.Proofs.YtbnkfljkojhkoaaGreatDoor.Idx
open Oct Rec Crc Bat Seg

def exA : Bt := ⟨0, 1, 0, 0, -1, 0, 0, false, 0, [⟨0, { data := #[] }, { data := #[120] }, false, 5⟩, ⟨1, { data := #[] }, { data := #[121] }, false, 7⟩]⟩
def exB : Bt := ⟨2, 2, 2, 0, -1, 0, 0, false, 0, [⟨2, { data := #[] }, { data := #[122] }, false, 6⟩]⟩
theorem exA_form : Bat.form exA = true := by decide +kernel
theorem exB_form : Bat.form exB = true := by decide +kernel
theorem exA_body : (body exA).length ≤ 400 := by
  unfold body exA hd tl
  simp only [vs]
  repeat rw [vb_small (by decide)]
  decide +kernel
theorem exB_body : (body exB).length ≤ 400 := by
  unfold body exB hd tl
  simp only [vs]
  repeat rw [vb_small (by decide)]
  decide +kernel
theorem exA_ch : chB exA = 0 := by
  have h := byB_length exA
  have h2 := exA_body
  unfold chB
  rw [if_pos exA_form, if_neg (by omega)]
theorem exB_ch : chB exB = 0 := by
  have h := byB_length exB
  have h2 := exB_body
  unfold chB
  rw [if_pos exB_form, if_neg (by omega)]
theorem exA_len : (byB exA).length ≤ 420 := by have h := byB_length exA; have h2 := exA_body; omega
theorem exB_len : (byB exB).length ≤ 420 := by have h := byB_length exB; have h2 := exB_body; omega
theorem ex_ris : ris 0 [exA, exB] = true := ris_cons.2 ⟨⟨exA_ch, by decide⟩, ris_cons.2 ⟨⟨exB_ch, by decide⟩, rfl⟩⟩
theorem exA_ris : ris 0 [exA] = true := ris_cons.2 ⟨⟨exA_ch, by decide⟩, rfl⟩
theorem ex_new : newS 0 = (⟨0, []⟩, 0) := by unfold newS; rw [if_neg (by decide)]
theorem ex_end0 : endS ⟨0, []⟩ = 0 := by unfold endS batS; rw [sc_nil]; rfl
theorem ex_whole0 : wholeS ⟨0, []⟩ = true := by simp [wholeS, goodS, sc_nil]
theorem ex_ap1 : apS ⟨0, []⟩ exA 1000 = (⟨0, byB exA⟩, 0) := by
  have h := exA_len
  unfold apS
  rw [ex_whole0, ex_end0, if_neg (by simp), if_neg (by rw [exA_ch]; simp), if_neg (by decide), if_neg (by simp; omega)]
  rfl
theorem exA_byR : byR [exA] = byB exA := by rw [byR_cons, byR_nil, List.append_nil]
theorem ex_byR : byR [exA, exB] = byB exA ++ byB exB := by rw [byR_cons, byR_cons, byR_nil, List.append_nil]
theorem ex_ap2 : apS ⟨0, byB exA⟩ exB 1000 = (⟨0, byB exA ++ byB exB⟩, 0) := by
  have h := exA_len
  have h2 := exB_len
  have hp := batS_put exA_ris
  rw [exA_byR] at hp
  have hw : wholeS ⟨0, byB exA⟩ = true := by simp [wholeS, hp.2.1]
  have he : endS ⟨0, byB exA⟩ = 2 := hp.2.2.trans rfl
  unfold apS
  rw [hw, he, if_neg (by simp), if_neg (by rw [exB_ch]; simp), if_neg (by decide), if_neg (by simp; omega)]
def exS : Sg := ⟨0, byB exA ++ byB exB⟩
def exE : List En := [⟨0, 0, 7⟩, ⟨2, (byB exA).length, 7⟩]
theorem ex_bat : batS exS = [exA, exB] := by
  have hp := batS_put ex_ris
  rw [ex_byR] at hp
  exact hp.1
theorem ex_right : rightX exS = true := by
  have hp := batS_put ex_ris
  rw [ex_byR] at hp
  have h := exA_len
  have h2 := exB_len
  have hw : wholeS exS = true := by simp [wholeS, exS, hp.2.1]
  unfold rightX
  rw [hw]
  simp [exS]
  omega
theorem ex_all : allE exS = exE := by
  unfold allE
  rw [ex_bat]
  have e1 : mx (-1) exA.recs = 7 := by decide
  have e2 : mx 7 exB.recs = 7 := by decide
  show [(⟨0, 0, mx (-1) exA.recs⟩ : En), ⟨2, 0 + ((byB exA).length : Int), mx (mx (-1) exA.recs) exB.recs⟩] = exE
  rw [e1, e2, Int.zero_add]
  rfl
theorem ex_make : makeX exS 1 = (exE, 0) := by rw [make_all ex_right, ex_all]
theorem ex_ck : ckX exS exE = 0 := ckX_make ex_make
theorem ex_ck0 : ckX exS [] = 1 := by
  unfold ckX
  rw [if_neg]
  rintro ⟨_, h⟩
  rw [ex_all] at h
  cases h
theorem ex_since6 : sinceX exS exE 6 = (1, 0) :=
  sinceX_some (L1 := []) (rest := [exB]) (b := exA) (k := 1) (r := ⟨1, { data := #[] }, { data := #[121] }, false, 7⟩) ex_ck ex_bat (by simp) (by intro r hr; simp [exA] at hr; subst hr; decide) rfl (by decide)
theorem ex_since8 : sinceX exS exE 8 = (0, 90) := sinceX_none ex_ck (by
  rw [ex_bat]
  intro b hb r hr
  simp only [List.mem_cons, List.not_mem_nil, or_false] at hb
  rcases hb with rfl | rfl
  · simp only [exA, List.mem_cons, List.not_mem_nil, or_false] at hr
    rcases hr with rfl | rfl <;> decide
  · simp only [exB, List.mem_cons, List.not_mem_nil, or_false] at hr
    subst hr
    decide)
theorem ex_find : findX exS exE 2 = (exB, 0) := findX_some (L1 := [exA]) (rest := []) ex_ck ex_bat (by intro b hb; simp at hb; subst hb; decide) (by decide)
theorem ex_pos : 0 < (byB exA).length := by have := by17 exA; omega
theorem ex_floor1 : floorX 1 0 exE = 0 := by simp [floorX, exE]
theorem ex_floor2 : floorX 2 0 exE = ((byB exA).length : Int) := by simp [floorX, exE]
theorem ex_when8 : whenX 8 0 exE = ((byB exA).length : Int) := by simp [whenX, exE]
theorem ex_when7 : whenX 7 0 exE = 0 := by simp [whenX, exE]
end Go.Proofs.YtbnkfljkojhkoaaGreatDoor.Idx
