/-
  The laws' constants of layer 15, reckoned plainly. No program; conditions: none.
-/
import Derived.Test.YtpniolinndlepaaGreatDoorStripeMath
import Derived.Test.YtpniolinndlepaaGreatDoorLayB
namespace Go.Proofs.YtpniolinndlepaaGreatDoor
set_option linter.unusedVariables false
open Go.ChangeShapes Go.WideShapes Go.ChangeAt Go.RowKit

def sr0 : Rg := ⟨⟨42, 1, 3, 20, 2, 0, 0, 10, 1, 1, 0⟩, 5, 1, 0, 0⟩
def sk1 : K := ⟨5, [1, 2, 3], 0, 99⟩
def sk2 : K := ⟨5, [1, 2, 4], 0, 99⟩
def sP : List Nat := [1, 0, 0, 0, 0, 0, 4, 2, 2, 0, 0, 0, 0, 1, 0, 0, 0, 1, 0, 0, 3, 2, 0, 0, 1, 0, 0, 0, 5]
def sB : List Nat := [212, 2, 16, 132, 36, 66, 2, 16, 134, 1, 8, 96, 16, 229, 1, 12, 2, 16, 214, 1, 206, 90, 22, 195, 40, 253, 64]
def sBt : List Nat := [2, 191, 20, 195, 104, 90, 115, 128, 107, 8, 64, 48, 128, 167, 8, 6, 16, 128, 97, 8, 64, 66, 36, 33, 8, 64, 43]
def sI1 : List Nat := [55, 52, 53, 54, 54, 54, 54, 54, 54, 54, 54, 54, 54, 54, 54, 54, 54, 54, 54, 54, 54, 54, 54, 54, 54, 54, 54, 54, 54, 54, 54, 54, 54, 54, 54, 54, 54, 54, 54, 54, 54, 54, 54, 54, 54, 54, 54, 54, 54, 54, 54, 54, 54, 54, 54, 54, 54, 54, 54, 54, 54, 54, 54, 54, 83, 1, 0, 0, 0, 0, 0, 4, 2, 2, 0, 0, 0, 0, 1, 0, 0, 0, 1, 0, 0, 3, 2, 0, 0, 1, 0, 0, 0, 5]
def sD1 : List Nat := [178, 89, 145, 29, 58, 234, 237, 166, 61, 227, 172, 21, 123, 111, 153, 163, 204, 37, 80, 95, 144, 46, 222, 254, 76, 18, 159, 45, 53, 243, 129, 154]
def sO1 : List Nat := [93, 94, 95, 92, 92, 92, 92, 92, 92, 92, 92, 92, 92, 92, 92, 92, 92, 92, 92, 92, 92, 92, 92, 92, 92, 92, 92, 92, 92, 92, 92, 92, 92, 92, 92, 92, 92, 92, 92, 92, 92, 92, 92, 92, 92, 92, 92, 92, 92, 92, 92, 92, 92, 92, 92, 92, 92, 92, 92, 92, 92, 92, 92, 92, 178, 89, 145, 29, 58, 234, 237, 166, 61, 227, 172, 21, 123, 111, 153, 163, 204, 37, 80, 95, 144, 46, 222, 254, 76, 18, 159, 45, 53, 243, 129, 154]
def sV1 : List Nat := [61, 155, 147, 244, 128, 244, 44, 121, 97, 208, 79, 88, 122, 253, 114, 141, 101, 60, 33, 226, 57, 226, 232, 216, 207, 91, 135, 228, 35, 22, 76, 101]
def sT1 : List Nat := [1, 0, 3, 3, 6, 0, 6, 1, 3, 2]
theorem s_in1 : maskN (blockM [1, 2, 3]) 54 ++ (83 :: sP) = sI1 := by kernel_rfl
theorem s_d1 : digestN sI1 = sD1 := by rw [digestF_eq _ (by decide)]; kernel_rfl
theorem s_o1 : maskN (blockM [1, 2, 3]) 92 ++ sD1 = sO1 := by kernel_rfl
theorem s_v1 : digestN sO1 = sV1 := by rw [digestF_eq _ (by decide)]; kernel_rfl
theorem s_t1 : tagS [1, 2, 3] sP = sT1 := by rw [tagS, tagN, s_in1, s_d1, s_o1, s_v1]; kernel_rfl
def sI2 : List Nat := [55, 52, 50, 54, 54, 54, 54, 54, 54, 54, 54, 54, 54, 54, 54, 54, 54, 54, 54, 54, 54, 54, 54, 54, 54, 54, 54, 54, 54, 54, 54, 54, 54, 54, 54, 54, 54, 54, 54, 54, 54, 54, 54, 54, 54, 54, 54, 54, 54, 54, 54, 54, 54, 54, 54, 54, 54, 54, 54, 54, 54, 54, 54, 54, 83, 1, 0, 0, 0, 0, 0, 4, 2, 2, 0, 0, 0, 0, 1, 0, 0, 0, 1, 0, 0, 3, 2, 0, 0, 1, 0, 0, 0, 5]
def sD2 : List Nat := [31, 91, 93, 59, 68, 129, 102, 75, 192, 202, 116, 254, 214, 225, 197, 27, 51, 106, 169, 116, 111, 43, 238, 63, 232, 114, 119, 43, 17, 198, 186, 85]
def sO2 : List Nat := [93, 94, 88, 92, 92, 92, 92, 92, 92, 92, 92, 92, 92, 92, 92, 92, 92, 92, 92, 92, 92, 92, 92, 92, 92, 92, 92, 92, 92, 92, 92, 92, 92, 92, 92, 92, 92, 92, 92, 92, 92, 92, 92, 92, 92, 92, 92, 92, 92, 92, 92, 92, 92, 92, 92, 92, 92, 92, 92, 92, 92, 92, 92, 92, 31, 91, 93, 59, 68, 129, 102, 75, 192, 202, 116, 254, 214, 225, 197, 27, 51, 106, 169, 116, 111, 43, 238, 63, 232, 114, 119, 43, 17, 198, 186, 85]
def sV2 : List Nat := [236, 222, 253, 203, 230, 34, 12, 220, 161, 125, 224, 208, 192, 187, 226, 240, 103, 186, 141, 255, 238, 23, 211, 51, 98, 209, 194, 29, 29, 231, 216, 107]
def sT2 : List Nat := [3, 9, 7, 4, 0, 3, 6, 9, 3, 9]
theorem s_in2 : maskN (blockM [1, 2, 4]) 54 ++ (83 :: sP) = sI2 := by kernel_rfl
theorem s_d2 : digestN sI2 = sD2 := by rw [digestF_eq _ (by decide)]; kernel_rfl
theorem s_o2 : maskN (blockM [1, 2, 4]) 92 ++ sD2 = sO2 := by kernel_rfl
theorem s_v2 : digestN sO2 = sV2 := by rw [digestF_eq _ (by decide)]; kernel_rfl
theorem s_t2 : tagS [1, 2, 4] sP = sT2 := by rw [tagS, tagN, s_in2, s_d2, s_o2, s_v2]; kernel_rfl
theorem s_put : lputX sr0 = (0, sP) := by kernel_rfl
theorem s_is1 : isR [sk1] = true := by kernel_rfl
theorem s_is2 : isR [sk2] = true := by kernel_rfl
theorem s_is0 : isR [] = true := by kernel_rfl
theorem s_f1 : findE [sk1] 5 = 0 := by kernel_rfl
theorem s_f2 : findE [sk2] 5 = 0 := by kernel_rfl
theorem s_f0 : findE [] 5 = 10 := by kernel_rfl
theorem s_k1 : (findK [sk1] 5).sec = [1, 2, 3] := by kernel_rfl
theorem s_k2 : (findK [sk2] 5).sec = [1, 2, 4] := by kernel_rfl
theorem s_pe : putE (sP ++ sT1) = 0 := by kernel_rfl
theorem s_pl : putL (sP ++ sT1) = sB := by kernel_rfl
theorem s_bt : turnL sB = sBt := by kernel_rfl
theorem s_gt : getE sBt = 4 := by kernel_rfl
theorem s_re : readE [] = 14 := by kernel_rfl
theorem s_enc : encX [sk1] sr0 = (0, sB) := by
  rw [encX, if_neg (by rw [s_is1]; decide), s_put, if_neg (by simp), show sr0.key = 5 from rfl, if_neg (by rw [s_f1]; simp), encD, s_put, show sr0.key = 5 from rfl, s_k1]
  simp only
  rw [s_t1, s_pe, s_pl]
theorem s_enc0 : encX [] sr0 = (10, []) := by
  rw [encX, if_neg (by rw [s_is0]; decide), s_put, if_neg (by simp), show sr0.key = 5 from rfl, if_pos (by rw [s_f0]; simp), s_f0]
theorem s_dec : decX [sk1] sB = (0, sr0) := (enc_back s_enc).1
theorem s_dect : decX [sk1] sBt = (0, sr0) := by
  have h := enc_turned s_enc (by rw [s_bt, s_gt]; decide)
  rwa [s_bt] at h
theorem s_told (l : List K) (hr : isR l = true) : decX l sB = toldX l (sP ++ sT1) := by
  have h1 := get_put s_pe
  rw [s_pl] at h1
  have hE : getE sB = 0 := by rw [getE, h1]
  have hL : getL sB = sP ++ sT1 := by rw [getL, h1]
  obtain ⟨r1, r2, r3⟩ := read_first hE
  rw [decX, if_neg (by rw [hr]; decide), if_neg (by omega), r3, hL]
theorem s_get : lgetX sP = (0, sr0) := lput_get s_put
theorem s_dec2 : decX [sk2] sB = (11, zeroR) := by
  obtain ⟨e1, e2⟩ := said_app sP sT1 rfl
  rw [s_told _ s_is2, toldX, if_neg (by decide), e1, e2, s_get, if_neg (by simp), show (0, sr0).2.key = 5 from rfl, if_neg (by rw [s_f2]; simp), s_k2, s_t2, if_pos (by decide)]
theorem s_dec0 : decX [] sB = (10, zeroR) := by
  obtain ⟨e1, e2⟩ := said_app sP sT1 rfl
  rw [s_told _ s_is0, toldX, if_neg (by decide), e1, s_get, if_neg (by simp), show (0, sr0).2.key = 5 from rfl, if_pos (by rw [s_f0]; simp), s_f0]
theorem s_dec9 : decX [sk1] [] = (14, zeroR) := by
  rw [decX, if_neg (by rw [s_is1]; decide), if_pos (by rw [s_re]; decide), s_re]
theorem sr0_in : InR sr0 := by
  intro x hx
  have : ∀ y ∈ rgL sr0, -9223372036854775808 ≤ y ∧ y ≤ 9223372036854775807 := by decide
  exact this x hx
end Go.Proofs.YtpniolinndlepaaGreatDoor
