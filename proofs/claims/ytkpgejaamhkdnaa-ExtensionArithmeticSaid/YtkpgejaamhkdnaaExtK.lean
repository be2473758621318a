/- The seven primes and their generators are good: what stands in Ext holds of them. -/
import Derived.Test.YtkpgejaamhkdnaaExt
import Derived.Test.YtkpgejaamhkdnaaLawB
namespace Go.Proofs.Ytkpgejaamhkdnaa.Ext

theorem half_of {p g e : Nat} (hp : 1 < p) (he : e < 2 ^ 64) (hh : (p - 1) / 2 = e) (h : Fm.pm p 64 g e 1 = p - 1) : Al p ((g : Int) ^ ((p - 1) / 2)) (-1) := by
  have h1 := Fm.pow_is hp he h
  rw [hh]
  refine (Al.self (p : Int) _).symm.trans ?_
  have e1 : ((g ^ e % p : Nat) : Int) = (g : Int) ^ e % (p : Int) := by simp
  rw [← e1, h1]
  exact ⟨1, by omega⟩
theorem good_known {p : Int} (hk : known p = true) : ∃ q : Nat, p = (q : Int) ∧ Good q (gen p) := by
  rcases known_cases hk with rfl | rfl | rfl | rfl | rfl | rfl | rfl
  · exact ⟨17, rfl, by decide, Fm.fermat17, by decide, half_of (g := 3) (e := 8) (by decide) (by decide) (by decide) (by decide +kernel)⟩
  · exact ⟨97, rfl, by decide, Fm.fermat97, by decide, half_of (g := 5) (e := 48) (by decide) (by decide) (by decide) (by decide +kernel)⟩
  · exact ⟨193, rfl, by decide, Fm.fermat193, by decide, half_of (g := 5) (e := 96) (by decide) (by decide) (by decide) (by decide +kernel)⟩
  · exact ⟨257, rfl, by decide, Fm.fermat257, by decide, half_of (g := 3) (e := 128) (by decide) (by decide) (by decide) (by decide +kernel)⟩
  · exact ⟨12289, rfl, by decide, Fm.fermat12289, by decide, half_of (g := 11) (e := 6144) (by decide) (by decide) (by decide) (by decide +kernel)⟩
  · exact ⟨65537, rfl, by decide, Fm.fermat65537, by decide, half_of (g := 3) (e := 32768) (by decide) (by decide) (by decide) (by decide +kernel)⟩
  · exact ⟨18446744069414584321, rfl, by decide, Fm.fermatBig, by decide, half_of (g := 7) (e := 9223372034707292160) (by decide) (by decide) (by decide) (by decide +kernel)⟩
end Go.Proofs.Ytkpgejaamhkdnaa.Ext
