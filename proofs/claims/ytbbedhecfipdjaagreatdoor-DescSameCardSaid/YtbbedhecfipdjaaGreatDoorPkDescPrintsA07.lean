import Derived.Test.YtbbedhecfipdjaaGreatDoorPkDescPrintsA06
import Derived.Test.YtbbedhecfipdjaaGreatDoorPkDescPrintsA04
import Derived.Great.BuildSlice
import Derived.Deep.CutBlock
namespace Go.Proofs.YtbbedhecfipdjaaGreatDoor
open Go.RowKit
set_option linter.unusedVariables false
set_option linter.unusedSimpArgs false
section
variable {base bm n : Nat} {w w' : World} {m : MediaS} {cs : List (CodecS × Value)} {vC vE vR vS vY : Value}
end
def dirK (l : Tx) : Option Int := if l = nInactive then some 0 else if l = nSendonly then some 1 else if l = nRecvonly then some 2 else if l = nSendrecv then some 3 else none
inductive RdrV (l : Tx) (v : Value) (w : World) : Prop
 | mid (h : l = nMid) (hv : v = .func (.func 149) #[] #[])
 | rtpmap (h : l = nCodec) (hv : v = .func (.func 150) #[] #[])
 | fmtp (h : l = nFormat) (hv : v = .func (.func 151) #[] #[])
 | rtcpfb (h : l = nFeedback) (hv : v = .func (.func 152) #[] #[])
 | extmap (h : l = nExt) (hv : v = .func (.func 153) #[] #[])
 | rid (h : l = nRid) (hv : v = .func (.func 154) #[] #[])
 | simulcast (h : l = nSimulcast) (hv : v = .func (.func 155) #[] #[])
 | ssrc (h : l = nSource) (hv : v = .func (.func 156) #[] #[])
 | crypto (h : l = nCrypto) (hv : v = .func (.func 157) #[] #[])
 | sctpport (h : l = nSctp) (hv : v = .func (.func 158) #[] #[])
 | dir (k : Int) (g : Nat) (h : dirK l = some k) (hv : v = .func (.func 159) #[] #[.pointer (some ⟨g, 0, none⟩)]) (hg : Whole w g 3 #[.int .i64 k])
 | other (h : knownN.contains l = false) (hv : v = .nilFunc)
theorem RdrV.under {l : Tx} {v : Value} {w w' : World} (h : RdrV l v w) (hb : Below w.heap.size w w') : RdrV l v w' := by
 cases h with
 | mid h hv => exact .mid h hv
 | rtpmap h hv => exact .rtpmap h hv
 | fmtp h hv => exact .fmtp h hv
 | rtcpfb h hv => exact .rtcpfb h hv
 | extmap h hv => exact .extmap h hv
 | rid h hv => exact .rid h hv
 | simulcast h hv => exact .simulcast h hv
 | ssrc h hv => exact .ssrc h hv
 | crypto h hv => exact .crypto h hv
 | sctpport h hv => exact .sctpport h hv
 | dir k g h hv hg => exact .dir k g h hv (hg.under hb)
 | other h hv => exact .other h hv
theorem dirK_known {l : Tx} {k : Int} (h : dirK l = some k) : knownN.contains l = true := by
 unfold dirK at h
 split at h
 · next e => rw [e]; decide
 · split at h
   · next e => rw [e]; decide
   · split at h
     · next e => rw [e]; decide
     · split at h
       · next e => rw [e]; decide
       · cases h
theorem RdrV.nil {l : Tx} {v : Value} {w : World} (h : RdrV l v w) : (knownN.contains l = false ∧ v = .nilFunc) ∨ (knownN.contains l = true ∧ ∃ f cap, v = .func f #[] cap) := by
 cases h with
 | mid h hv => exact .inr ⟨by rw [h]; decide, _, _, hv⟩
 | rtpmap h hv => exact .inr ⟨by rw [h]; decide, _, _, hv⟩
 | fmtp h hv => exact .inr ⟨by rw [h]; decide, _, _, hv⟩
 | rtcpfb h hv => exact .inr ⟨by rw [h]; decide, _, _, hv⟩
 | extmap h hv => exact .inr ⟨by rw [h]; decide, _, _, hv⟩
 | rid h hv => exact .inr ⟨by rw [h]; decide, _, _, hv⟩
 | simulcast h hv => exact .inr ⟨by rw [h]; decide, _, _, hv⟩
 | ssrc h hv => exact .inr ⟨by rw [h]; decide, _, _, hv⟩
 | crypto h hv => exact .inr ⟨by rw [h]; decide, _, _, hv⟩
 | sctpport h hv => exact .inr ⟨by rw [h]; decide, _, _, hv⟩
 | dir k g h hv hg => exact .inr ⟨dirK_known h, _, _, hv⟩
 | other h hv => exact .inl ⟨h, hv⟩
end Go.Proofs.YtbbedhecfipdjaaGreatDoor
