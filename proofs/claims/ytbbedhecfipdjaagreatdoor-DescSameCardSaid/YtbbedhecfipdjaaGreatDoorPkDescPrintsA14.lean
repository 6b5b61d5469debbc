import Derived.Test.YtbbedhecfipdjaaGreatDoorPkDescPrintsA13
import Derived.Test.YtbbedhecfipdjaaGreatDoorPkDescPrintsA00
import Derived.Test.YtbbedhecfipdjaaGreatDoorPkDescPrintsA04
import Derived.Test.YtbbedhecfipdjaaGreatDoorPkDescPrintsA02
namespace Go.Proofs.YtbbedhecfipdjaaGreatDoor
open Go.RowKit
set_option linter.unusedVariables false
set_option linter.unusedSimpArgs false
theorem dirW_known (d : Int) : knownN.contains (dirW d) = true := by
 unfold dirW
 split
 · decide
 · split
   · decide
   · split <;> decide
theorem known_bs {n : Tx} {v : ByteArray} (h : knownN.contains n = true) : known ⟨bs n, v⟩ = true := by
 unfold known
 rw [tx_bs]
 exact h
theorem attrsC_known (c : CodecS) : ∀ a ∈ attrsC c, known a = true := by
 intro a ha
 unfold attrsC formatA at ha
 rw [List.mem_cons, List.mem_append] at ha
 rcases ha with rfl | ha | ha
 · exact known_bs (by decide)
 · split at ha
   · cases ha
   · rw [List.mem_singleton] at ha
     subst ha
     exact known_bs (by decide)
 · obtain ⟨f, _, rfl⟩ := List.mem_map.1 ha
   exact known_bs (by decide)
theorem attrsM_known (m : MediaS) : (attrsM m).filter known = attrsM m := by
 rw [List.filter_eq_self]
 intro a ha
 unfold attrsM attrsR at ha
 simp only [List.mem_cons, List.mem_append] at ha
 rcases ha with rfl | rfl | ha | ha | (ha | ha) | ha | ha | ha
 · exact known_bs (by decide)
 · exact known_bs (dirW_known _)
 · obtain ⟨c, _, hc⟩ := List.mem_flatMap.1 ha
   exact attrsC_known c a hc
 · obtain ⟨x, _, rfl⟩ := List.mem_map.1 ha
   exact known_bs (by decide)
 · obtain ⟨x, _, rfl⟩ := List.mem_map.1 ha
   exact known_bs (by decide)
 · split at ha
   · cases ha
   · rw [List.mem_singleton] at ha
     subst ha
     exact known_bs (by decide)
 · obtain ⟨x, _, rfl⟩ := List.mem_map.1 ha
   exact known_bs (by decide)
 · obtain ⟨x, _, rfl⟩ := List.mem_map.1 ha
   exact known_bs (by decide)
 · split at ha
   · rw [List.mem_singleton] at ha
     subst ha
     exact known_bs (by decide)
   · cases ha
theorem encK_le : ∀ (n : Nat) (l : Tx), l.length ≤ n → (encK l).length ≤ 2 * n
 | n, [], _ => by simp [encK]
 | n, [_], _ => by simp [encK]
 | n, [_, _], _ => by simp [encK]
 | n, a :: b :: c :: r, h => by
   have h2 : r.length ≤ n - 3 := by simp at h; omega
   have := encK_le (n - 3) r h2
   have h3 : 3 ≤ n := by simp at h; omega
   show ((enc3 a b c) ++ encK r).length ≤ _
   rw [List.length_append]
   show 4 + (encK r).length ≤ _
   omega
theorem decI_le19 {n : Int} (h : n ≤ 9223372036854775807) : (decI n).length ≤ 19 := by
 have := decI_len h
 rwa [bs_size] at this
theorem dec_le19 {n : Nat} (h : n < 4294967296) : (dec n).length ≤ 19 := by
 have := decI_le19 (n := (n : Int)) (by omega)
 unfold decI at this
 simpa using this
theorem wayW_len (b : Bool) : (wayW b).length = 4 := by cases b <;> rfl
theorem semi_le : ∀ (L : List ByteArray), (∀ r ∈ L, r.size ≤ 8) → (semi L).length ≤ 9 * L.length
 | [], _ => by simp [semi]
 | [a], h => by
   have := h a (by simp)
   show (tx a).length ≤ 9
   rw [tx_length]; omega
 | a :: b :: r, h => by
   have h1 := h a (by simp)
   have h2 := semi_le (b :: r) (fun x hx => h x (by simp [hx]))
   show (tx a ++ 59 :: semi (b :: r)).length ≤ _
   rw [List.length_append, List.length_cons, tx_length]
   simp only [List.length_cons] at h2 ⊢
   omega
theorem typesT_le : ∀ (L : List CodecS), (∀ c ∈ L, c.type ≤ 127) → (typesT L).length ≤ 20 * L.length
 | [], _ => by simp [typesT]
 | c :: L, h => by
   have h1 := decI_le19 (n := c.type) (by have := h c (by simp); omega)
   have h2 := typesT_le L (fun x hx => h x (by simp [hx]))
   unfold typesT at h2 ⊢
   rw [List.flatMap_cons, List.length_append]
   simp only [List.length_cons] at *
   omega
theorem small_part {m : MediaS} (h : mayM m = true) (ht : TypedM m) : (partM m).line.size ≤ 100000 ∧ ∀ a ∈ (partM m).attrs, a.value.size ≤ 100000 := by
 have hm : goodM m = true ∧ (attrsM m).length ≤ 64 := by
  unfold mayM at h
  rw [Bool.and_eq_true, decide_eq_true_eq] at h
  exact h
 obtain ⟨hp, hw, hd, hk, hg⟩ := goodM_parts hm.1
 refine ⟨?_, ?_⟩
 · show (bs (lineM m)).size ≤ _
   rw [bs_size]
   unfold lineM
   have h1 := kindW_len m.kind
   rw [bs_size] at h1
   have h2 := decI_le19 (n := m.port) (by omega)
   have h3 := typesT_le m.codecs (fun c hc => (goodC_parts (hg.codecs c hc)).1.2)
   have h4 := hg.counts.1
   simp only [List.length_append, List.length_cons]
   split
   · show _ + (_ + 1 + (27 + 1)) ≤ _ <;> simp <;> omega
   · simp only [List.length_append]
     show _ ≤ _
     have : wStreams.length = 9 := rfl
     omega
 · intro a ha
   have ha : a ∈ attrsM m := ha
   unfold attrsM attrsR at ha
   simp only [List.mem_cons, List.mem_append] at ha
   rcases ha with rfl | rfl | ha | ha | (ha | ha) | ha | ha | ha
   · have := (wordP_len hw).2
     rw [tx_length] at this
     show m.mid.size ≤ _
     omega
   · show (bs []).size ≤ _
     rw [bs_size]; simp
   · obtain ⟨c, hc, ha⟩ := List.mem_flatMap.1 ha
     obtain ⟨⟨t0, t1⟩, hn, ⟨k0, k1⟩, hch, hf, hfl, hfe⟩ := goodC_parts (hg.codecs c hc)
     have d1 := decI_le19 (n := c.type) (by omega)
     have d2 := decI_le19 (n := c.clock) (by omega)
     have d3 := (wordP_len hn).2
     unfold attrsC formatA at ha
     rw [List.mem_cons, List.mem_append] at ha
     rcases ha with rfl | ha | ha
     · show (bs (codecT c)).size ≤ _
       rw [bs_size]
       unfold codecT
       have : (if c.chans = 2 then ([47, 50] : Tx) else []).length ≤ 2 := by split <;> simp
       simp only [List.length_append, List.length_cons]
       omega
     · split at ha
       · cases ha
       · next he =>
         rw [List.mem_singleton] at ha
         subst ha
         show (bs (headT c.type (tx c.format))).size ≤ _
         rw [bs_size]
         unfold headT
         rcases hf with hf | hf
         · exact absurd hf he
         · have := plain_len hf
           simp only [List.length_append, List.length_cons]
           omega
     · obtain ⟨f, hfm, rfl⟩ := List.mem_map.1 ha
       have := plain_len (hfe f hfm)
       show (bs (headT c.type (tx f))).size ≤ _
       rw [bs_size]
       unfold headT
       simp only [List.length_append, List.length_cons]
       omega
   · obtain ⟨x, hx, rfl⟩ := List.mem_map.1 ha
     have hgx := hg.exts x hx
     unfold goodE at hgx
     simp only [Bool.and_eq_true, decide_eq_true_eq] at hgx
     have d1 := decI_le19 (n := x.id) (by omega)
     have hu : (tx x.uri).length ≤ 100 := by
      have := hgx.2
      unfold uriP at this
      simp only [Bool.and_eq_true, decide_eq_true_eq] at this
      exact this.1.2
     show (bs (headT x.id (tx x.uri))).size ≤ _
     rw [bs_size]
     unfold headT
     simp only [List.length_append, List.length_cons]
     omega
   · obtain ⟨x, hx, rfl⟩ := List.mem_map.1 ha
     have h1 := (wordP_len (hg.rids x hx)).2
     have h2 := wayW_len m.sending
     show (bs (tx x ++ 32 :: wayW m.sending)).size ≤ _
     rw [bs_size, List.length_append, List.length_cons]
     omega
   · split at ha
     · cases ha
     · rw [List.mem_singleton] at ha
       subst ha
       have h2 := wayW_len m.sending
       have h3 := semi_le m.rids (fun r hr => by have := (wordP_len (hg.rids r hr)).2; rw [tx_length] at this; exact this)
       have h4 := hg.counts.2.2.1
       show (bs (wayW m.sending ++ 32 :: semi m.rids)).size ≤ _
       rw [bs_size, List.length_append, List.length_cons]
       omega
   · obtain ⟨x, hx, rfl⟩ := List.mem_map.1 ha
     have := dec_le19 (ht.1 x hx)
     show (bs (dec x)).size ≤ _
     rw [bs_size]
     omega
   · obtain ⟨x, hx, rfl⟩ := List.mem_map.1 ha
     have hgx := hg.crypto x hx
     unfold goodY at hgx
     simp only [Bool.and_eq_true, decide_eq_true_eq] at hgx
     have d1 := decI_le19 (n := x.tag) (by omega)
     have d2 := encK_le 30 x.key (by rw [ht.2 x hx]; exact Nat.le_refl _)
     show (bs (cryptoT x)).size ≤ _
     rw [bs_size]
     unfold cryptoT
     simp only [List.length_append]
     have : wInline.length = 32 := rfl
     omega
   · split at ha
     · rw [List.mem_singleton] at ha
       subst ha
       have := decI_le19 (n := m.sctp) (by have := hg.port; omega)
       show (bs (decI m.sctp)).size ≤ _
       rw [bs_size]
       omega
     · cases ha
theorem names_part (m : MediaS) : ∀ a ∈ attrsM m, a.name.size ≤ 100 := fun a ha => by
 rw [← attrsM_known m] at ha
 have h := (List.mem_filter.1 ha).2
 unfold known at h
 rw [← tx_length]
 have h2 : tx a.name ∈ knownN := List.contains_iff_mem.1 h
 have h3 : ∀ x ∈ knownN, x.length ≤ 100 := by decide
 exact h3 _ h2
theorem siz_ses {d : DescS} (hg : goodD d = true) (hm : ∀ m ∈ d.media, mayM m = true) (ht : TypedD d) : SizS (sesD d) := by
 obtain ⟨h1, h2, h3, h4, h5, h6, h7⟩ := goodD_parts hg
 have w1 := (wordP_len h1).2
 have w2 := (wordP_len h2).2
 rw [tx_length] at w1 w2
 have hB := goodD_few hg
 have hbs : ∀ b ∈ d.bundle, b.size ≤ 16 := fun b hb => by
  have := (wordP_len (goodD_bundle hg b hb)).2
  rwa [tx_length] at this
 have hfl := bundle_fl hbs
 have d1 := dec_len 19 d.id (by rw [show (10 : Nat) ^ (19 + 1) = 100000000000000000000 by decide]; have := ht.1; omega)
 have d2 := dec_len 19 d.ver (by rw [show (10 : Nat) ^ (19 + 1) = 100000000000000000000 by decide]; have := ht.2.1; omega)
 refine ⟨⟨?_, by show (bs [45]).size ≤ _; decide, by show (bs [48, 32, 48]).size ≤ _; decide⟩, fun i a ha => ?_, fun i p hp => ?_⟩
 · show (bs (originT d.id d.ver)).size ≤ _
   rw [bs_size]
   unfold originT
   simp only [List.length_cons, List.length_append, List.length_nil]
   omega
 · have ha : a ∈ headA d := List.mem_of_getElem? ha
   unfold headA at ha
   rw [List.mem_append] at ha
   rcases ha with ha | ha
   · split at ha
     · cases ha
     · rw [List.mem_singleton] at ha
       subst ha
       refine ⟨by show (bs nGroup).size ≤ _; decide, ?_⟩
       show (bs (groupT d.bundle)).size ≤ _
       rw [bs_size]
       unfold groupT
       rw [List.length_append]
       have h8 : d.bundle.length * (16 + 1) ≤ 8 * (16 + 1) := Nat.mul_le_mul_right _ hB
       have h9 : wBundle.length = 6 := rfl
       omega
   · simp only [List.mem_cons, List.not_mem_nil, or_false] at ha
     rcases ha with rfl | rfl
     · exact ⟨by show (bs nUfrag).size ≤ _; decide, by show d.name.size ≤ _; omega⟩
     · exact ⟨by show (bs nPwd).size ≤ _; decide, by show d.pass.size ≤ _; omega⟩
 · have hp : p ∈ d.media.map partM := List.mem_of_getElem? hp
   obtain ⟨m, hmm, rfl⟩ := List.mem_map.1 hp
   obtain ⟨s1, s2⟩ := small_part (hm m hmm) (ht.2.2 m hmm)
   have hf := attrsM_few (hm m hmm)
   refine ⟨by omega, by show (bs wConn).size ≤ _; decide, fun j a ha => ?_, ?_⟩
   · have ha : a ∈ attrsM m := List.mem_of_getElem? ha
     have := s2 a ha
     have := names_part m a ha
     omega
   · show (attrsM m).length * 32 ≤ _
     omega
end Go.Proofs.YtbbedhecfipdjaaGreatDoor
