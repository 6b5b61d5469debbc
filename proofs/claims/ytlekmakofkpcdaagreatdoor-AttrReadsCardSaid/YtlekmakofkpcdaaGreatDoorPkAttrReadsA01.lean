import Derived.Test.YtlekmakofkpcdaaGreatDoorPkAttrReadsA00
namespace Go.Proofs.YtlekmakofkpcdaaGreatDoor
set_option linter.unusedVariables false
set_option linter.unusedSimpArgs false
structure AttrS where
 name : ByteArray
 value : ByteArray
structure PartS where
 line : ByteArray
 conn : ByteArray
 attrs : List AttrS
structure SesS where
 origin : ByteArray
 name : ByteArray
 time : ByteArray
 attrs : List AttrS
 parts : List PartS
instance : Inhabited ByteArray := ⟨ByteArray.empty⟩
instance : Inhabited AttrS := ⟨⟨bs [], bs []⟩⟩
instance : Inhabited PartS := ⟨⟨bs [], bs [], []⟩⟩
def inVal (c : UInt8) : Bool := decide (32 ≤ c.toNat) && decide (c.toNat ≤ 126)
def inWd (c : UInt8) : Bool := (decide (97 ≤ c.toNat) && decide (c.toNat ≤ 122)) || (decide (65 ≤ c.toNat) && decide (c.toNat ≤ 90)) || (decide (48 ≤ c.toNat) && decide (c.toNat ≤ 57)) || c == 45 || c == 95
def valP (l : Tx) : Bool := l.all inVal && (decide (1 ≤ l.length) && decide (l.length ≤ 200))
def wordP (lo hi : Nat) (l : Tx) : Bool := l.all inWd && (decide (lo ≤ l.length) && decide (l.length ≤ hi))
def maybeP (l : Tx) : Bool := l.isEmpty || valP l
theorem valP_in {l : Tx} (h : valP l = true) : ∀ c ∈ l, inVal c = true := by
 unfold valP at h
 rw [Bool.and_eq_true, List.all_eq_true] at h
 exact h.1
theorem valP_len {l : Tx} (h : valP l = true) : 1 ≤ l.length ∧ l.length ≤ 200 := by
 unfold valP at h
 simp only [Bool.and_eq_true, decide_eq_true_eq] at h
 exact h.2
theorem wordP_in {lo hi : Nat} {l : Tx} (h : wordP lo hi l = true) : ∀ c ∈ l, inWd c = true := by
 unfold wordP at h
 rw [Bool.and_eq_true, List.all_eq_true] at h
 exact h.1
theorem wordP_len {lo hi : Nat} {l : Tx} (h : wordP lo hi l = true) : lo ≤ l.length ∧ l.length ≤ hi := by
 unfold wordP at h
 simp only [Bool.and_eq_true, decide_eq_true_eq] at h
 exact h.2
theorem inWd_not {c : UInt8} (h : inWd c = true) : c ≠ 13 ∧ c ≠ 58 ∧ c ≠ 32 := by
 unfold inWd at h
 refine ⟨?_, ?_, ?_⟩ <;> (intro e; subst e; simp at h)
def attrP (l : Tx) : Option AttrS :=
 if wordP 1 32 (cutS [58] l).1 && (!(cutS [58] l).2.2 || valP (cutS [58] l).2.1) then some ⟨bs (cutS [58] l).1, bs (cutS [58] l).2.1⟩ else none
structure PSt where
 o : ByteArray
 n : ByteArray
 t : ByteArray
 attrs : List AttrS
 done : List PartS
 cur : Option PartS
def PSt.parts (st : PSt) : List PartS := st.done ++ st.cur.toList
def PSt.here (st : PSt) : List AttrS := match st.cur with
 | none => st.attrs
 | some p => p.attrs
def PSt.push (st : PSt) (a : AttrS) : PSt := match st.cur with
 | none => { st with attrs := st.attrs ++ [a] }
 | some p => { st with cur := some { p with attrs := p.attrs ++ [a] } }
def PSt.part (st : PSt) (v : Tx) : PSt := { st with done := st.done ++ st.cur.toList, cur := some ⟨bs v, bs [], []⟩ }
def PSt.conn (st : PSt) (v : Tx) : PSt := match st.cur with
 | none => st
 | some p => { st with cur := some { p with conn := bs v } }
def PSt.bare (st : PSt) : Bool := match st.cur with
 | none => false
 | some p => (tx p.conn).isEmpty && p.attrs.isEmpty
inductive Out where
 | go (st : PSt)
 | bad (e : Int)
def bodyP (st : PSt) (l : Tx) : Out :=
 if l.take 2 = [109, 61] then
  if valP (l.drop 2) then (if 8 ≤ st.parts.length then .bad 3 else .go (st.part (l.drop 2))) else .bad 2
 else if l.take 2 = [99, 61] then
  if valP (l.drop 2) && st.bare then .go (st.conn (l.drop 2)) else .bad 2
 else if l.take 2 = [97, 61] then
  match attrP (l.drop 2) with
  | none => .bad 2
  | some a => if 64 ≤ st.here.length then .bad 3 else .go (st.push a)
 else .bad 2
def stepP (st : PSt) (k : Nat) (l : Tx) : Out :=
 if k = 1 then (if l.take 2 = [118, 61] ∧ l.drop 2 = [48] then .go st else .bad 2)
 else if k = 2 then (if l.take 2 = [111, 61] ∧ valP (l.drop 2) = true then .go { st with o := bs (l.drop 2) } else .bad 2)
 else if k = 3 then (if l.take 2 = [115, 61] ∧ valP (l.drop 2) = true then .go { st with n := bs (l.drop 2) } else .bad 2)
 else if k = 4 then (if l.take 2 = [116, 61] ∧ valP (l.drop 2) = true then .go { st with t := bs (l.drop 2) } else .bad 2)
 else bodyP st l
def okAt (a : AttrS) : Bool := wordP 1 32 (tx a.name) && maybeP (tx a.value)
def okA (L : List AttrS) : Bool := decide (L.length ≤ 64) && L.all okAt
def okP (p : PartS) : Bool := valP (tx p.line) && maybeP (tx p.conn) && okA p.attrs
structure PSt.Ok (st : PSt) (k : Nat) : Prop where
 o : 2 < k → valP (tx st.o) = true
 n : 3 < k → valP (tx st.n) = true
 t : 4 < k → valP (tx st.t) = true
 attrs : okA st.attrs = true
 parts : st.parts.length ≤ 8
 each : ∀ p ∈ st.parts, okP p = true
 early : k ≤ 4 → st.attrs = [] ∧ st.parts = []
 first : st.cur = none → st.done = []
theorem PSt.Ok.here {st : PSt} {k : Nat} (h : st.Ok k) : okA st.here = true := by
 unfold PSt.here
 cases hc : st.cur with
 | none => exact h.attrs
 | some p =>
   have := h.each p (by simp [PSt.parts, hc])
   unfold okP at this
   rw [Bool.and_eq_true] at this
   exact this.2
inductive Steps : PSt → Nat → List Tx → PSt → Prop
 | nil {st : PSt} {k : Nat} : Steps st k [] st
 | cons {st st' st2 : PSt} {k : Nat} {a : Tx} {ls : List Tx} (hs : stepP st k a = .go st') (h : Steps st' (k + 1) ls st2) : Steps st k (a :: ls) st2
theorem Steps.append {st st' st2 : PSt} {k : Nat} {a b : List Tx} (h : Steps st k a st') (h' : Steps st' (k + a.length) b st2) : Steps st k (a ++ b) st2 := by
 induction h with
 | nil => simpa using h'
 | cons hs h ih =>
   refine .cons hs (ih ?_)
   rw [List.length_cons] at h'
   rwa [Nat.add_assoc, Nat.add_comm 1]
end Go.Proofs.YtlekmakofkpcdaaGreatDoor
namespace Go.Proofs.YtlekmakofkpcdaaGreatDoor
open Go.RowKit
set_option linter.unusedVariables false
set_option linter.unusedSimpArgs false
theorem ret_bool {a b : Bool} (h : a = b) : Ending.returned (.bool a) = .returned (.bool b) := by rw [h]
set_option maxHeartbeats 800000 in
theorem inValue_any (c : UInt8) (w : World) : Calls Tryz.prog 154 #[.int .u8 (c.toNat : Int)] w fun e w' => e = .returned (.bool (inVal c)) ∧ w = w' := by
 have hc := c.toNat_lt
 have HE : Hid (inVal c = (decide (32 ≤ c.toNat) && decide (c.toNat ≤ 126))) := Lib.hid rfl
 generalize c.toNat = n at *
 by_cases h1 : 32 ≤ n
 · have HR : Hid (decide ((n : Int) ≤ 126) = inVal c) := Lib.hid (by rw [HE.out, Bool.eq_iff_iff]; simp [h1]; omega)
   have h1 : (32 : Int) ≤ (n : Int) := by omega
   clear HE
   go_enter Tryz.func154, Tryz.ntmps154
   go_wp2
   go_ret
   exact ⟨ret_bool HR.out, rfl⟩
 · have HR : Hid (inVal c = false) := Lib.hid (by rw [HE.out]; simp [h1])
   have h1 : (n : Int) < 32 := by omega
   clear HE
   go_enter Tryz.func154, Tryz.ntmps154
   go_wp2
   go_ret
   exact ⟨ret_bool HR.out.symm, rfl⟩
set_option maxHeartbeats 1600000 in
theorem inWord_any (c : UInt8) (w : World) : Calls Tryz.prog 149 #[.int .u8 (c.toNat : Int)] w fun e w' => e = .returned (.bool (inWd c)) ∧ w = w' := by
 have hc := c.toNat_lt
 have HE : Hid (inWd c = ((decide (97 ≤ c.toNat) && decide (c.toNat ≤ 122)) || (decide (65 ≤ c.toNat) && decide (c.toNat ≤ 90)) || (decide (48 ≤ c.toNat) && decide (c.toNat ≤ 57)) || decide (c.toNat = 45) || decide (c.toNat = 95))) := Lib.hid (by
  unfold inWd
  have e1 : (c == 45) = decide (c.toNat = 45) := by rw [Bool.eq_iff_iff]; simp [← UInt8.toNat_inj]
  have e2 : (c == 95) = decide (c.toNat = 95) := by rw [Bool.eq_iff_iff]; simp [← UInt8.toNat_inj]
  rw [e1, e2])
 generalize c.toNat = n at *
 have hn : (0 : Int) ≤ (n : Int) := by omega
 by_cases h1 : (97 ≤ n ∧ n ≤ 122) ∨ (65 ≤ n ∧ n ≤ 90) ∨ (48 ≤ n ∧ n ≤ 57)
 · have HR : Hid (inWd c = true) := Lib.hid (by rw [HE.out]; simp; omega)
   clear HE
   rcases h1 with ⟨ha, hb⟩ | ⟨ha, hb⟩ | ⟨ha, hb⟩
   all_goals
    go_enter Tryz.func149, Tryz.ntmps149
    go_wp2
    all_goals first
     | (exfalso; omega)
     | (go_ret; exact ⟨ret_bool HR.out.symm, rfl⟩)
 · by_cases h2 : n = 45
   · have HR : Hid (inWd c = true) := Lib.hid (by rw [HE.out]; simp [h2])
     clear HE h1
     subst h2
     go_enter Tryz.func149, Tryz.ntmps149
     go_wp2
     go_ret
     exact ⟨ret_bool HR.out.symm, rfl⟩
   · have HR : Hid (((n : Int) == 95) = inWd c) := Lib.hid (by rw [HE.out, Bool.eq_iff_iff]; simp; omega)
     clear HE
     have h3 : ((n : Int) == 45) = false := by rw [beq_eq_false_iff_ne]; omega
     go_enter Tryz.func149, Tryz.ntmps149
     go_wp2
     all_goals first
      | (exfalso; omega)
      | (go_ret; exact ⟨ret_bool HR.out, rfl⟩)
set_option maxHeartbeats 800000 in
theorem allValue_any (s : ByteArray) (w : World) (hs : s.size ≤ maxLen) : Calls Tryz.prog 148 #[.string s, .func (.func 154) #[] #[]] w fun e w' => e = .returned (.bool ((tx s).all inVal)) ∧ w = w' := by
 unfold maxLen at hs
 have HC : Hid (∀ c W, Calls Tryz.prog 154 #[.int .u8 ((c : UInt8).toNat : Int)] W fun e w' => e = .returned (.bool (inVal c)) ∧ W = w') := Lib.hid fun c W => inValue_any c W
 have HT : Hid (∀ k, s.size ≤ k → (tx s).take k = tx s) := Lib.hid fun k hk => List.take_of_length_le (by rw [tx_length]; exact hk)
 go_enter Tryz.func148, Tryz.ntmps148
 go_wp2
 go_loop [8] (fun i => ∃ k : Nat, k ≤ s.size ∧ i = .int .i64 k ∧ ((tx s).take k).all inVal = true) (fun i => s.size - (intOf i).toNat)
 case atStart => exact ⟨0, Nat.zero_le _, rfl, rfl⟩
 case round =>
  obtain ⟨k, hk, rfl, hall⟩ := hrel
  have HA := Lib.hid hall
  clear hall
  by_cases hlt : k < s.size
  · have HN : Hid ((tx s).take (k + 1) = (tx s).take k ++ [s[k]]) := Lib.hid (by
     have hk' : k < (tx s).length := by rw [tx_length]; exact hlt
     rw [List.take_succ_eq_append_getElem hk']
     rfl)
    have HM : Hid (s[k] ∈ tx s) := Lib.hid (by
     have hk' : k < (tx s).length := by rw [tx_length]; exact hlt
     exact List.getElem_mem (l := tx s) hk')
    obtain ⟨b, hb⟩ : ∃ b, inVal s[k] = b := ⟨_, rfl⟩
    have HB := Lib.hid hb
    have HCC := Lib.hid (HC.out s[k])
    rw [hb] at HCC
    clear hb
    cases b with
    | true =>
      go_wp2_with (go_at_call 154; (with_reducible refine (HCC.out _).mono ?_); rintro e w' ⟨rfl, rfl⟩)
      go_round
      case rel => exact ⟨k + 1, by omega, by go_num, by rw [HN.out, List.all_append, HA.out]; simp [HB.out]⟩
      case measure => simp [intOf]; omega
    | false =>
      have HR : Hid ((tx s).all inVal = false) := Lib.hid (by
       rw [Bool.eq_false_iff]
       intro h
       rw [List.all_eq_true] at h
       have := h _ HM.out
       rw [HB.out] at this
       cases this)
      go_wp2_with (go_at_call 154; (with_reducible refine (HCC.out _).mono ?_); rintro e w' ⟨rfl, rfl⟩)
      go_ret
      exact ⟨ret_bool HR.out.symm, rfl⟩
  · have HR : Hid ((tx s).all inVal = true) := Lib.hid (by have := HA.out; rwa [HT.out k (by omega)] at this)
    go_wp2
    go_ret
    exact ⟨ret_bool HR.out.symm, rfl⟩
set_option maxHeartbeats 800000 in
theorem allWord_any (s : ByteArray) (w : World) (hs : s.size ≤ maxLen) : Calls Tryz.prog 148 #[.string s, .func (.func 149) #[] #[]] w fun e w' => e = .returned (.bool ((tx s).all inWd)) ∧ w = w' := by
 unfold maxLen at hs
 have HC : Hid (∀ c W, Calls Tryz.prog 149 #[.int .u8 ((c : UInt8).toNat : Int)] W fun e w' => e = .returned (.bool (inWd c)) ∧ W = w') := Lib.hid fun c W => inWord_any c W
 have HT : Hid (∀ k, s.size ≤ k → (tx s).take k = tx s) := Lib.hid fun k hk => List.take_of_length_le (by rw [tx_length]; exact hk)
 go_enter Tryz.func148, Tryz.ntmps148
 go_wp2
 go_loop [8] (fun i => ∃ k : Nat, k ≤ s.size ∧ i = .int .i64 k ∧ ((tx s).take k).all inWd = true) (fun i => s.size - (intOf i).toNat)
 case atStart => exact ⟨0, Nat.zero_le _, rfl, rfl⟩
 case round =>
  obtain ⟨k, hk, rfl, hall⟩ := hrel
  have HA := Lib.hid hall
  clear hall
  by_cases hlt : k < s.size
  · have HN : Hid ((tx s).take (k + 1) = (tx s).take k ++ [s[k]]) := Lib.hid (by
     have hk' : k < (tx s).length := by rw [tx_length]; exact hlt
     rw [List.take_succ_eq_append_getElem hk']
     rfl)
    have HM : Hid (s[k] ∈ tx s) := Lib.hid (by
     have hk' : k < (tx s).length := by rw [tx_length]; exact hlt
     exact List.getElem_mem (l := tx s) hk')
    obtain ⟨b, hb⟩ : ∃ b, inWd s[k] = b := ⟨_, rfl⟩
    have HB := Lib.hid hb
    have HCC := Lib.hid (HC.out s[k])
    rw [hb] at HCC
    clear hb
    cases b with
    | true =>
      go_wp2_with (go_at_call 149; (with_reducible refine (HCC.out _).mono ?_); rintro e w' ⟨rfl, rfl⟩)
      go_round
      case rel => exact ⟨k + 1, by omega, by go_num, by rw [HN.out, List.all_append, HA.out]; simp [HB.out]⟩
      case measure => simp [intOf]; omega
    | false =>
      have HR : Hid ((tx s).all inWd = false) := Lib.hid (by
       rw [Bool.eq_false_iff]
       intro h
       rw [List.all_eq_true] at h
       have := h _ HM.out
       rw [HB.out] at this
       cases this)
      go_wp2_with (go_at_call 149; (with_reducible refine (HCC.out _).mono ?_); rintro e w' ⟨rfl, rfl⟩)
      go_ret
      exact ⟨ret_bool HR.out.symm, rfl⟩
  · have HR : Hid ((tx s).all inWd = true) := Lib.hid (by have := HA.out; rwa [HT.out k (by omega)] at this)
    go_wp2
    go_ret
    exact ⟨ret_bool HR.out.symm, rfl⟩
set_option maxHeartbeats 400000 in
theorem between_any (n : Nat) (m : Int) (w : World) (hn : n ≤ maxLen) : Calls Tryz.prog 147 #[.int .i64 n, .int .i64 m] w fun e w' => e = .returned (.bool (decide (1 ≤ n) && decide ((n : Int) ≤ m))) ∧ w = w' := by
 unfold maxLen at hn
 by_cases h1 : 1 ≤ n
 · have HR : Hid (decide ((n : Int) ≤ m) = (decide (1 ≤ n) && decide ((n : Int) ≤ m))) := Lib.hid (by simp [h1])
   have h1 : (1 : Int) ≤ (n : Int) := by omega
   go_enter Tryz.func147, Tryz.ntmps147
   go_wp2
   go_ret
   exact ⟨ret_bool HR.out, rfl⟩
 · obtain ⟨r, hr⟩ : ∃ r, (decide (1 ≤ n) && decide ((n : Int) ≤ m)) = r := ⟨_, rfl⟩
   have HR : Hid (r = false) := Lib.hid (by rw [← hr]; simp [h1])
   rw [hr]
   clear hr
   have h1 : (n : Int) < 1 := by omega
   go_enter Tryz.func147, Tryz.ntmps147
   go_wp2
   go_ret
   exact ⟨ret_bool HR.out.symm, rfl⟩
set_option maxHeartbeats 800000 in
theorem value_any (s : ByteArray) (w : World) (hs : s.size ≤ maxLen) : Calls Tryz.prog 98 #[.string s] w fun e w' => e = .returned (.bool (valP (tx s))) ∧ w = w' := by
 have HA := Lib.hid (allValue_any s w hs)
 have HB := Lib.hid (between_any s.size 200 w hs)
 have HE : Hid (valP (tx s) = ((tx s).all inVal && (decide (1 ≤ s.size) && decide ((s.size : Int) ≤ 200)))) := Lib.hid (by
  show ((tx s).all _ && (decide (1 ≤ (tx s).length) && decide ((tx s).length ≤ 200))) = _
  rw [tx_length]
  have : decide (s.size ≤ 200) = decide ((s.size : Int) ≤ 200) := by rw [Bool.eq_iff_iff]; simp; omega
  rw [this])
 generalize valP (tx s) = r at *
 generalize (tx s).all inVal = y at *
 generalize hb : (decide (1 ≤ s.size) && decide ((s.size : Int) ≤ 200)) = b at *
 clear hb
 unfold maxLen at hs
 cases b with
 | true =>
   have HR : Hid (y = r) := Lib.hid (by rw [HE.out]; simp)
   go_enter Tryz.func98, Tryz.ntmps98
   go_wp2_with (first
    | (go_at_call 147; (with_reducible refine HB.out.mono ?_); rintro e w' ⟨rfl, rfl⟩)
    | (go_at_call 148; (with_reducible refine HA.out.mono ?_); rintro e w' ⟨rfl, rfl⟩))
   go_ret
   exact ⟨ret_bool HR.out, rfl⟩
 | false =>
   have HR : Hid (false = r) := Lib.hid (by rw [HE.out]; simp)
   go_enter Tryz.func98, Tryz.ntmps98
   go_wp2_with (go_at_call 147; (with_reducible refine HB.out.mono ?_); rintro e w' ⟨rfl, rfl⟩)
   go_ret
   exact ⟨ret_bool HR.out, rfl⟩
set_option maxHeartbeats 800000 in
theorem word_any (s : ByteArray) (w : World) (hs : s.size ≤ maxLen) : Calls Tryz.prog 89 #[.string s] w fun e w' => e = .returned (.bool (wordP 1 32 (tx s))) ∧ w = w' := by
 have HA := Lib.hid (allWord_any s w hs)
 have HB := Lib.hid (between_any s.size 32 w hs)
 have HE : Hid (wordP 1 32 (tx s) = ((tx s).all inWd && (decide (1 ≤ s.size) && decide ((s.size : Int) ≤ 32)))) := Lib.hid (by
  show ((tx s).all _ && (decide (1 ≤ (tx s).length) && decide ((tx s).length ≤ 32))) = _
  rw [tx_length]
  have : decide (s.size ≤ 32) = decide ((s.size : Int) ≤ 32) := by rw [Bool.eq_iff_iff]; simp; omega
  rw [this])
 generalize wordP 1 32 (tx s) = r at *
 generalize (tx s).all inWd = y at *
 generalize hb : (decide (1 ≤ s.size) && decide ((s.size : Int) ≤ 32)) = b at *
 clear hb
 unfold maxLen at hs
 cases b with
 | true =>
   have HR : Hid (y = r) := Lib.hid (by rw [HE.out]; simp)
   go_enter Tryz.func89, Tryz.ntmps89
   go_wp2_with (first
    | (go_at_call 147; (with_reducible refine HB.out.mono ?_); rintro e w' ⟨rfl, rfl⟩)
    | (go_at_call 148; (with_reducible refine HA.out.mono ?_); rintro e w' ⟨rfl, rfl⟩))
   go_ret
   exact ⟨ret_bool HR.out, rfl⟩
 | false =>
   have HR : Hid (false = r) := Lib.hid (by rw [HE.out]; simp)
   go_enter Tryz.func89, Tryz.ntmps89
   go_wp2_with (go_at_call 147; (with_reducible refine HB.out.mono ?_); rintro e w' ⟨rfl, rfl⟩)
   go_ret
   exact ⟨ret_bool HR.out, rfl⟩
theorem inVal_iff (c : UInt8) : inVal c = true ↔ (32 : Int) ≤ (c.toNat : Int) ∧ (c.toNat : Int) ≤ 126 := by
 unfold inVal
 simp
 omega
theorem inWd_iff (c : UInt8) : inWd c = true ↔ ((97 : Int) ≤ (c.toNat : Int) ∧ (c.toNat : Int) ≤ 122) ∨ ((65 : Int) ≤ (c.toNat : Int) ∧ (c.toNat : Int) ≤ 90) ∨ ((48 : Int) ≤ (c.toNat : Int) ∧ (c.toNat : Int) ≤ 57) ∨ (c.toNat : Int) = 45 ∨ (c.toNat : Int) = 95 := by
 unfold inWd
 simp only [Bool.or_eq_true, Bool.and_eq_true, decide_eq_true_eq, beq_iff_eq, ← UInt8.toNat_inj]
 rw [show (45 : UInt8).toNat = 45 from rfl, show (95 : UInt8).toNat = 95 from rfl]
 omega
set_option maxHeartbeats 1600000 in
theorem r6Value_any (s : ByteArray) (m : Int) (w : World) (hs : s.size ≤ maxLen) : Calls Tryz.prog 93 #[.string s, .int .i64 m] w fun e w' => e = .returned (.bool ((tx s).all inVal && (decide (1 ≤ s.size) && decide ((s.size : Int) ≤ m)))) ∧ w = w' := by
 unfold maxLen at hs
 have HT : Hid (∀ k, s.size ≤ k → (tx s).take k = tx s) := Lib.hid fun k hk => List.take_of_length_le (by rw [tx_length]; exact hk)
 obtain ⟨r, hr⟩ : ∃ r, ((tx s).all inVal && (decide (1 ≤ s.size) && decide ((s.size : Int) ≤ m))) = r := ⟨_, rfl⟩
 have HR := Lib.hid hr
 rw [hr]
 clear hr
 go_enter Tryz.func93, Tryz.ntmps93
 go_wp2
 go_loop [5] (fun i => ∃ k : Nat, k ≤ s.size ∧ i = .int .i64 k ∧ ((tx s).take k).all inVal = true) (fun i => s.size - (intOf i).toNat)
 case atStart => exact ⟨0, Nat.zero_le _, rfl, rfl⟩
 case round =>
  obtain ⟨k, hk, rfl, hall⟩ := hrel
  have HA := Lib.hid hall
  clear hall
  by_cases hlt : k < s.size
  · have HN : Hid ((tx s).take (k + 1) = (tx s).take k ++ [s[k]]) := Lib.hid (by
     have hk' : k < (tx s).length := by rw [tx_length]; exact hlt
     rw [List.take_succ_eq_append_getElem hk']
     rfl)
    have HM : Hid (s[k] ∈ tx s) := Lib.hid (by
     have hk' : k < (tx s).length := by rw [tx_length]; exact hlt
     exact List.getElem_mem (l := tx s) hk')
    have HB : Hid (inVal s[k] = inVal s[k]) := Lib.hid rfl
    have HF : Hid (inVal s[k] = false → (tx s).all inVal = false) := Lib.hid (fun hf => by
     rw [Bool.eq_false_iff]
     intro h
     rw [List.all_eq_true] at h
     have := h _ HM.out
     rw [hf] at this
     cases this)
    have hb := (s[k]).toNat_lt
    by_cases h1 : ((s[k]).toNat : Int) < 32
    · have HQ : Hid (r = false) := Lib.hid (by rw [← HR.out, HF.out (by rw [Bool.eq_false_iff]; intro h; have := (inVal_iff _).1 h; omega)]; rfl)
      go_wp2
      go_ret
      exact ⟨ret_bool HQ.out.symm, rfl⟩
    · have h1 : (32 : Int) ≤ ((s[k]).toNat : Int) := by omega
      by_cases h2 : (126 : Int) < ((s[k]).toNat : Int)
      · have HQ : Hid (r = false) := Lib.hid (by rw [← HR.out, HF.out (by rw [Bool.eq_false_iff]; intro h; have := (inVal_iff _).1 h; omega)]; rfl)
        go_wp2
        go_ret
        exact ⟨ret_bool HQ.out.symm, rfl⟩
      · have h2 : ((s[k]).toNat : Int) ≤ 126 := by omega
        have HV : Hid (inVal s[k] = true) := Lib.hid ((inVal_iff _).2 ⟨h1, h2⟩)
        go_wp2
        go_round
        case rel => exact ⟨k + 1, by omega, by go_num, by rw [HN.out, List.all_append, HA.out]; simp [HV.out]⟩
        case measure => simp [intOf]; omega
  · have HQ : Hid ((decide (1 ≤ s.size) && decide ((s.size : Int) ≤ m)) = r) := Lib.hid (by
     have := HA.out
     rw [HT.out k (by omega)] at this
     rw [← HR.out, this]
     rfl)
    by_cases h1 : 1 ≤ s.size
    · have HQ2 : Hid (decide ((s.size : Int) ≤ m) = r) := Lib.hid (by rw [← HQ.out]; simp [h1])
      have h2 : (1 : Int) ≤ (s.size : Int) := by omega
      go_wp2
      go_ret
      exact ⟨ret_bool HQ2.out, rfl⟩
    · have HQ2 : Hid (r = false) := Lib.hid (by rw [← HQ.out]; simp [h1])
      have h2 : (s.size : Int) < 1 := by omega
      go_wp2
      go_ret
      exact ⟨ret_bool HQ2.out.symm, rfl⟩
set_option maxHeartbeats 3200000 in
theorem r1Word_any (s : ByteArray) (lo hi : Int) (w : World) (hs : s.size ≤ maxLen) : Calls Tryz.prog 53 #[.string s, .int .i64 lo, .int .i64 hi] w fun e w' => e = .returned (.bool ((tx s).all inWd && (decide (lo ≤ (s.size : Int)) && decide ((s.size : Int) ≤ hi)))) ∧ w = w' := by
 unfold maxLen at hs
 have HT : Hid (∀ k, s.size ≤ k → (tx s).take k = tx s) := Lib.hid fun k hk => List.take_of_length_le (by rw [tx_length]; exact hk)
 obtain ⟨r, hr⟩ : ∃ r, ((tx s).all inWd && (decide (lo ≤ (s.size : Int)) && decide ((s.size : Int) ≤ hi))) = r := ⟨_, rfl⟩
 have HR := Lib.hid hr
 rw [hr]
 clear hr
 go_enter Tryz.func53, Tryz.ntmps53
 go_wp2
 go_loop [7] (fun i => ∃ k : Nat, k ≤ s.size ∧ i = .int .i64 k ∧ ((tx s).take k).all inWd = true) (fun i => s.size - (intOf i).toNat)
 case atStart => exact ⟨0, Nat.zero_le _, rfl, rfl⟩
 case round =>
  obtain ⟨k, hk, rfl, hall⟩ := hrel
  have HA := Lib.hid hall
  clear hall
  by_cases hlt : k < s.size
  · have HN : Hid ((tx s).take (k + 1) = (tx s).take k ++ [s[k]]) := Lib.hid (by
     have hk' : k < (tx s).length := by rw [tx_length]; exact hlt
     rw [List.take_succ_eq_append_getElem hk']
     rfl)
    have HM : Hid (s[k] ∈ tx s) := Lib.hid (by
     have hk' : k < (tx s).length := by rw [tx_length]; exact hlt
     exact List.getElem_mem (l := tx s) hk')
    have HB : Hid (inWd s[k] = inWd s[k]) := Lib.hid rfl
    have HF : Hid (inWd s[k] = false → (tx s).all inWd = false) := Lib.hid (fun hf => by
     rw [Bool.eq_false_iff]
     intro h
     rw [List.all_eq_true] at h
     have := h _ HM.out
     rw [hf] at this
     cases this)
    have hb := (s[k]).toNat_lt
    obtain ⟨n, hn⟩ : ∃ n : Nat, (s[k]).toNat = n := ⟨_, rfl⟩
    have hI := inWd_iff s[k]
    rw [hn] at hb hI
    have HI := Lib.hid hI
    have HE := Lib.hid hn
    clear hI
    have hcls : (0 ≤ n ∧ n ≤ 44) ∨ (45 ≤ n ∧ n ≤ 45) ∨ (46 ≤ n ∧ n ≤ 47) ∨ (48 ≤ n ∧ n ≤ 57) ∨ (58 ≤ n ∧ n ≤ 64) ∨ (65 ≤ n ∧ n ≤ 90) ∨ (91 ≤ n ∧ n ≤ 94) ∨ (95 ≤ n ∧ n ≤ 95) ∨ (96 ≤ n ∧ n ≤ 96) ∨ (97 ≤ n ∧ n ≤ 122) ∨ (123 ≤ n ∧ n ≤ 255) := by omega
    rcases hcls with ⟨c1, c2⟩ | ⟨c1, c2⟩ | ⟨c1, c2⟩ | ⟨c1, c2⟩ | ⟨c1, c2⟩ | ⟨c1, c2⟩ | ⟨c1, c2⟩ | ⟨c1, c2⟩ | ⟨c1, c2⟩ | ⟨c1, c2⟩ | ⟨c1, c2⟩
    · have x97 : ((s[k]).toNat : Int) < 97 := by omega
      have y122 : ((s[k]).toNat : Int) ≤ 122 := by omega
      have x65 : ((s[k]).toNat : Int) < 65 := by omega
      have y90 : ((s[k]).toNat : Int) ≤ 90 := by omega
      have x48 : ((s[k]).toNat : Int) < 48 := by omega
      have y57 : ((s[k]).toNat : Int) ≤ 57 := by omega
      have z45 : (((s[k]).toNat : Int) == 45) = false := by rw [beq_eq_false_iff_ne]; omega
      have z95 : (((s[k]).toNat : Int) == 95) = false := by rw [beq_eq_false_iff_ne]; omega
      clear hn
      have HQ : Hid (r = false) := Lib.hid (by rw [← HR.out, HF.out (by rw [Bool.eq_false_iff]; intro h; have := HI.out.1 h; omega)]; rfl)
      clear c1 c2 HE
      go_wp2
      go_ret
      exact ⟨ret_bool HQ.out.symm, rfl⟩
    · have x97 : ((s[k]).toNat : Int) < 97 := by omega
      have y122 : ((s[k]).toNat : Int) ≤ 122 := by omega
      have x65 : ((s[k]).toNat : Int) < 65 := by omega
      have y90 : ((s[k]).toNat : Int) ≤ 90 := by omega
      have x48 : ((s[k]).toNat : Int) < 48 := by omega
      have y57 : ((s[k]).toNat : Int) ≤ 57 := by omega
      have z45 : (((s[k]).toNat : Int) == 45) = true := by rw [beq_iff_eq]; omega
      have z95 : (((s[k]).toNat : Int) == 95) = false := by rw [beq_eq_false_iff_ne]; omega
      clear hn
      have HV : Hid (inWd s[k] = true) := Lib.hid (HI.out.2 (by omega))
      clear c1 c2 HE
      go_wp2
      go_round
      case rel => exact ⟨k + 1, by omega, by go_num, by rw [HN.out, List.all_append, HA.out]; simp [HV.out]⟩
      case measure => simp [intOf]; omega
    · have x97 : ((s[k]).toNat : Int) < 97 := by omega
      have y122 : ((s[k]).toNat : Int) ≤ 122 := by omega
      have x65 : ((s[k]).toNat : Int) < 65 := by omega
      have y90 : ((s[k]).toNat : Int) ≤ 90 := by omega
      have x48 : ((s[k]).toNat : Int) < 48 := by omega
      have y57 : ((s[k]).toNat : Int) ≤ 57 := by omega
      have z45 : (((s[k]).toNat : Int) == 45) = false := by rw [beq_eq_false_iff_ne]; omega
      have z95 : (((s[k]).toNat : Int) == 95) = false := by rw [beq_eq_false_iff_ne]; omega
      clear hn
      have HQ : Hid (r = false) := Lib.hid (by rw [← HR.out, HF.out (by rw [Bool.eq_false_iff]; intro h; have := HI.out.1 h; omega)]; rfl)
      clear c1 c2 HE
      go_wp2
      go_ret
      exact ⟨ret_bool HQ.out.symm, rfl⟩
    · have x97 : ((s[k]).toNat : Int) < 97 := by omega
      have y122 : ((s[k]).toNat : Int) ≤ 122 := by omega
      have x65 : ((s[k]).toNat : Int) < 65 := by omega
      have y90 : ((s[k]).toNat : Int) ≤ 90 := by omega
      have x48 : (48 : Int) ≤ ((s[k]).toNat : Int) := by omega
      have y57 : ((s[k]).toNat : Int) ≤ 57 := by omega
      have z45 : (((s[k]).toNat : Int) == 45) = false := by rw [beq_eq_false_iff_ne]; omega
      have z95 : (((s[k]).toNat : Int) == 95) = false := by rw [beq_eq_false_iff_ne]; omega
      clear hn
      have HV : Hid (inWd s[k] = true) := Lib.hid (HI.out.2 (by omega))
      clear c1 c2 HE
      go_wp2
      go_round
      case rel => exact ⟨k + 1, by omega, by go_num, by rw [HN.out, List.all_append, HA.out]; simp [HV.out]⟩
      case measure => simp [intOf]; omega
    · have x97 : ((s[k]).toNat : Int) < 97 := by omega
      have y122 : ((s[k]).toNat : Int) ≤ 122 := by omega
      have x65 : ((s[k]).toNat : Int) < 65 := by omega
      have y90 : ((s[k]).toNat : Int) ≤ 90 := by omega
      have x48 : (48 : Int) ≤ ((s[k]).toNat : Int) := by omega
      have y57 : (57 : Int) < ((s[k]).toNat : Int) := by omega
      have d57 : decide (((s[k]).toNat : Int) ≤ 57) = false := by rw [decide_eq_false_iff_not]; omega
      have z45 : (((s[k]).toNat : Int) == 45) = false := by rw [beq_eq_false_iff_ne]; omega
      have z95 : (((s[k]).toNat : Int) == 95) = false := by rw [beq_eq_false_iff_ne]; omega
      clear hn
      have HQ : Hid (r = false) := Lib.hid (by rw [← HR.out, HF.out (by rw [Bool.eq_false_iff]; intro h; have := HI.out.1 h; omega)]; rfl)
      clear c1 c2 HE
      go_wp2
      go_ret
      exact ⟨ret_bool HQ.out.symm, rfl⟩
    · have x97 : ((s[k]).toNat : Int) < 97 := by omega
      have y122 : ((s[k]).toNat : Int) ≤ 122 := by omega
      have x65 : (65 : Int) ≤ ((s[k]).toNat : Int) := by omega
      have y90 : ((s[k]).toNat : Int) ≤ 90 := by omega
      have x48 : (48 : Int) ≤ ((s[k]).toNat : Int) := by omega
      have y57 : (57 : Int) < ((s[k]).toNat : Int) := by omega
      have d57 : decide (((s[k]).toNat : Int) ≤ 57) = false := by rw [decide_eq_false_iff_not]; omega
      have z45 : (((s[k]).toNat : Int) == 45) = false := by rw [beq_eq_false_iff_ne]; omega
      have z95 : (((s[k]).toNat : Int) == 95) = false := by rw [beq_eq_false_iff_ne]; omega
      clear hn
      have HV : Hid (inWd s[k] = true) := Lib.hid (HI.out.2 (by omega))
      clear c1 c2 HE
      go_wp2
      go_round
      case rel => exact ⟨k + 1, by omega, by go_num, by rw [HN.out, List.all_append, HA.out]; simp [HV.out]⟩
      case measure => simp [intOf]; omega
    · have x97 : ((s[k]).toNat : Int) < 97 := by omega
      have y122 : ((s[k]).toNat : Int) ≤ 122 := by omega
      have x65 : (65 : Int) ≤ ((s[k]).toNat : Int) := by omega
      have y90 : (90 : Int) < ((s[k]).toNat : Int) := by omega
      have d90 : decide (((s[k]).toNat : Int) ≤ 90) = false := by rw [decide_eq_false_iff_not]; omega
      have x48 : (48 : Int) ≤ ((s[k]).toNat : Int) := by omega
      have y57 : (57 : Int) < ((s[k]).toNat : Int) := by omega
      have d57 : decide (((s[k]).toNat : Int) ≤ 57) = false := by rw [decide_eq_false_iff_not]; omega
      have z45 : (((s[k]).toNat : Int) == 45) = false := by rw [beq_eq_false_iff_ne]; omega
      have z95 : (((s[k]).toNat : Int) == 95) = false := by rw [beq_eq_false_iff_ne]; omega
      clear hn
      have HQ : Hid (r = false) := Lib.hid (by rw [← HR.out, HF.out (by rw [Bool.eq_false_iff]; intro h; have := HI.out.1 h; omega)]; rfl)
      clear c1 c2 HE
      go_wp2
      go_ret
      exact ⟨ret_bool HQ.out.symm, rfl⟩
    · have x97 : ((s[k]).toNat : Int) < 97 := by omega
      have y122 : ((s[k]).toNat : Int) ≤ 122 := by omega
      have x65 : (65 : Int) ≤ ((s[k]).toNat : Int) := by omega
      have y90 : (90 : Int) < ((s[k]).toNat : Int) := by omega
      have d90 : decide (((s[k]).toNat : Int) ≤ 90) = false := by rw [decide_eq_false_iff_not]; omega
      have x48 : (48 : Int) ≤ ((s[k]).toNat : Int) := by omega
      have y57 : (57 : Int) < ((s[k]).toNat : Int) := by omega
      have d57 : decide (((s[k]).toNat : Int) ≤ 57) = false := by rw [decide_eq_false_iff_not]; omega
      have z45 : (((s[k]).toNat : Int) == 45) = false := by rw [beq_eq_false_iff_ne]; omega
      have z95 : (((s[k]).toNat : Int) == 95) = true := by rw [beq_iff_eq]; omega
      clear hn
      have HV : Hid (inWd s[k] = true) := Lib.hid (HI.out.2 (by omega))
      clear c1 c2 HE
      go_wp2
      go_round
      case rel => exact ⟨k + 1, by omega, by go_num, by rw [HN.out, List.all_append, HA.out]; simp [HV.out]⟩
      case measure => simp [intOf]; omega
    · have x97 : ((s[k]).toNat : Int) < 97 := by omega
      have y122 : ((s[k]).toNat : Int) ≤ 122 := by omega
      have x65 : (65 : Int) ≤ ((s[k]).toNat : Int) := by omega
      have y90 : (90 : Int) < ((s[k]).toNat : Int) := by omega
      have d90 : decide (((s[k]).toNat : Int) ≤ 90) = false := by rw [decide_eq_false_iff_not]; omega
      have x48 : (48 : Int) ≤ ((s[k]).toNat : Int) := by omega
      have y57 : (57 : Int) < ((s[k]).toNat : Int) := by omega
      have d57 : decide (((s[k]).toNat : Int) ≤ 57) = false := by rw [decide_eq_false_iff_not]; omega
      have z45 : (((s[k]).toNat : Int) == 45) = false := by rw [beq_eq_false_iff_ne]; omega
      have z95 : (((s[k]).toNat : Int) == 95) = false := by rw [beq_eq_false_iff_ne]; omega
      clear hn
      have HQ : Hid (r = false) := Lib.hid (by rw [← HR.out, HF.out (by rw [Bool.eq_false_iff]; intro h; have := HI.out.1 h; omega)]; rfl)
      clear c1 c2 HE
      go_wp2
      go_ret
      exact ⟨ret_bool HQ.out.symm, rfl⟩
    · have x97 : (97 : Int) ≤ ((s[k]).toNat : Int) := by omega
      have y122 : ((s[k]).toNat : Int) ≤ 122 := by omega
      have x65 : (65 : Int) ≤ ((s[k]).toNat : Int) := by omega
      have y90 : (90 : Int) < ((s[k]).toNat : Int) := by omega
      have d90 : decide (((s[k]).toNat : Int) ≤ 90) = false := by rw [decide_eq_false_iff_not]; omega
      have x48 : (48 : Int) ≤ ((s[k]).toNat : Int) := by omega
      have y57 : (57 : Int) < ((s[k]).toNat : Int) := by omega
      have d57 : decide (((s[k]).toNat : Int) ≤ 57) = false := by rw [decide_eq_false_iff_not]; omega
      have z45 : (((s[k]).toNat : Int) == 45) = false := by rw [beq_eq_false_iff_ne]; omega
      have z95 : (((s[k]).toNat : Int) == 95) = false := by rw [beq_eq_false_iff_ne]; omega
      clear hn
      have HV : Hid (inWd s[k] = true) := Lib.hid (HI.out.2 (by omega))
      clear c1 c2 HE
      go_wp2
      go_round
      case rel => exact ⟨k + 1, by omega, by go_num, by rw [HN.out, List.all_append, HA.out]; simp [HV.out]⟩
      case measure => simp [intOf]; omega
    · have x97 : (97 : Int) ≤ ((s[k]).toNat : Int) := by omega
      have y122 : (122 : Int) < ((s[k]).toNat : Int) := by omega
      have d122 : decide (((s[k]).toNat : Int) ≤ 122) = false := by rw [decide_eq_false_iff_not]; omega
      have x65 : (65 : Int) ≤ ((s[k]).toNat : Int) := by omega
      have y90 : (90 : Int) < ((s[k]).toNat : Int) := by omega
      have d90 : decide (((s[k]).toNat : Int) ≤ 90) = false := by rw [decide_eq_false_iff_not]; omega
      have x48 : (48 : Int) ≤ ((s[k]).toNat : Int) := by omega
      have y57 : (57 : Int) < ((s[k]).toNat : Int) := by omega
      have d57 : decide (((s[k]).toNat : Int) ≤ 57) = false := by rw [decide_eq_false_iff_not]; omega
      have z45 : (((s[k]).toNat : Int) == 45) = false := by rw [beq_eq_false_iff_ne]; omega
      have z95 : (((s[k]).toNat : Int) == 95) = false := by rw [beq_eq_false_iff_ne]; omega
      clear hn
      have HQ : Hid (r = false) := Lib.hid (by rw [← HR.out, HF.out (by rw [Bool.eq_false_iff]; intro h; have := HI.out.1 h; omega)]; rfl)
      clear c1 c2 HE
      go_wp2
      go_ret
      exact ⟨ret_bool HQ.out.symm, rfl⟩
  · have HQ : Hid ((decide (lo ≤ (s.size : Int)) && decide ((s.size : Int) ≤ hi)) = r) := Lib.hid (by
     have := HA.out
     rw [HT.out k (by omega)] at this
     rw [← HR.out, this]
     rfl)
    by_cases h1 : lo ≤ (s.size : Int)
    · have HQ2 : Hid (decide ((s.size : Int) ≤ hi) = r) := Lib.hid (by rw [← HQ.out]; simp [h1])
      go_wp2
      go_ret
      exact ⟨ret_bool HQ2.out, rfl⟩
    · have HQ2 : Hid (r = false) := Lib.hid (by rw [← HQ.out]; simp [h1])
      have h2 : (s.size : Int) < lo := by omega
      go_wp2
      go_ret
      exact ⟨ret_bool HQ2.out.symm, rfl⟩
end Go.Proofs.YtlekmakofkpcdaaGreatDoor
