import PyProof.Rows.All
import Wide.All
import OpenK.AllK
import Wide.FinOn
import HandS.TupSets
import KE.KDictKeyed
import HandS.ForMost
import HandS.ForExc
import HandS.Deep
import HandS.Wide
import KE.KDictWalk
import KE.SortData
import HandS.ExcInit
import HandS.HeadHook1
import HandS.TupAny
import HandS.Style
import HandS.WideBits
import HandS.Dict
import HandS.IsInst
import HandS.Gcd
import PyProof.Rows.SeqRoads
import KE.KDictCopyH
import KE.KDictSum
import PyProof.WalkInts
import PyProof.WalksMore
import HandS.Comp
import HandS.New
import HandS.StrMore
import HandS.Text
import HandS.ExcField
import HandS.WordsExc
import KE.KExcInit
import PyProof.ExcBaseAll.Exception
import HandS.HeadHook2
import HandS.HeadEnd
import HandS.ExcIs
import HandS.SetBool
import HandS.DictComp
import HandS.TryOnly
import HandS.Iter
import HandS.Zip
import HandS.Zip0
import KE.GoesEnumKw
import PyProof.Rows.CallKwBuiltin
import HandS.Conv
import HandS.More
import HandS.EndBits
import HandS.Defaults
import HandS.Head0
import HandS.Head1
import HandS.Head2
import PySem.Challenge.RW_levelkind_k00_errors
set_option Elab.async false
section
set_option linter.all false
set_option maxRecDepth 100000
set_option maxHeartbeats 1000000
/-! Sets' tables of up to 8192 slots: each slot is met, from each hash; what is put in is found again. -/
namespace Lk
open PySem PySem.Spec PyProof.Rows L2
/-! ### masks -/
def MaskP (m : Nat) : Prop := m = 7 ∨ m = 31 ∨ m = 127 ∨ m = 511 ∨ m = 2047 ∨ m = 8191
theorem MaskP.pow {m : Nat} (h : MaskP m) : ∃ n, m + 1 = 2 ^ n := by
  rcases h with rfl | rfl | rfl | rfl | rfl | rfl
  · exact ⟨3, rfl⟩
  · exact ⟨5, rfl⟩
  · exact ⟨7, rfl⟩
  · exact ⟨9, rfl⟩
  · exact ⟨11, rfl⟩
  · exact ⟨13, rfl⟩
theorem MaskP.le {m : Nat} (h : MaskP m) : m ≤ 8191 := by
  rcases h with rfl | rfl | rfl | rfl | rfl | rfl <;> decide
/-- the walk without a modulus -/
def gg : Nat → Nat
  | 0 => 0
  | k + 1 => 5 * gg k + 1
theorem gg_add : ∀ a b, gg (a + b) = gg a + 5 ^ a * gg b
  | 0, b => by simp [gg]
  | a + 1, b => by
    rw [show a + 1 + b = (a + b) + 1 by omega, gg, gg, gg_add a b, Nat.pow_succ, Nat.mul_add, Nat.mul_comm (5 ^ a) 5, Nat.mul_assoc]
    omega
theorem gg_pow : ∀ a, 4 * gg a + 1 = 5 ^ a
  | 0 => rfl
  | a + 1 => by rw [gg, Nat.pow_succ, ← gg_pow a]; omega
theorem gg_two : ∀ n, ∃ q, gg (2 ^ n) = 2 ^ n * (2 * q + 1)
  | 0 => ⟨0, rfl⟩
  | n + 1 => by
    obtain ⟨q, e⟩ := gg_two n
    refine ⟨2 * q * gg (2 ^ n) + q + gg (2 ^ n), ?_⟩
    have e2 : gg (2 ^ (n + 1)) = gg (2 ^ n) * (4 * gg (2 ^ n) + 2) := by
      rw [show (2 : Nat) ^ (n + 1) = 2 ^ n + 2 ^ n by rw [Nat.pow_succ]; omega, gg_add, ← gg_pow]
      rw [show 4 * gg (2 ^ n) + 2 = (4 * gg (2 ^ n) + 1) + 1 by omega, Nat.mul_add, Nat.mul_one, Nat.mul_comm (4 * gg (2 ^ n) + 1)]
      omega
    rw [e2]
    generalize hG : gg (2 ^ n) = G at e ⊢
    rw [Nat.pow_succ]
    calc G * (4 * G + 2) = (2 ^ n * (2 * q + 1)) * (4 * G + 2) := by rw [← e]
      _ = 2 ^ n * 2 * (2 * (2 * q * G + q + G) + 1) := by
        rw [Nat.mul_assoc, Nat.mul_assoc]
        congr 1
        have h1 : (2 * q + 1) * (4 * G + 2) = 2 * q * (4 * G + 2) + (4 * G + 2) := by rw [Nat.add_mul, Nat.one_mul]
        have h2 : 2 * q * (4 * G + 2) = 4 * (2 * q * G) + 4 * q := by
          rw [Nat.mul_add, ← Nat.mul_assoc, Nat.mul_comm (2 * q) 4, Nat.mul_assoc 4]
          omega
        omega
theorem mod_half {M x j : Nat} (hj : j < 2 * M) (e : x % M = j % M) (ne : x % (2 * M) ≠ j) : (M + x) % (2 * M) = j := by
  have hM : 0 < M := by omega
  obtain ⟨r, a, hr, hx⟩ : ∃ r a, r < 2 * M ∧ x = 2 * M * a + r := ⟨x % (2 * M), x / (2 * M), Nat.mod_lt _ (by omega), by rw [Nat.div_add_mod]⟩
  have hxr : x % (2 * M) = r := by rw [hx, Nat.mul_add_mod, Nat.mod_eq_of_lt hr]
  have hm : x % M = r % M := by rw [hx, Nat.mul_comm 2 M, Nat.mul_assoc, Nat.mul_add_mod]
  rw [hxr] at ne
  rw [hm] at e
  have key : ∀ z, z < 2 * M → z % M = if z < M then z else z - M := fun z hz => by
    split
    · exact Nat.mod_eq_of_lt ‹_›
    · rw [Nat.mod_eq_sub_mod (by omega), Nat.mod_eq_of_lt (by omega)]
  rw [key r hr, key j hj] at e
  have hd : r + M = j ∨ r = j + M := by
    split at e <;> split at e <;> omega
  rcases hd with h | h
  · rw [hx, show M + (2 * M * a + r) = 2 * M * a + j by omega, Nat.mul_add_mod, Nat.mod_eq_of_lt hj]
  · rw [hx, show M + (2 * M * a + r) = 2 * M * (a + 1) + j by rw [Nat.mul_add]; omega, Nat.mul_add_mod, Nat.mod_eq_of_lt hj]
theorem gg_shift (n b : Nat) : ∃ c, gg (2 ^ n + b) = 2 ^ n + gg b + 2 * 2 ^ n * c := by
  obtain ⟨q, e⟩ := gg_two n
  refine ⟨q + 2 * (2 * q + 1) * gg b, ?_⟩
  rw [gg_add, ← gg_pow, e]
  generalize 2 ^ n = M
  generalize gg b = x
  rw [Nat.mul_add, Nat.mul_one, Nat.add_mul, Nat.one_mul, Nat.mul_add (2 * M)]
  have h1 : 4 * (M * (2 * q) + M) * x = 2 * M * (2 * (2 * q + 1) * x) := by
    have e1 : 4 * (M * (2 * q) + M) = 2 * M * (2 * (2 * q + 1)) := by
      have e2 : M * (2 * q) = 2 * (M * q) := by rw [Nat.mul_left_comm]
      have e3 : 2 * M * (2 * (2 * q + 1)) = 4 * (2 * (M * q)) + 4 * M := by
        rw [Nat.mul_add, Nat.mul_add, Nat.mul_one]
        have e4 : 2 * M * (2 * (2 * q)) = 4 * (2 * (M * q)) := by
          rw [Nat.mul_assoc, Nat.mul_left_comm M 2, Nat.mul_left_comm M 2]
          omega
        omega
      omega
    rw [e1, Nat.mul_assoc (2 * M)]
  have h2 : M * (2 * q) = 2 * M * q := by rw [Nat.mul_left_comm, Nat.mul_assoc]
  omega
theorem gg_surj : ∀ n j, j < 2 ^ n → ∃ b, b < 2 ^ n ∧ gg b % 2 ^ n = j
  | 0, j, h => ⟨0, by simp, by simp [gg]; omega⟩
  | n + 1, j, h => by
    have hp : 0 < 2 ^ n := Nat.two_pow_pos n
    obtain ⟨b, hb, e⟩ := gg_surj n (j % 2 ^ n) (Nat.mod_lt _ hp)
    have e2 : (2 : Nat) ^ (n + 1) = 2 * 2 ^ n := by rw [Nat.pow_succ, Nat.mul_comm]
    rw [e2] at h ⊢
    by_cases c : gg b % (2 * 2 ^ n) = j
    · exact ⟨b, by omega, c⟩
    · refine ⟨2 ^ n + b, by omega, ?_⟩
      obtain ⟨u, hu⟩ := gg_shift n b
      rw [hu, Nat.add_mul_mod_self_left]
      exact mod_half h e c
theorem lcg_gg {m : Nat} : ∀ k, lcgN m k = gg k % (m + 1)
  | 0 => by simp [lcgN, gg]
  | k + 1 => by
    rw [lcgN, lcg_gg k, gg, Nat.mul_comm 5]
    rw [Nat.add_mod, Nat.mul_mod, Nat.mod_mod, ← Nat.mul_mod, ← Nat.add_mod]
theorem lcg_rnd {m : Nat} (hm : MaskP m) (k : Nat) : lcgN m (m + 1 + k) = lcgN m k := by
  obtain ⟨n, e⟩ := hm.pow
  rw [lcg_gg, lcg_gg, e]
  obtain ⟨u, hu⟩ := gg_shift n k
  rw [hu, Nat.mul_comm 2, Nat.mul_assoc, Nat.add_mul_mod_self_left, Nat.add_mod_left]
/-- from anywhere each slot is met within a round -/
theorem lcg_meets {m i j : Nat} (hm : MaskP m) (hi : i ≤ m) (hj : j ≤ m) : ∃ k, k ≤ m ∧ lcgI m i k = j := by
  obtain ⟨n, e⟩ := hm.pow
  obtain ⟨a, ha, ea⟩ := gg_surj n i (by omega)
  obtain ⟨b, hb, eb⟩ := gg_surj n j (by omega)
  rw [← e, ← lcg_gg] at ea eb
  subst ea
  by_cases c : a ≤ b
  · exact ⟨b - a, by omega, by rw [lcgN_add, Nat.add_sub_cancel' c]; exact eb⟩
  · exact ⟨b + (m + 1) - a, by omega, by rw [lcgN_add, show a + (b + (m + 1) - a) = m + 1 + b by omega, lcg_rnd hm]; exact eb⟩
theorem run_met {m j : Nat} (hm : MaskP m) (h : Int) (hj : j ≤ m) : ∃ n, n ≤ m + 12 ∧ runI m (SetTable.bits h) n = j :=
  let ⟨k, hk, e⟩ := lcg_meets hm (runI_le m (SetTable.bits h) 12) hj
  ⟨12 + k, by omega, (runI_tail (bits_lt h) k).trans e⟩
theorem way_met {m j : Nat} (hm : MaskP m) (h : Int) (hj : j ≤ m) : ∃ k, k < 10 * SetTable.turns m ∧ way m h k = j := by
  obtain ⟨n, hn, e⟩ := run_met hm h hj
  obtain ⟨k, hk, e2⟩ := run_nth m (SetTable.bits h) n
  exact ⟨k, by unfold SetTable.turns; omega, (congrArg SetTable.Probe.j e2).trans e⟩
theorem way_in {m k : Nat} {h : Int} : way m h k ≤ m := by
  have r := runEnd_bd (m := m) (Nat.le_of_lt_succ (Nat.mod_lt (SetTable.bits h) (Nat.succ_pos m)))
  have q := nth_in (m := m) k (runAt m (SetTable.bits h % (m + 1)) (SetTable.bits h)) (by
    show SetTable.bits h % (m + 1) + (SetTable.runEnd m (SetTable.bits h % (m + 1)) - SetTable.bits h % (m + 1)) ≤ m
    rw [← Nat.succ_eq_add_one]; omega)
  exact Nat.le_trans (Nat.le_add_right _ _) q
/-! ### tables -/
/-- every hash is found again at its slot -/
structure TabG (t : SetTable) (hs : List Int) : Prop where
  ris : Ris t.place.toList
  dm : t.dummies = #[]
  sz : t.place.size = hs.length
  mok : MaskP t.mask
  bd : ∀ x ∈ t.place.toList, x ≤ t.mask
  reach : ∀ (i : Nat) (h : Int) (j : Nat), hs[i]? = some h → t.place.toList[i]? = some j → ∃ k, way t.mask h k = j ∧ ∀ c, c < k → way t.mask h c ∈ t.place.toList
section
variable {t : SetTable} {hs : List Int} {h : Int} {K : Nat}
theorem TabG.stop (T : TabG t hs) (hl : hs.length ≤ t.mask) (h : Int) : ∃ K, K < 10 * SetTable.turns t.mask ∧ way t.mask h K ∉ t.place.toList ∧ ∀ c, c < K → way t.mask h c ∈ t.place.toList := by
  have hlen := T.sz
  obtain ⟨j, hj, hn⟩ := st_missing t.place.toList (t.mask + 1) (by rw [Array.length_toList]; omega)
  obtain ⟨k, hk, e⟩ := way_met T.mok h (Nat.le_of_lt_succ hj)
  obtain ⟨K, a, b, c⟩ := st_least (p := fun n => way t.mask h n ∉ t.place.toList) k (e ▸ hn)
  exact ⟨K, by omega, b, fun n hnK => Classical.byContradiction fun z => c n hnK z⟩
theorem TabG.ahead (T : TabG t hs) {i j : Nat} (hK : way t.mask h K ∉ t.place.toList) (hi : hs[i]? = some h) (hj : t.place.toList[i]? = some j) : ∃ k, k < K ∧ way t.mask h k = j := by
  obtain ⟨k, e, hb⟩ := T.reach i h j hi hj
  refine ⟨k, Classical.byContradiction fun hkK => hK ?_, e⟩
  rcases Nat.lt_or_eq_of_le (Nat.not_lt.mp hkK) with c | c
  · exact hb K c
  · rw [c, e]; exact List.mem_of_getElem? hj
theorem TabG.put (T : TabG t hs) (hK : way t.mask h K ∉ t.place.toList) (hb : ∀ c, c < K → way t.mask h c ∈ t.place.toList) : ∃ p t1, t.put (way t.mask h K) = (t1, p) ∧ p ≤ hs.length ∧ TabG t1 (hs.take p ++ h :: hs.drop p) ∧
    t1.mask = t.mask ∧ t1.led = t.led ∧ t1.plain = t.plain ∧ t1.fill = hs.length + 1 := by
  have hin : way t.mask h K ≤ t.mask := way_in
  revert hin hK hb
  generalize hw : way t.mask h K = j
  intro hK hb hin
  obtain ⟨c1, _, _⟩ := below_cut T.ris j
  have hp1 : SetTable.below t.place j ≤ t.place.toList.length := by rw [Array.length_toList]; exact c1
  have hp2 : SetTable.below t.place j ≤ hs.length := T.sz ▸ c1
  have hl : t.place.toList.length = hs.length := by rw [Array.length_toList]; exact T.sz
  have hnew : t.place[SetTable.below t.place j]? ≠ some j := fun e => hK (List.mem_of_getElem? (Array.getElem?_toList.trans e))
  have e := put_place t j
  have hsz : (t.put j).1.place.size = hs.length + 1 := by rw [← Array.length_toList, e, len_ins _ hp1, hl]
  have grow : ∀ {x}, x ∈ t.place.toList → x ∈ (t.put j).1.place.toList := fun hx => e ▸ mem_ins.2 (.inr hx)
  refine ⟨SetTable.below t.place j, (t.put j).1, rfl, hp2, ⟨ris_insert T.ris hnew, put_dm T.dm j, by rw [len_ins _ hp2]; exact hsz, T.mok, fun x hx => ?_, fun i h' j' h1 h2 => ?_⟩, rfl, rfl, rfl, ?_⟩
  · rw [e] at hx
    exact (mem_ins.1 hx).elim (fun z => z ▸ hin) (T.bd x)
  · rw [tins_get hs hp2] at h1
    rw [e, tins_get _ hp1] at h2
    have old : ∀ i0, hs[i0]? = some h' → t.place.toList[i0]? = some j' → ∃ k, way t.mask h' k = j' ∧ ∀ c, c < k → way t.mask h' c ∈ (t.put j).1.place.toList := fun i0 a b =>
      let ⟨k, q, z⟩ := T.reach i0 h' j' a b
      ⟨k, q, fun c hc => grow (z c hc)⟩
    show ∃ k, way t.mask h' k = j' ∧ ∀ c, c < k → way t.mask h' c ∈ (t.put j).1.place.toList
    split at h1
    · rw [if_pos ‹_›] at h2; exact old i h1 h2
    · rw [if_neg ‹_›] at h2
      split at h1
      · rw [if_pos ‹_›] at h2
        cases h1; cases h2
        exact ⟨K, hw, fun c hc => grow (hb c hc)⟩
      · rw [if_neg ‹_›] at h2; exact old (i - 1) h1 h2
  · show (t.put j).1.place.size + (t.put j).1.dummies.size = hs.length + 1
    rw [hsz, put_dm T.dm j]; rfl
end
/-! ### a table laid anew -/
theorem seat {m j : Nat} (hm : MaskP m) (owner : Array (Option Nat)) (h : Int) (hj : j ≤ m) (hf : oAt owner j = none) :
    ∃ K, SetTable.layClean.free m owner (SetTable.turns m) (SetTable.bits h % (m + 1)) (SetTable.bits h) = some (way m h K) ∧ oAt owner (way m h K) = none ∧ ∀ c, c < K → oAt owner (way m h c) ≠ none := by
  obtain ⟨n, hn, e⟩ := run_met hm h hj
  have hw : way m h (off m (SetTable.bits h % (m + 1)) (SetTable.bits h) n) = j := by
    unfold way; rw [nth_off, itL_run]; exact e
  obtain ⟨K, k1, k2, k3⟩ := st_least (p := fun c => oAt owner (way m h c) = none) _ (hw ▸ hf)
  refine ⟨K, free_spec m owner (SetTable.turns m) n _ _ K (by unfold SetTable.turns; omega) k1 (fun c hc => ?_) (by rw [show oAt owner _ = none from k2]; rfl), k2, k3⟩
  have z : oAt owner (way m h c) ≠ none := k3 c hc
  show (oAt owner (way m h c)).isNone = false
  cases q : oAt owner (way m h c) with
  | none => exact absurd q z
  | some _ => rfl
theorem own_more {m : Nat} (hm : MaskP m) {done : List Int} {owner : Array (Option Nat)} (W : Own m done owner) (hl : done.length ≤ m) (h : Int) :
    ∃ j, SetTable.layClean.free m owner (SetTable.turns m) (SetTable.bits h % (m + 1)) (SetTable.bits h) = some j ∧ Own m (done ++ [h]) (owner.setIfInBounds j (some done.length)) := by
  obtain ⟨ps, hps, hin⟩ := W.ps
  obtain ⟨j0, h0, hn0⟩ := st_missing ps (m + 1) (by omega)
  obtain ⟨K, e1, e2, e3⟩ := seat hm owner h (Nat.le_of_lt_succ h0) (Classical.byContradiction fun z => hn0 (hin j0 (Nat.le_of_lt_succ h0) z))
  refine ⟨_, e1, ?_⟩
  have hjm : way m h K ≤ m := way_in
  revert e2 hjm
  generalize hw : way m h K = j
  intro e2 hjm
  have self := oAt_set_self (owner := owner) (some done.length) (j := j) (by rw [W.sz]; omega)
  have keep : ∀ {i}, oAt owner i ≠ none → oAt (owner.setIfInBounds j (some done.length)) i ≠ none := fun {i} hi => by
    by_cases c : i = j
    · subst c; exact absurd e2 hi
    · rw [oAt_set_ne _ c]; exact hi
  refine ⟨by rw [Array.size_setIfInBounds, W.sz], fun i k hi e => ?_, fun k hk => ?_, j :: ps, by simp [hps], fun i hi e => ?_⟩
  · by_cases c : i = j
    · subst c
      rw [self] at e
      cases e
      exact ⟨h, K, by simp, hw, fun c hc => keep (e3 c hc)⟩
    · rw [oAt_set_ne _ c] at e
      obtain ⟨h', K', a1, a2, a3⟩ := W.at_ i k hi e
      exact ⟨h', K', by rw [List.getElem?_append_left (List.getElem?_eq_some_iff.mp a1).1]; exact a1, a2, fun c hc => keep (a3 c hc)⟩
  · by_cases c : k < done.length
    · obtain ⟨i, hi, e⟩ := W.all k c
      exact ⟨i, hi, by rw [oAt_set_ne _ fun z => by rw [z, e2] at e; cases e]; exact e⟩
    · have : k = done.length := by rw [List.length_append] at hk; simp at hk; omega
      subst this
      exact ⟨j, hjm, self⟩
  · by_cases c : i = j
    · exact c ▸ List.mem_cons_self
    · rw [oAt_set_ne _ c] at e; exact List.mem_cons_of_mem _ (hin i hi e)
theorem lay_fold {m : Nat} (hm : MaskP m) : ∀ (more done : List Int) (owner : Array (Option Nat)), Own m done owner → done.length + more.length ≤ m →
    ∃ ow, more.foldl (stepF m) (some (owner, done.length)) = some (ow, (done ++ more).length) ∧ Own m (done ++ more) ow
  | [], done, owner, W, _ => ⟨owner, by simp, by simpa using W⟩
  | h :: more, done, owner, W, hl => by
    simp only [List.length_cons] at hl
    obtain ⟨j, e, W'⟩ := own_more hm W (by omega) h
    obtain ⟨ow, f, W2⟩ := lay_fold hm more (done ++ [h]) _ W' (by simp; omega)
    refine ⟨ow, ?_, by simpa using W2⟩
    rw [List.foldl_cons, stepF_some e]
    simpa using f
theorem lay_ok {m : Nat} (hm : MaskP m) {hs : Array Int} (hn : hs.size ≤ m) : ∃ ow, SetTable.layClean m hs = some ow ∧ Own m hs.toList ow := by
  obtain ⟨ow, f, W⟩ := lay_fold hm hs.toList [] _ (Own.init m) (by simpa using hn)
  refine ⟨ow, ?_, by simpa using W⟩
  have f' : hs.toList.foldl (stepF m) (some (Array.replicate (m + 1) none, 0)) = some (ow, hs.toList.length) := by simpa using f
  rw [layClean_eq, f']; rfl
theorem anew_ok (t : SetTable) {hs : Array Int} {wanted M : Nat} (hw : SetTable.sizeAbove wanted - 1 = M) (hM : MaskP M) (hn : hs.size ≤ M) :
    ∃ t' order, t.relaid hs wanted = some (t', order) ∧ order.toList.Perm (List.range hs.size) ∧ TabG t' (order.toList.map fun i => hs.getD i 0) ∧ t'.mask = M ∧ t'.led = t.led ∧ t'.plain = t.plain := by
  obtain ⟨ow, e, W⟩ := lay_ok hM hn
  have hz : hs.toList.length = hs.size := Array.length_toList
  obtain ⟨r1, r2⟩ := ris_live (fun j => ow.getD j none) (List.range (M + 1)) (by unfold Ris; exact List.pairwise_lt_range)
  have r1 : Ris ((liveOf M ow).map (·.1)) := r1
  have r2 : ∀ x ∈ (liveOf M ow).map (·.1), x ∈ List.range (M + 1) := r2
  have mem : ∀ {j k}, (j, k) ∈ liveOf M ow ↔ j ≤ M ∧ oAt ow j = some k := mem_live W.sz
  have snd_in : ∀ k, k < hs.size → k ∈ (liveOf M ow).map (·.2) := fun k hk =>
    let ⟨j, b1, b2⟩ := W.all k (by omega)
    List.mem_map.mpr ⟨(j, k), mem.2 ⟨b1, b2⟩, rfl⟩
  have hlen : (liveOf M ow).length = hs.size := by
    obtain ⟨ps, p1, p2⟩ := W.ps
    have a := nat_nodup_len ((liveOf M ow).map fun q => q.1) ps (by unfold List.Nodup; exact List.Pairwise.imp (fun h => Nat.ne_of_lt h) r1) fun x hx => by
      obtain ⟨⟨y, k⟩, hq, rfl⟩ := List.mem_map.mp hx
      obtain ⟨b1, b2⟩ := mem.1 hq
      exact p2 y b1 (by rw [b2]; simp)
    have b := nat_nodup_len (List.range hs.size) ((liveOf M ow).map (·.2)) List.nodup_range fun k hk => snd_in k (List.mem_range.mp hk)
    simp only [List.length_map, List.length_range] at a b
    omega
  refine ⟨tabOf t M ow, ((liveOf M ow).map (·.2)).toArray, by rw [relaid_eq, hw, e]; rfl, perm_range hs.size _ (by simpa using hlen) (fun k hk => by simpa using snd_in k hk), ⟨r1, rfl, ?_, hM, fun x hx => Nat.le_of_lt_succ (List.mem_range.mp (r2 x hx)), fun i h j h1 h2 => ?_⟩, rfl, rfl, rfl⟩
  · show ((liveOf M ow).map (·.1)).toArray.size = _
    simp
  · have h1' : ((liveOf M ow)[i]?).map (fun q => hs.getD q.2 0) = some h := by simpa [Function.comp_def] using h1
    have h2' : ((liveOf M ow)[i]?).map (·.1) = some j := by
      have h3 : ((liveOf M ow).map (·.1))[i]? = some j := h2
      rwa [List.getElem?_map] at h3
    cases hq : (liveOf M ow)[i]? with
    | none => rw [hq] at h2'; cases h2'
    | some q =>
      obtain ⟨y, k⟩ := q
      rw [hq] at h1' h2'
      cases h2'
      have eh : hs.getD k 0 = h := Option.some.inj h1'
      obtain ⟨b1, b2⟩ := mem.1 (List.mem_of_getElem? hq)
      obtain ⟨h0, K, a1, a2, a3⟩ := W.at_ y k b1 b2
      have e0 : h0 = h := by
        rw [← eh, Array.getD_eq_getD_getElem?, ← Array.getElem?_toList, a1]; rfl
      subst e0
      refine ⟨K, a2, fun c hc => ?_⟩
      show way M h0 c ∈ (liveOf M ow).map (·.1)
      cases z : oAt ow (way M h0 c) with
      | none => exact absurd z (a3 c hc)
      | some k2 => exact List.mem_map.mpr ⟨_, mem.2 ⟨way_in, z⟩, rfl⟩
theorem sz5 : SetTable.sizeAbove (SetTable.grown 5) = 32 := by decide +kernel
theorem sz19 : SetTable.sizeAbove (SetTable.grown 19) = 128 := by decide +kernel
theorem sz77 : SetTable.sizeAbove (SetTable.grown 77) = 512 := by decide +kernel
theorem sz307 : SetTable.sizeAbove (SetTable.grown 307) = 2048 := by decide +kernel
theorem sz1229 : SetTable.sizeAbove (SetTable.grown 1229) = 8192 := by decide +kernel
end Lk
end
section
set_option linter.all false
set_option maxRecDepth 100000
set_option maxHeartbeats 1000000
/-! Sets whose members are tuples, nested, of numbers. -/
namespace Lk
open PySem PySem.Spec PyProof.Rows L2
mutual
def numK : NestedKey → Bool
  | .none => true
  | .num _ => true
  | .text _ => false
  | .tup ks => numKs ks
def numKs : List NestedKey → Bool
  | [] => true
  | k :: ks => numK k && numKs ks
end
/-- the tuple at a has the key k, of numbers -/
def KeyAt (h : Heap) (k : NestedKey) (a : Addr) : Prop := NestedIs h k (.ref a) ∧ k.depth ≤ 8 ∧ numK k = true
section
variable {P : Program} {w : World} {A : Around} {E : Value → Shared → Prop} {s : Shared} {h h' : Heap} {k : NestedKey} {a b : Addr}
theorem KeyAt.is (x : KeyAt h k a) : (nestedKind P w).is h k a := ⟨x.1, x.2.1⟩
theorem KeyAt.keep (x : KeyAt h k a) (e : ∀ b o vs n, h.get? b = some o → o.data = .seq vs n → h'.get? b = some o) : KeyAt h' k a := ⟨NestedIs.at e _ _ x.1, x.2⟩
theorem KeyAt.tup (x : KeyAt s.heap k a) : s.TypeIs (.ref a) "tuple" := by
  obtain ⟨x, _⟩ := x
  cases x with
  | tup h1 h2 _ _ => exact ⟨_, h1, h2⟩
/-! ### what the model asks of a member -/
/-- no class statement made it -/
def PlainAt (P : Program) (w : World) (n : Nat) (s : Shared) (v : Value) : Prop := ∀ (A : Around) (E : Value → Shared → Prop) (Q : Bool → Shared → Prop), Q false s → wpAny (model P w) A (ofAClassStatement n v) Q E s
/-- its hash is by value -/
def ByVal (P : Program) (w : World) (n : Nat) (s : Shared) (v : Value) : Prop := ∀ (A : Around) (E : Value → Shared → Prop) (Q : Bool → Shared → Prop), Q true s → wpAny (model P w) A (hashByValue n v) Q E s
theorem plain_tup {n m : Nat} {o : Obj} {vs : Array Value} (ho : s.heap.get? a = some o) (hc : o.cls = .type "tuple") (hd : o.data = .seq vs m) (hq : ∀ v ∈ vs.toList, PlainAt P w n s v) : PlainAt P w (n + 1) s (.ref a) := fun A E Q hQ => by
  unfold ofAClassStatement
  refine wpAny_bind (wpAny_typeOf (⟨o, ho, hc⟩ : s.TypeIs (.ref a) "tuple") ?_)
  dsimp only
  simp only [show (("tuple" : String) == "tuple") = true from by decide, if_true, Bool.not_true, Bool.false_eq_true, if_false]
  try refine wpAny_bind (wpAny_pure ?_)
  try simp only [Bool.not_true, Bool.false_eq_true, if_false]
  refine wpAny_bind (wpAny_seqItems ho hd (wpAny_bind ?_))
  show wpAny _ _ (forIn vs _ _) _ _ s
  rw [← Array.forIn_toList]
  refine wpAny_forIn_list _ (fun rest r z => r.1 = none ∧ z = s ∧ ∀ v ∈ rest, PlainAt P w n s v) _ ?_ ?_ _ _ ⟨rfl, rfl, hq⟩
  · rintro v rest r z ⟨_, rfl, all⟩
    refine wpAny_bind (all v (List.mem_cons_self ..) _ _ _ ?_)
    exact wpAny_pure ⟨rfl, rfl, fun u hu => all u (List.mem_cons_of_mem _ hu)⟩
  · rintro ⟨r1, r2⟩ z ⟨hr, rfl, _⟩
    cases hr
    exact wpAny_pure hQ
theorem byVal_tup {n m : Nat} {o : Obj} {vs : Array Value} (ho : s.heap.get? a = some o) (hc : o.cls = .type "tuple") (hd : o.data = .seq vs m) (hq : ∀ v ∈ vs.toList, ByVal P w n s v) : ByVal P w (n + 1) s (.ref a) := fun A E Q hQ => by
  unfold hashByValue
  refine wpAny_bind (wpAny_specialOf (⟨o, ho, hc⟩ : s.TypeIs (.ref a) "tuple") F.slot_tuple_hash.lookup ?_)
  refine wpAny_bind (wpAny_seqItems ho hd (wpAny_bind ?_))
  show wpAny _ _ (forIn vs _ _) _ _ s
  rw [← Array.forIn_toList]
  refine wpAny_forIn_list _ (fun rest r z => r.1 = none ∧ z = s ∧ ∀ v ∈ rest, ByVal P w n s v) _ ?_ ?_ _ _ ⟨rfl, rfl, hq⟩
  · rintro v rest r z ⟨_, rfl, all⟩
    refine wpAny_bind (all v (List.mem_cons_self ..) _ _ _ ?_)
    exact wpAny_pure ⟨rfl, rfl, fun u hu => all u (List.mem_cons_of_mem _ hu)⟩
  · rintro ⟨r1, r2⟩ z ⟨hr, rfl, _⟩
    cases hr
    exact wpAny_pure hQ
theorem plain_no {n : Nat} {v : Value} (e : ofAClassStatement n v = pure false) : PlainAt P w n s v := fun _ _ _ hQ => by rw [e]; exact wpAny_pure hQ
theorem byVal_yes {n : Nat} {v : Value} (e : hashByValue n v = pure true) : ByVal P w n s v := fun _ _ _ hQ => by rw [e]; exact wpAny_pure hQ
mutual
theorem plain_key : ∀ (k : NestedKey) (v : Value) (n : Nat), NestedIs s.heap k v → k.depth ≤ n → PlainAt P w n s v
  | .none, _, n, x, _ => by cases x; exact plain_no (by cases n <;> rfl)
  | .num i, _, n, x, _ => by cases x <;> exact plain_no (by cases n <;> rfl)
  | .text y, _, n, x, _ => by cases x; exact plain_no (by cases n <;> rfl)
  | .tup ks, _, n, x, hn => by
    cases x with
    | tup a b c d =>
      simp only [NestedKey.depth] at hn
      obtain ⟨n', rfl⟩ : ∃ n', n = n' + 1 := ⟨n - 1, by omega⟩
      exact plain_tup a b c (plain_keys ks _ n' d (by omega))
theorem plain_keys : ∀ (ks : List NestedKey) (vs : List Value) (n : Nat), NestedAll s.heap ks vs → NestedKey.depthAll ks ≤ n → ∀ v ∈ vs, PlainAt P w n s v
  | [], _, n, x, _, v, hv => by cases x; cases hv
  | k :: ks, _, n, x, hn, v, hv => by
    cases x with
    | cons x1 x2 =>
      simp only [NestedKey.depthAll] at hn
      exact (List.mem_cons.mp hv).elim (fun e => e ▸ plain_key k _ n x1 (by omega)) (plain_keys ks _ n x2 (by omega) v)
end
mutual
theorem byVal_key : ∀ (k : NestedKey) (v : Value) (n : Nat), NestedIs s.heap k v → k.depth ≤ n → numK k = true → ByVal P w n s v
  | .none, _, n, x, _, _ => by cases x; exact byVal_yes (by cases n <;> rfl)
  | .num i, _, n, x, _, _ => by cases x <;> exact byVal_yes (by cases n <;> rfl)
  | .text y, _, n, x, _, hx => by simp [numK] at hx
  | .tup ks, _, n, x, hn, hx => by
    cases x with
    | tup a b c d =>
      simp only [NestedKey.depth] at hn
      obtain ⟨n', rfl⟩ : ∃ n', n = n' + 1 := ⟨n - 1, by omega⟩
      exact byVal_tup a b c (byVal_keys ks _ n' d (by omega) (by simpa [numK] using hx))
theorem byVal_keys : ∀ (ks : List NestedKey) (vs : List Value) (n : Nat), NestedAll s.heap ks vs → NestedKey.depthAll ks ≤ n → numKs ks = true → ∀ v ∈ vs, ByVal P w n s v
  | [], _, n, x, _, _, v, hv => by cases x; cases hv
  | k :: ks, _, n, x, hn, hx, v, hv => by
    cases x with
    | cons x1 x2 =>
      simp only [NestedKey.depthAll] at hn
      simp only [numKs, Bool.and_eq_true] at hx
      exact (List.mem_cons.mp hv).elim (fun e => e ▸ byVal_key k _ n x1 (by omega) hx.1) (byVal_keys ks _ n x2 (by omega) hx.2 v)
end
/-- looking for a tuple among tuples tells nothing -/
theorem unseen (hk : KeyAt s.heap k b) {ys : List Value} (hy : ∀ y ∈ ys, ∃ k' c, y = .ref c ∧ KeyAt s.heap k' c) {Q : Bool → Shared → Prop} (hQ : Q false s) : wpAny (model P w) A (searchCouldBeSeen (.ref b) ys) Q E s := by
  unfold searchCouldBeSeen
  refine wpAny_bind (wpAny_forIn_list _ (fun rest r z => r.1 = none ∧ z = s ∧ ∀ y ∈ rest, ∃ k' c, y = .ref c ∧ KeyAt s.heap k' c) _ ?_ ?_ _ _ ⟨rfl, rfl, hy⟩)
  · rintro v rest r z ⟨_, rfl, all⟩
    obtain ⟨k', c, rfl, hc⟩ := all v (List.mem_cons_self ..)
    have fin : (none : Option Bool) = none ∧ z = z ∧ ∀ y ∈ rest, ∃ k' c, y = Value.ref c ∧ KeyAt z.heap k' c := ⟨rfl, rfl, fun u hu => all u (List.mem_cons_of_mem _ hu)⟩
    dsimp only
    by_cases hv : (b == c || (carriedByValue (.ref b) && carriedByValue (.ref c))) = true
    · exact wp_if_pos hv (wpAny_pure fin)
    · refine wp_if_neg hv (wpAny_bind ((nestedKind P w).quiet hk.is ?_))
      refine wpAny_bind ((nestedKind P w).quiet hc.is ?_)
      refine wpAny_bind (plain_key _ _ 8 hk.1 hk.2.1 _ _ _ ?_)
      refine wpAny_bind (plain_key _ _ 8 hc.1 hc.2.1 _ _ _ ?_)
      exact wpAny_pure fin
  · rintro ⟨r1, r2⟩ z ⟨hr, rfl, _⟩
    cases hr
    exact wpAny_pure hQ
end
/-! ### the set -/
def rowN (w : World) (p : NestedKey × Addr) : Int × Value := (p.1.hash w, .ref p.2)
structure SetN (w : World) (h : Heap) (a : Addr) (L : List (NestedKey × Addr)) (es : Array (Int × Value)) (ep : Nat) (t : SetTable) : Prop where
  ob : ∃ o, h.get? a = some o ∧ o.ExactSet ∧ o.data = .set es ep t
  rows : es.toList = L.map (rowN w)
  tab : TabG t (L.map fun p => p.1.hash w)
  nd : (L.map (·.1)).Nodup
  key : ∀ p ∈ L, KeyAt h p.1 p.2
  plain : t.plain = true
  led : w.params.followText "set-order" = true ∨ t.led = true
  room : L.length * 5 < t.mask * 3
section
variable {P : Program} {w : World} {A : Around} {E : Value → Shared → Prop} {s : Shared} {h h' : Heap} {k : NestedKey} {a x : Addr} {L : List (NestedKey × Addr)} {es : Array (Int × Value)} {ep : Nat} {t : SetTable}
theorem SetN.size (R : SetN w h a L es ep t) : es.size = L.length := by
  have q := congrArg List.length R.rows
  simpa using q
theorem SetN.few (R : SetN w h a L es ep t) : L.length < 4915 := by
  have q := R.room
  have z := R.tab.mok.le
  omega
theorem fits_of {n : Nat} (h1 : t.place.size = n) (h2 : t.dummies = #[]) (h3 : n ≤ t.mask) : t.fits n = true := by
  unfold SetTable.fits SetTable.fill
  rw [h2]
  simp only [Bool.and_eq_true, beq_iff_eq, decide_eq_true_eq]
  exact ⟨h1, by show t.place.size + 0 ≤ t.mask; omega⟩
theorem SetN.fits (R : SetN w h a L es ep t) : t.fits es.size = true := by
  have q := R.size
  have z := R.room
  have y := R.tab.sz
  simp only [List.length_map] at y
  exact fits_of (by omega) R.tab.dm (by omega)
theorem SetN.at_ (R : SetN w h a L es ep t) {i : Nat} {p : NestedKey × Addr} (e : L[i]? = some p) : es[i]? = some (rowN w p) := by
  rw [← Array.getElem?_toList, R.rows, List.getElem?_map, e]; rfl
theorem SetN.kept (R : SetN w h a L es ep t) : ¬ t.gaveWay = true := by
  have e : t.mask % 2 = 1 := by rcases R.tab.mok with z | z | z | z | z | z <;> rw [z]
  unfold SetTable.gaveWay
  rw [e]; decide
/-- the way's n-th step -/
abbrev stp (t : SetTable) (hk : Int) (c : Nat) : SetTable.Probe := nth t.mask (runAt t.mask (SetTable.bits hk % (t.mask + 1)) (SetTable.bits hk)) c
theorem stp_dm (m : Nat) : ∀ (n : Nat) (p : SetTable.Probe), p.dummy = none → (nth m p n).dummy = none
  | 0, _, h => h
  | n + 1, p, h => stp_dm m n (adv m p) (by unfold adv; split <;> exact h)
theorem search_go (R : SetN w s.heap a L es ep t) (hx : KeyAt s.heap k x) (hu : A.units + 8 < cLine) {K : Nat} (hK1 : K < 10 * SetTable.turns t.mask)
    (hK : way t.mask (k.hash w) K ∉ t.place.toList) (hKb : ∀ c, c < K → way t.mask (k.hash w) c ∈ t.place.toList) {Q : SetFound → Shared → Prop}
    (hin : k ∈ L.map (·.1) → Q (.there none) s) (hout : k ∉ L.map (·.1) → Q (.free (way t.mask (k.hash w) K) false) s) :
    ∀ (f c : Nat) (st : Option SetTable.Probe), st.getD (t.probeStart (k.hash w)) = stp t (k.hash w) c → c ≤ K → K - c < f →
      (∀ (i : Nat) (p : NestedKey × Addr), L[i]? = some p → p.1 = k → ∃ c', c ≤ c' ∧ c' < K ∧ t.place.toList[i]? = some (way t.mask (k.hash w) c')) →
      wpAny (model P w) A (setSearchFrom a (.ref x) (k.hash w) true f st) Q E s := by
  intro f
  induction f with
  | zero => intro c st _ _ hf; omega
  | succ f ih =>
    intro c st hst hc hf hre
    obtain ⟨o, ho, hex, hd⟩ := R.ob
    rw [setSearchFrom_succ]
    refine wpAny_bind (wpAny_setState_of ho hd R.fits ?_)
    dsimp only
    refine wp_if_neg R.kept ?_
    try refine wpAny_bind (wpAny_pure ?_)
    -- the way from here
    have fwd : ∀ q, nth t.mask (stp t (k.hash w) c) q = stp t (k.hash w) (c + q) := fun q => (nth_add t.mask c _ q).symm
    have fj : ∀ q, (nth t.mask (stp t (k.hash w) c) q).j = way t.mask (k.hash w) (c + q) := fun q => congrArg SetTable.Probe.j (fwd q)
    have hsh : ∀ (i : Nat) p, L[i]? = some p → (es[i]?.map (·.1)).getD 0 = p.1.hash w := fun i p e => by rw [R.at_ e]; rfl
    have spec := go_spec t R.tab.ris R.tab.dm (fun i => (es[i]?.map (·.1)).getD 0) (k.hash w) (10 * SetTable.turns t.mask) (K - c) _ (stp_dm t.mask c _ rfl) (by omega)
      (fun q hq => by rw [fj]; exact hKb (c + q) (by omega)) (by rw [fj, Nat.add_sub_cancel' hc]; exact hK)
    unfold SetTable.probe
    rw [hst]
    rcases spec with ⟨q, i, hq, hi, hh, hno, hpr⟩ | ⟨hno, hpr⟩
    · rw [hpr]
      dsimp only
      rw [fj] at hi
      have hil : i < L.length := by
        have y := (List.getElem?_eq_some_iff.mp hi).1
        have z := R.tab.sz
        simp only [Array.length_toList, List.length_map] at y z
        omega
      obtain ⟨p, hp⟩ : ∃ p, L[i]? = some p := ⟨_, List.getElem?_eq_getElem hil⟩
      have hpm := List.mem_of_getElem? hp
      have rest : wpAny (model P w) A (searchRest a (.ref x) (k.hash w) true f es t (nth t.mask (stp t (k.hash w) c) q).j i (nth t.mask (stp t (k.hash w) c) (q + 1))) Q E s := by
        unfold searchRest
        rw [R.at_ hp]
        dsimp only [rowN]
        refine wpAny_bind (wpAny_holding ((nestedKind P w).eqBool hu (R.key p hpm).is hx.is ?_))
        refine wpAny_bind (wpAny_setState_of ho hd R.fits ?_)
        dsimp only
        by_cases hkk : p.1 = k
        · exact wp_if_pos (by simp [hkk]) (wpAny_pure (hin (List.mem_map.mpr ⟨p, hpm, hkk⟩)))
        · refine wp_if_neg (by simp [hkk]) ?_
          try refine wpAny_bind (wpAny_pure ?_)
          rw [sameMem]
          dsimp only
          have hsl := slot_live R.tab.ris hi
          simp only [fj, if_true, hsl, R.at_ hp, rowN]
          refine wpAny_bind (wpAny_isSame_ref_self (wpAny_bind (wpAny_pure ?_)))
          simp only [if_true]
          refine wp_if_neg (by simp [hkk]) (ih (c + (q + 1)) _ (fwd (q + 1)) (by omega) (by omega) fun i0 p0 h0 hk0 => ?_)
          obtain ⟨c', a1, a2, a3⟩ := hre i0 p0 h0 hk0
          refine ⟨c', Classical.byContradiction fun z => ?_, a2, a3⟩
          by_cases hlt : c' < c + q
          · exact hno (c' - c) i0 (by omega) (by rw [fj, Nat.add_sub_cancel' a1]; exact a3) ((hsh i0 p0 h0).trans (by rw [hk0]))
          · obtain rfl : c' = c + q := by omega
            have s0 := (slot_live R.tab.ris a3).symm.trans hsl
            injection s0 with s0
            rw [s0, hp] at h0
            cases h0
            exact hkk hk0
      by_cases hl : t.led = true
      · refine wp_if_neg (by simp [hl]) ?_
        try refine wpAny_bind (wpAny_pure ?_)
        exact rest
      · refine wp_if_pos (by simp [hl]) (wpAny_bind (unseen hx (fun y hy => ?_) ?_))
        · obtain ⟨e, he, rfl⟩ := List.mem_map.mp hy
          have he1 : e ∈ es.toList := by
            have z : e ∈ es ∧ e.1 = k.hash w := by simpa using he
            simpa using z.1
          rw [R.rows] at he1
          obtain ⟨p2, hp2, rfl⟩ := List.mem_map.mp he1
          exact ⟨p2.1, p2.2, rfl, R.key p2 hp2⟩
        · refine wp_if_neg (by decide) ?_
          try refine wpAny_bind (wpAny_pure ?_)
          exact rest
    · rw [hpr]
      dsimp only
      rw [fj, Nat.add_sub_cancel' hc]
      refine wpAny_pure (hout fun hm => ?_)
      obtain ⟨p0, h0, hk0⟩ := List.mem_map.mp hm
      obtain ⟨i0, e0⟩ := List.mem_iff_getElem?.mp h0
      obtain ⟨c', a1, a2, a3⟩ := hre i0 p0 e0 hk0
      exact hno (c' - c) i0 (by omega) (by rw [fj, Nat.add_sub_cancel' a1]; exact a3) ((hsh i0 p0 e0).trans (by rw [hk0]))
theorem search_key (R : SetN w s.heap a L es ep t) (hx : KeyAt s.heap k x) (hu : A.units + 8 < cLine) {Q : SetFound → Shared → Prop} (hin : k ∈ L.map (·.1) → Q (.there none) s)
    (hout : ∀ K, k ∉ L.map (·.1) → way t.mask (k.hash w) K ∉ t.place.toList → (∀ c, c < K → way t.mask (k.hash w) c ∈ t.place.toList) → Q (.free (way t.mask (k.hash w) K) false) s) :
    wpAny (model P w) A (setSearch a (.ref x) (k.hash w) true) Q E s := by
  have hroom := R.room
  obtain ⟨K, hK1, hK, hKb⟩ := R.tab.stop (by simp only [List.length_map]; omega) (k.hash w)
  have hbig : K < 100000 := by
    have z := R.tab.mok.le
    unfold SetTable.turns at hK1
    omega
  unfold setSearch
  refine search_go R hx hu hK1 hK hKb hin (fun hn => hout K hn hK hKb) 100000 0 none rfl (Nat.zero_le _) (by omega) fun i p hp hk => ?_
  have hil : i < t.place.toList.length := by
    have y := (List.getElem?_eq_some_iff.mp hp).1
    have z := R.tab.sz
    simp only [Array.length_toList, List.length_map] at z ⊢
    omega
  have hj := List.getElem?_eq_getElem hil
  obtain ⟨c, hc, e⟩ := R.tab.ahead hK (by rw [List.getElem?_map, hp, ← hk]; rfl) hj
  exact ⟨c, Nat.zero_le _, hc, by rw [hj, e]⟩
theorem KeyAt.but {o : Obj} (kx : KeyAt h k x) (ho : h.get? a = some o) (hd : o.data = .set es ep t) (hs : Heap.SameBut a h h') : KeyAt h' k x :=
  kx.keep fun b ob vs n hb hc => (hs.2 b fun e => by subst e; rw [ho] at hb; cases hb; rw [hd] at hc; cases hc).trans hb
theorem reorder (L : List (NestedKey × Addr)) (es : Array (Int × Value)) (order : Array Nat) (hr : es.toList = L.map (rowN w)) (hp : order.toList.Perm (List.range L.length)) :
    ∃ L2 : List (NestedKey × Addr), (order.filterMap (es[·]?)).toList = L2.map (rowN w) ∧ L2.Perm L ∧ (L2.map fun p => p.1.hash w) = order.toList.map fun i => (es.map (·.1)).getD i 0 := by
  have ent : ∀ i, es[i]? = (L[i]?).map (rowN w) := fun i => by rw [← Array.getElem?_toList, hr, List.getElem?_map]
  refine ⟨order.toList.filterMap fun i => L[i]?, ?_, ?_, ?_⟩
  · rw [Array.toList_filterMap, List.map_filterMap]
    exact congrArg (fun f => List.filterMap f order.toList) (funext ent)
  · refine (hp.filterMap _).trans (.of_eq ?_)
    have key : ∀ n, n ≤ L.length → (List.range n).filterMap (fun i => L[i]?) = L.take n := by
      intro n
      induction n with
      | zero => intro _; rfl
      | succ n ih =>
        intro hn
        rw [List.range_succ, List.filterMap_append, ih (by omega), List.take_succ, List.getElem?_eq_getElem (show n < L.length from hn)]
        simp [List.getElem?_eq_getElem (show n < L.length from hn)]
    rw [key _ (Nat.le_refl _), List.take_length]
  · have key : ∀ l : List Nat, (∀ i ∈ l, i < L.length) → (l.filterMap fun i => L[i]?).map (fun p => p.1.hash w) = l.map fun i => (es.map (·.1)).getD i 0 := by
      intro l
      induction l with
      | nil => intro _; rfl
      | cons i l ih =>
        intro hl
        have hi := List.getElem?_eq_getElem (hl i (List.mem_cons_self ..))
        rw [List.filterMap_cons_some hi, List.map_cons, List.map_cons, ih fun j hj => hl j (List.mem_cons_of_mem _ hj)]
        congr 1
        rw [Array.getD_eq_getD_getElem?, Array.getElem?_map, ent i, hi]; rfl
    exact key _ fun i hi => List.mem_range.mp (hp.mem_iff.mp hi)
/-- the table grows -/
theorem regrow {o : Obj} (ho : s.heap.get? a = some o) (hex : o.ExactSet) (hd : o.data = .set es ep t) (hrows : es.toList = L.map (rowN w)) (hsz : t.place.size = L.length) (hdm : t.dummies = #[]) (hfl : L.length ≤ t.mask)
    (nd : (L.map (·.1)).Nodup) (key : ∀ p ∈ L, KeyAt s.heap p.1 p.2) (pl : t.plain = true) (ld : w.params.followText "set-order" = true ∨ t.led = true) {wanted M : Nat}
    (hw : SetTable.sizeAbove wanted - 1 = M) (hM : MaskP M) (hn : L.length * 5 < M * 3) {Q : Unit → Shared → Prop}
    (hQ : ∀ h' L' es' ep' t', Heap.SameBut a s.heap h' → SetN w h' a L' es' ep' t' → L'.Perm L → Q () { s with heap := h' }) : wpAny (model P w) A (setRelay a wanted) Q E s := by
  have hsl : es.size = L.length := by simpa using congrArg List.length hrows
  have hMl := hM.le
  obtain ⟨t', order, e, hp, T, em, el, epl⟩ := anew_ok t (hs := es.map (·.1)) (wanted := wanted) hw hM (by rw [Array.size_map, hsl]; omega)
  rw [Array.size_map, hsl] at hp
  obtain ⟨L2, r1, r2, r3⟩ := reorder (w := w) L es order hrows hp
  rw [← r3] at T
  have hs2 : (order.filterMap (es[·]?)).size = es.size := by
    rw [← Array.length_toList, r1, List.length_map, r2.length_eq, hsl]
  rw [setRelay_eq]
  refine wpAny_bind (wpAny_setState_of ho hd (fits_of (by rw [hsl]; exact hsz) hdm (by omega)) ?_)
  dsimp only
  refine wp_if_neg (by rw [sizeLine_eq]; omega) ?_
  try refine wpAny_bind (wpAny_pure ?_)
  rw [e]
  dsimp only
  refine wpAny_bind (wp_if_neg (by rw [hs2]; simp) ?_)
  try refine wpAny_bind (wpAny_pure ?_)
  refine wpAny_pure ?_
  dsimp only
  refine wpAny_storeSet_of ho hd ?_ (by rw [hs2, hsl, sizeLine_eq]; omega)
  have sb := Heap.SameBut.update s.heap a (Obj.putSet (order.filterMap (es[·]?)) t')
  exact hQ _ L2 _ (ep + 1) t' sb ⟨⟨_, store_at ho hd, ⟨hex.1, hex.2.1, hex.2.2⟩, rfl⟩, r1, T, (r2.map (·.1)).nodup_iff.mpr nd, fun p hpm => (key p (r2.mem_iff.mp hpm)).but ho hd sb, by rw [epl]; exact pl, by rw [el]; exact ld, by rw [r2.length_eq, em]; exact hn⟩ r2
theorem add_key (R : SetN w s.heap a L es ep t) (hx : KeyAt s.heap k x) (hu : A.units + 8 < cLine) (hfew : L.length + 1 < 4915) {Q : Bool → Shared → Prop}
    (hQ : ∀ b h' L' es' ep' t', Heap.SameBut a s.heap h' → SetN w h' a L' es' ep' t' → (k ∈ L.map (·.1) → L' = L) → (k ∉ L.map (·.1) → L'.Perm ((k, x) :: L)) → Q b { s with heap := h' }) :
    wpAny (model P w) A (setAddHashed a (.ref x) (k.hash w)) Q E s := by
  obtain ⟨o, ho, hex, hd⟩ := R.ob
  have hsl := R.size
  have hroom := R.room
  unfold setAddHashed
  refine wpAny_holding ?_
  rw [show (100000 : Nat) = 99999 + 1 from rfl, setAddHashedIn_succ]
  refine wpAny_bind (wpAny_setState_of ho hd R.fits ?_)
  dsimp only
  refine wp_if_neg (by simp [byScan, Value.scannable]) ?_
  try refine wpAny_bind (wpAny_pure ?_)
  refine wpAny_bind (search_key R hx hu (fun hm => ?_) fun K hm hK hb => ?_)
  · exact wpAny_pure (hQ false s.heap L es ep t (Heap.SameBut.refl a s.heap) R (fun _ => rfl) fun z => absurd hm z)
  · refine wpAny_bind (wpAny_setState_of ho hd R.fits ?_)
    dsimp only
    obtain ⟨p, t1, ept, q2, q3, q4, q5, q6, q9⟩ := R.tab.put hK hb
    have hp1 : t1.plain = true := q6.trans R.plain
    rw [ept]
    dsimp only
    have hbv : ∀ {Q : Bool → Shared → Prop}, Q true s → wpAny (model P w) A (hashByValue 8 (.ref x)) Q E s := fun hQ => byVal_key _ _ 8 hx.1 hx.2.1 hx.2.2 _ _ _ hQ
    first
      | (refine wpAny_bind ?_; refine wp_if_pos hp1 ?_; refine hbv ?_)
      | refine wp_if_pos hp1 (wpAny_bind (hbv ?_))
    simp only [if_true]
    have pm : (L.take p ++ (k, x) :: L.drop p).Perm ((k, x) :: L) := put_perm L p (k, x)
    have hin : (SetTable.insertAt es p (k.hash w, Value.ref x)).toList = (L.take p ++ (k, x) :: L.drop p).map (rowN w) := by
      rw [SetTable.toList_insertAt, R.rows, List.map_append, List.map_cons, List.map_take, List.map_drop]; rfl
    have hhs : (L.take p ++ (k, x) :: L.drop p).map (fun p => p.1.hash w) = (L.map fun p => p.1.hash w).take p ++ k.hash w :: (L.map fun p => p.1.hash w).drop p := by
      rw [List.map_append, List.map_cons, List.map_take, List.map_drop]
    rw [← hhs] at q3
    revert hin pm q3
    generalize L.take p ++ (k, x) :: L.drop p = L1
    generalize SetTable.insertAt es p (k.hash w, Value.ref x) = es1
    intro q3 pm hin
    have hlen : L1.length = L.length + 1 := pm.length_eq
    have nd1 : (L1.map (·.1)).Nodup := (pm.map (·.1)).nodup_iff.mpr (List.nodup_cons.mpr ⟨hm, R.nd⟩)
    have hes : es1.size = L.length + 1 := by rw [← hlen]; simpa using congrArg List.length hin
    refine wpAny_bind (wpAny_storeSet_of ho hd ?_ (by rw [hes, sizeLine_eq]; omega))
    have sb : Heap.SameBut a s.heap (s.heap.update a (Obj.putSet es1 t1)) := Heap.SameBut.update ..
    have ho1 := store_at (es' := es1) (t' := t1) ho hd
    revert sb ho1
    generalize s.heap.update a (Obj.putSet es1 t1) = h1
    intro sb ho1
    have key1 : ∀ p ∈ L1, KeyAt h1 p.1 p.2 := fun p hp => (List.mem_cons.mp (pm.mem_iff.mp hp)).elim (fun e => e ▸ hx.but ho hd sb) fun hp => (R.key p hp).but ho hd sb
    have ld1 : w.params.followText "set-order" = true ∨ t1.led = true := q5 ▸ R.led
    have q9' : t1.tooFull = decide ((L.length + 1) * 5 ≥ t1.mask * 3) := by
      unfold SetTable.tooFull
      rw [q9, List.length_map]
    by_cases hf : t1.tooFull = true
    · first
        | (refine wpAny_bind ?_; refine wp_if_pos (by simp [hf]) ?_)
        | (refine wp_if_pos (by simp [hf]) ?_; refine wpAny_bind ?_)
      rw [q9', decide_eq_true_eq, q4] at hf
      rw [hsl]
      have hsz1 : t1.place.size = L1.length := by have z := q3.sz; simpa using z
      have go : ∀ M, SetTable.sizeAbove (SetTable.grown (L.length + 1)) - 1 = M → MaskP M → (L.length + 1) * 5 < M * 3 →
          wpAny (model P w) A (setRelay a (SetTable.grown (L.length + 1))) (fun _ s' => wpAny (model P w) A (pure true) Q E s') E { s with heap := h1 } := fun M g1 g2 g3 =>
        regrow (s := { s with heap := h1 }) ho1 ⟨hex.1, hex.2.1, hex.2.2⟩ rfl hin hsz1 q3.dm (by rw [hlen, q4]; have := R.tab.mok; unfold MaskP at this; omega) nd1 key1 hp1 ld1 g1 g2 (by rw [hlen]; exact g3)
          fun h2 L2 es2 ep2 t2 sb2 R2 pm2 => wpAny_pure (hQ true h2 L2 es2 ep2 t2 (sb.trans sb2) R2 (fun z => absurd z hm) fun _ => pm2.trans pm)
      rcases R.tab.mok with e | e | e | e | e | e <;> rw [e] at hf hroom
      · obtain e2 : L.length = 4 := by omega
        exact go 31 (by rw [e2, sz5]) (.inr (.inl rfl)) (by omega)
      · obtain e2 : L.length = 18 := by omega
        exact go 127 (by rw [e2, sz19]) (.inr (.inr (.inl rfl))) (by omega)
      · obtain e2 : L.length = 76 := by omega
        exact go 511 (by rw [e2, sz77]) (.inr (.inr (.inr (.inl rfl)))) (by omega)
      · obtain e2 : L.length = 306 := by omega
        exact go 2047 (by rw [e2, sz307]) (.inr (.inr (.inr (.inr (.inl rfl))))) (by omega)
      · obtain e2 : L.length = 1228 := by omega
        exact go 8191 (by rw [e2, sz1229]) (.inr (.inr (.inr (.inr (.inr rfl))))) (by omega)
      · omega
    · first
        | refine wp_if_neg (by simp [hf]) ?_
        | (refine wpAny_bind ?_; refine wp_if_neg (by simp [hf]) ?_; refine wpAny_pure ?_)
      refine wpAny_pure (hQ true h1 L1 es1 (ep + 1) t1 sb ⟨⟨_, ho1, ⟨hex.1, hex.2.1, hex.2.2⟩, rfl⟩, hin, q3, nd1, key1, hp1, ld1, ?_⟩ (fun z => absurd z hm) fun _ => pm)
      rw [q9', decide_eq_true_eq] at hf
      omega
end
end Lk
end
section
set_option linter.all false
set_option maxRecDepth 100000
set_option maxHeartbeats 1000000
/-! Data by value over the abstract heap: what an address stands for, and how it stays. -/
namespace Lk
open PySem PySem.Spec PyProof.Rows L2
abbrev D := PyData
abbrev KF := PySem.W.Frag
/-! ### keys -/
mutual
def nk : D → Option NestedKey
  | .none => some .none
  | .bool b => some (.num (if b = true then 1 else 0))
  | .int i => some (.num i)
  | .str x => some (.text x)
  | .tuple ds => (nks ds).map .tup
  | .list _ => none
  | .dict _ => none
def nks : List D → Option (List NestedKey)
  | [] => some []
  | d :: ds => match nk d, nks ds with
    | some k, some ks => some (k :: ks)
    | _, _ => none
end
/-- a dict with tuples as keys, entry by entry: the key, where its tuple stands, the value -/
def DN (w : World) (a : Addr) (es : List (NestedKey × Addr × V)) : HO := .ext fun h =>
  (es.map (·.1)).Nodup ∧ es.length ≤ sizeLine ∧ (a == sysModules) = false ∧ ∃ xs : List (NestedKey × Addr × Value), Paired (fun (p : NestedKey × Addr × V) (q : NestedKey × Addr × Value) => p.1 = q.1 ∧ p.2.1 = q.2.1 ∧ RelV p.2.2 q.2.2) es xs ∧
    ∃ o ea ep, h.get? a = some o ∧ o.ExactDict ∧ o.data = .dict ea ep ∧ ea.toList = xs.map fun x => (⟨x.1.hash w, .ref x.2.1, x.2.2⟩ : DictEntry)
theorem DN_own {w : World} {a x : Addr} {es} : DN w a es ≠ .own x := fun z => by
  have z' : HO.ext _ = HO.own x := z
  cases z'
theorem DN_tup {w : World} {a : Addr} {es} {xs : List V} : DN w a es ≠ .tup xs := fun z => by
  have z' : HO.ext _ = HO.tup xs := z
  cases z'
theorem DN_lst {w : World} {a : Addr} {es} {xs : List V} : DN w a es ≠ .lst xs := fun z => by
  have z' : HO.ext _ = HO.lst xs := z
  cases z'
theorem DN_mut {w : World} {a : Addr} {es} : Mut (some (DN w a es)) := True.intro
/-- a dict's entry: its key (a number or text; a tuple), its value -/
inductive KE where
  | s (k : Key)
  | t (k : NestedKey) (b : Addr)
def DH (w : World) (H : Hp) (a : Addr) (es : List (KE × V)) : Prop :=
  (∃ kvs : List (Key × V), Rd H a (.dK kvs) ∧ es = kvs.map fun p => (KE.s p.1, p.2)) ∨
  (∃ xs : List (NestedKey × Addr × V), Rd H a (DN w a xs) ∧ es = xs.map fun p => (KE.t p.1 p.2.1, p.2.2))
/-- an own exception as data: of the class c, its field f holds d; without a field -/
abbrev exD (c f : Str) (d : D) : D := .dict [(.none, .tuple [.str c, .str f, d])]
abbrev exD0 (c : Str) : D := .dict [(.none, .tuple [.str c])]
mutual
/-- the value v stands for the data d -/
inductive Rp (w : World) (K : KF) (F : Hp) : V → D → Prop
  | non : Rp w K F .non .none
  | bl (b : Bool) : Rp w K F (.bl b) (.bool b)
  | int (i : Int) : Rp w K F (.int i) (.int i)
  | str (x : Str) : Rp w K F (.str x) (.str x)
  | lst {a : Addr} {xs : List V} {ds : List D} : SqL K F a xs → RpA w K F xs ds → Rp w K F (.ref a) (.list ds)
  | tup {a : Addr} {xs : List V} {ds : List D} : SqT K F a xs → RpA w K F xs ds → Rp w K F (.ref a) (.tuple ds)
  | dct {a : Addr} {es : List (KE × V)} {kds : List (D × D)} : DH w F a es → RpE w K F es kds → Rp w K F (.ref a) (.dict kds)
  | exo {a dx : Addr} {c f : Str} {v : V} {d : D} : Rd F a (L2.exo a (He.ga K c) (some dx)) → Rd F dx (L2.exd dx [(f, v)]) → Rp w K F v d → Rp w K F (.ref a) (.dict [(.none, .tuple [.str c, .str f, d])])
  | exn {a : Addr} {c : Str} : Rd F a (L2.exo a (He.ga K c) none) → Rp w K F (.ref a) (.dict [(.none, .tuple [.str c])])
inductive RpA (w : World) (K : KF) (F : Hp) : List V → List D → Prop
  | nil : RpA w K F [] []
  | cons {v : V} {vs : List V} {d : D} {ds : List D} : Rp w K F v d → RpA w K F vs ds → RpA w K F (v :: vs) (d :: ds)
inductive RpE (w : World) (K : KF) (F : Hp) : List (KE × V) → List (D × D) → Prop
  | nil : RpE w K F [] []
  | cons {k : KE} {v : V} {es : List (KE × V)} {kd d : D} {ds : List (D × D)} : RpK w K F k kd → Rp w K F v d → RpE w K F es ds → RpE w K F ((k, v) :: es) ((kd, d) :: ds)
inductive RpK (w : World) (K : KF) (F : Hp) : KE → D → Prop
  | num (i : Int) : RpK w K F (.s (.inl i)) (.int i)
  | text (x : Str) : RpK w K F (.s (.inr x)) (.str x)
  | tup {b : Addr} {d : D} {k : NestedKey} : Rp w K F (.ref b) d → nk d = some k → k.depth ≤ 8 → RpK w K F (.t k b) d
end
/-! ### heaps that grow -/
abbrev Sub (F F' : Hp) : Prop := ∀ a o, F a = some o → F' a = some o
theorem Sub.refl (F : Hp) : Sub F F := fun _ _ h => h
theorem Sub.trans {F G H : Hp} (a : Sub F G) (b : Sub G H) : Sub F H := fun x o h => b x o (a x o h)
theorem Sub.rd {F F' : Hp} {a : Addr} {u : HO} (e : Sub F F') (h : Rd F a u) : Rd F' a u := by
  rcases h with h | ⟨o, h⟩
  · exact .inl (e a _ h)
  · exact .inr ⟨o, e a _ h⟩
theorem Sub.l {K : KF} {F F' : Hp} {a : Addr} {xs : List V} (e : Sub F F') (h : SqL K F a xs) : SqL K F' a xs := h.imp e.rd id
theorem Sub.t {K : KF} {F F' : Hp} {a : Addr} {xs : List V} (e : Sub F F') (h : SqT K F a xs) : SqT K F' a xs := h.imp e.rd id
theorem Sub.d {w : World} {F F' : Hp} {a : Addr} {es : List (KE × V)} (e : Sub F F') (h : DH w F a es) : DH w F' a es := by
  rcases h with ⟨kvs, h, q⟩ | ⟨xs, h, q⟩
  · exact .inl ⟨kvs, e.rd h, q⟩
  · exact .inr ⟨xs, e.rd h, q⟩
section
variable {w : World} {K : KF} {F F' : Hp}
mutual
theorem Rp.mono (e : Sub F F') : ∀ {v : V} {d : D}, Rp w K F v d → Rp w K F' v d
  | _, _, .non => .non
  | _, _, .bl b => .bl b
  | _, _, .int i => .int i
  | _, _, .str x => .str x
  | _, _, .lst h r => .lst (e.l h) (RpA.mono e r)
  | _, _, .tup h r => .tup (e.t h) (RpA.mono e r)
  | _, _, .dct h r => .dct (e.d h) (RpE.mono e r)
  | _, _, .exo h1 h2 r => .exo (e.rd h1) (e.rd h2) (Rp.mono e r)
  | _, _, .exn h => .exn (e.rd h)
theorem RpA.mono (e : Sub F F') : ∀ {vs : List V} {ds : List D}, RpA w K F vs ds → RpA w K F' vs ds
  | _, _, .nil => .nil
  | _, _, .cons a b => .cons (Rp.mono e a) (RpA.mono e b)
theorem RpE.mono (e : Sub F F') : ∀ {vs : List (KE × V)} {ds : List (D × D)}, RpE w K F vs ds → RpE w K F' vs ds
  | _, _, .nil => .nil
  | _, _, .cons a b c => .cons (RpK.mono e a) (Rp.mono e b) (RpE.mono e c)
theorem RpK.mono (e : Sub F F') : ∀ {k : KE} {d : D}, RpK w K F k d → RpK w K F' k d
  | _, _, .num i => .num i
  | _, _, .text x => .text x
  | _, _, .tup a b c => .tup (Rp.mono e a) b c
end
theorem RpA.length : ∀ {vs : List V} {ds : List D}, RpA w K F vs ds → vs.length = ds.length
  | _, _, .nil => rfl
  | _, _, .cons _ b => by rw [List.length_cons, List.length_cons, RpA.length b]
theorem RpA.get : ∀ {vs : List V} {ds : List D} {i : Nat} {d : D}, RpA w K F vs ds → ds[i]? = some d → ∃ v, vs[i]? = some v ∧ Rp w K F v d
  | _, _, _, _, .nil, h => by simp at h
  | _, _, 0, _, .cons a _, h => by simp at h; subst h; exact ⟨_, rfl, a⟩
  | _, _, i + 1, d, .cons _ b, h => by
    obtain ⟨v, h1, h2⟩ := RpA.get (i := i) (d := d) b (by simpa using h)
    exact ⟨v, by simpa using h1, h2⟩
theorem RpA.getV : ∀ {vs : List V} {ds : List D} {i : Nat} {v : V}, RpA w K F vs ds → vs[i]? = some v → ∃ d, ds[i]? = some d ∧ Rp w K F v d
  | _, _, _, _, .nil, h => by simp at h
  | _, _, 0, _, .cons a _, h => by simp at h; subst h; exact ⟨_, rfl, a⟩
  | _, _, i + 1, v, .cons _ b, h => by
    obtain ⟨d, h1, h2⟩ := RpA.getV (i := i) (v := v) b (by simpa using h)
    exact ⟨d, by simpa using h1, h2⟩
theorem RpA.append : ∀ {vs vs' : List V} {ds ds' : List D}, RpA w K F vs ds → RpA w K F vs' ds' → RpA w K F (vs ++ vs') (ds ++ ds')
  | _, _, _, _, .nil, h => h
  | _, _, _, _, .cons a b, h => .cons a (RpA.append b h)
theorem RpA.one {v : V} {d : D} (h : Rp w K F v d) : RpA w K F [v] [d] := .cons h .nil
theorem RpA.take : ∀ {vs : List V} {ds : List D} (n : Nat), RpA w K F vs ds → RpA w K F (vs.take n) (ds.take n)
  | _, _, 0, _ => .nil
  | _, _, _ + 1, .nil => .nil
  | _, _, n + 1, .cons a b => .cons a (RpA.take n b)
theorem RpA.drop : ∀ {vs : List V} {ds : List D} (n : Nat), RpA w K F vs ds → RpA w K F (vs.drop n) (ds.drop n)
  | _, _, 0, h => h
  | _, _, _ + 1, .nil => .nil
  | _, _, n + 1, .cons _ b => RpA.drop n b
theorem RpA.set : ∀ {vs : List V} {ds : List D} {v : V} {d : D} (n : Nat), Rp w K F v d → RpA w K F vs ds → RpA w K F (vs.set n v) (ds.set n d)
  | _, _, _, _, _, _, .nil => .nil
  | _, _, _, _, 0, h, .cons _ b => .cons h b
  | _, _, _, _, n + 1, h, .cons a b => .cons a (RpA.set n h b)
theorem RpA.reverse : ∀ {vs : List V} {ds : List D}, RpA w K F vs ds → RpA w K F vs.reverse ds.reverse
  | _, _, .nil => .nil
  | _, _, .cons a b => by
    rw [List.reverse_cons, List.reverse_cons]
    exact (RpA.reverse b).append (.one a)
theorem RpE.length : ∀ {vs : List (KE × V)} {ds : List (D × D)}, RpE w K F vs ds → vs.length = ds.length
  | _, _, .nil => rfl
  | _, _, .cons _ _ b => by rw [List.length_cons, List.length_cons, RpE.length b]
/-! ### data without dicts: the library's own reading -/
mutual
def nod : D → Bool
  | .dict _ => false
  | .list ds => nods ds
  | .tuple ds => nods ds
  | _ => true
def nods : List D → Bool
  | [] => true
  | d :: ds => nod d && nods ds
end
mutual
theorem Rp.dp : ∀ {v : V} {d : D}, Rp w K F v d → nod d = true → Dp K F v d
  | _, _, .non, _ => .non
  | _, _, .bl b, _ => .bl b
  | _, _, .int i, _ => .int i
  | _, _, .str x, _ => .str x
  | _, _, .lst h r, n => .lst h (RpA.dp r (by simpa [nod] using n))
  | _, _, .tup h r, n => .tup h (RpA.dp r (by simpa [nod] using n))
  | _, _, .dct h r, n => by simp [nod] at n
  | _, _, .exo _ _ _, n => by simp [nod] at n
  | _, _, .exn _, n => by simp [nod] at n
theorem RpA.dp : ∀ {v : List V} {d : List D}, RpA w K F v d → nods d = true → DpAll K F v d
  | _, _, .nil, _ => .nil
  | _, _, .cons a b, n => by
    rw [nods, Bool.and_eq_true] at n
    exact .cons (Rp.dp a n.1) (RpA.dp b n.2)
end
/-! only tuples, numbers, texts: nothing that can be changed -/
mutual
def pur : D → Bool
  | .dict _ => false
  | .list _ => false
  | .tuple ds => purs ds
  | _ => true
def purs : List D → Bool
  | [] => true
  | d :: ds => pur d && purs ds
end
/-- F has all tuples of H -/
abbrev Tups (F H : Hp) : Prop := (∀ a xs, H a = some (.tup xs) → F a = some (.tup xs)) ∧ ∀ a o xs, H a = some (.frz o (.tup xs)) → F a = some (.frz o (.tup xs))
mutual
theorem Rp.pure {H : Hp} (t : Tups F H) : ∀ {v : V} {d : D}, Rp w K H v d → pur d = true → Rp w K F v d
  | _, _, .non, _ => .non
  | _, _, .bl b, _ => .bl b
  | _, _, .int i, _ => .int i
  | _, _, .str x, _ => .str x
  | _, _, .lst h r, n => by simp [pur] at n
  | _, _, .tup h r, n => .tup (h.imp (fun z => z.imp (t.1 _ _) fun ⟨o, z⟩ => ⟨o, t.2 _ _ _ z⟩) id) (RpA.pure t r (by simpa [pur] using n))
  | _, _, .dct h r, n => by simp [pur] at n
  | _, _, .exo _ _ _, n => by simp [pur] at n
  | _, _, .exn _, n => by simp [pur] at n
theorem RpA.pure {H : Hp} (t : Tups F H) : ∀ {v : List V} {d : List D}, RpA w K H v d → purs d = true → RpA w K F v d
  | _, _, .nil, _ => .nil
  | _, _, .cons a b, n => by
    rw [purs, Bool.and_eq_true] at n
    exact .cons (Rp.pure t a n.1) (RpA.pure t b n.2)
end
end
/-! ### keys over the state -/
section
variable {X : Cx} {pins : List (Addr × Obj)} {σ : L2.St} {H : Hp} {s : Shared}
mutual
theorem Rp.key (I : Inv X pins σ H s) : ∀ {d : D} {v : V} {u : Value} {k : NestedKey}, Rp X.w X.K H v d → RelV v u → nk d = some k → NestedIs s.heap k u
  | .none, _, _, _, h, r, e => by
    cases h; cases r; simp [nk] at e; subst e; exact .none
  | .bool b, _, _, _, h, r, e => by
    cases h; cases r; simp [nk] at e; subst e; exact .bool rfl
  | .int i, _, _, _, h, r, e => by
    cases h; obtain ⟨t, rfl⟩ := r; simp [nk] at e; subst e; exact .int i t
  | .str x, _, _, _, h, r, e => by
    cases h; obtain ⟨t, rfl⟩ := r; simp [nk] at e; subst e; exact .text x t
  | .tuple ds, _, _, _, h, r, e => by
    cases h with
    | tup hs ha =>
      cases r
      obtain ⟨its, rv, ⟨o, ho, hc, n, hd⟩, _⟩ := I.tuple hs
      simp only [nk, Option.map_eq_some_iff] at e
      obtain ⟨ks, e1, e2⟩ := e
      subst e2
      exact .tup ho hc hd (by simpa using RpA.keys I ha rv e1)
  | .list _, _, _, _, _, _, e => by simp [nk] at e
  | .dict _, _, _, _, _, _, e => by simp [nk] at e
theorem RpA.keys (I : Inv X pins σ H s) : ∀ {ds : List D} {vs : List V} {us : List Value} {ks : List NestedKey}, RpA X.w X.K H vs ds → Vals vs us → nks ds = some ks → NestedAll s.heap ks us
  | [], _, _, _, h, r, e => by
    cases h; cases r; simp [nks] at e; subst e; exact .nil
  | d :: ds, _, _, _, h, r, e => by
    cases h with
    | cons h1 h2 =>
      cases r with
      | cons r1 r2 =>
        unfold nks at e
        split at e
        · rename_i k ks e1 e2
          cases e
          exact .cons (Rp.key I h1 r1 e1) (RpA.keys I h2 r2 e2)
        · cases e
end
end
end Lk
end
section
set_option linter.all false
set_option maxRecDepth 100000
set_option maxHeartbeats 1000000
/-! The program's text as a small language of numbered names, and what it comes to on data. -/
namespace Lk
open PySem PySem.Spec PyProof.Rows L2
inductive BOp where
  | add | sub | mul | fdv | mod | pow
  deriving DecidableEq
inductive COp where
  | eq | ne | lt | le | gt | ge | inn | nin | isN | ntN
  deriving DecidableEq
/-- a built-in that is called by its name -/
inductive Bi where
  | len | int | abs | max2 | min2 | max1 | min1 | sum | all | any | sorted | tuple | list | str | gcd | lcm | set0
  deriving DecidableEq
/-- a text's own -/
inductive Mt where
  | join | split | starts | strip
  deriving DecidableEq
/-- what a comprehension makes -/
inductive CK where
  | li | se | di
  deriving DecidableEq
inductive Tg where
  | nm (i : Nat)
  | tp (is : List Nat)
  deriving DecidableEq
inductive P where
  | no
  | var (i : Nat)
  | lit (d : D)
  | glob (x : Str)
  | bin (op : BOp) (a b : P)
  | neg (a : P)
  | cmp (op : COp) (a b : P)
  | cmp2 (o1 o2 : COp) (a b c : P)
  | bool (isAnd : Bool) (as : P)
  | nott (a : P)
  | ife (c a b : P)
  | tup (as : P)
  | lst (as : P)
  | dct (as : P)
  | idx (a b : P)
  | slc (a lo hi : P)
  | rev (a : P)
  | call (f : Str) (as : P) (ks : List Str)
  | bi (b : Bi) (as : P)
  | mth (m : Mt) (a b : P)
  | isd (a : P)
  | fld (a : P) (f : Str)
  | isin (a : P) (ts : List Str)
  | comp (k : CK) (vs : List Nat) (tg : Tg) (it ifs rest e1 e2 : P)
  | gen (vs : List Nat) (tg : Tg) (it ifs rest : P)
  | rng (as : P)
  | lrng (as : P)
  | iof (a b : P)
  | zip (a b : P)
  | enum (a : P)
  | enus (a b : P)
  | sgn (a : P)
  | itr (a : P)
  | tv (a : P)
  | cons (a as : P)
inductive S where
  | done
  | asg (tg : Tg) (e : P) (r : S)
  | par (is : List Nat) (as : P) (r : S)
  | sti (o : Nat) (i e : P) (r : S)
  | spt (o : Nat) (i e : P) (r : S)
  | mksp (o : Nat) (r : S)
  | st2 (o : Nat) (i j e : P) (r : S)
  | app (o : Nat) (e : P) (r : S)
  | app2 (o : Nat) (i e : P) (r : S)
  | ext (o : Nat) (e : P) (r : S)
  | add (o : Nat) (e : P) (r : S)
  | pop (tg : Tg) (o : Nat) (r : S)
  | apop (o o2 : Nat) (e : P) (r : S)
  | sdef (o : Nat) (k e : P) (r : S)
  | aug (o : Nat) (e : P) (r : S)
  | lpop (o : Nat) (e : P) (r : S)
  | ins (o : Nat) (i e : P) (r : S)
  | rot (o : Nat) (e : P) (r : S)
  | dpop (o : Nat) (k : P) (r : S)
  | ret (e : P)
  | ife (c : P) (a b r : S)
  | whl (fuel : Nat) (c : P) (b r : S)
  | forr (tg : Tg) (it : P) (b r : S)
  | brk
  | cnt
  | rse (c : Str) (e : P)
  | rs0 (c : Str)
  | tryx (b : S) (cb : Str) (o : Nat) (ct : Str)
  | tryr (e : P) (c : Str) (t : Str) (o : Nat) (f : Str)
/-! ### data -/
/-- a structure that is being made -/
inductive OT where
  | li (xs : List D)
  | di (kvs : List (D × D))
  | dl (kvs : List (D × List D))
  | dd (kvs : List (D × List (D × D)))
  | se (xs : List D)
def OT.dat : OT → Option D
  | .li xs => some (.list xs)
  | .di kvs => some (.dict kvs)
  | .dl kvs => some (.dict (kvs.map fun p => (p.1, .list p.2)))
  | .dd kvs => some (.dict (kvs.map fun p => (p.1, .dict p.2)))
  | .se _ => none
/-- what a name holds -/
inductive B where
  | im (d : D)
  | mu (t : OT)
  | sp
abbrev En := List (Option B)
/-- what an expression comes to -/
inductive R where
  | im (d : D)
  | fr (t : OT)
  | bw (t : OT)
  | bo (d : D)
  | sp
def R.dat : R → Option D
  | .im d => some d
  | .fr t => t.dat
  | .bw t => t.dat
  | .bo d => some d
  | .sp => none
def OT.flat : OT → Bool
  | .li _ => true
  | .di _ => true
  | .se _ => true
  | _ => false
/-- the things in it never change -/
def R.kids : R → Bool
  | .im _ => true
  | .fr t => t.flat
  | .bw t => t.flat
  | _ => false
/-- it never changes from now on -/
def R.fix : R → Option D
  | .im d => some d
  | .fr t => t.dat
  | .bw t => t.dat.bind fun d => if pur d then some d else none
  | .bo d => if pur d then some d else none
  | .sp => none
def cap : Nat := 16000000
def truth : D → Option Bool
  | .none => some false
  | .bool b => some b
  | .int i => some (i != 0)
  | .str x => if x.length ≤ cap then some (x.length != 0) else none
  | .list xs => some (!xs.isEmpty)
  | .tuple xs => some (!xs.isEmpty)
  | .dict _ => none
/-- what a walk goes over -/
def itemsOf : D → Option (List D)
  | .list xs => some xs
  | .tuple xs => some xs
  | _ => none
def dget (kvs : List (D × α)) (k : D) : Option α := (kvs.find? fun p => decide (nk p.1 = nk k)).map (·.2)
def dhas (kvs : List (D × α)) (k : D) : Bool := kvs.any fun p => decide (nk p.1 = nk k)
def dput (kvs : List (D × α)) (k : D) (v : α) : List (D × α) :=
  if dhas kvs k then kvs.map fun p => if nk p.1 = nk k then (p.1, v) else p else kvs ++ [(k, v)]
/-- a key of the dict that has these: numbers and texts, or tuples -/
def keyS : D → Bool
  | .int _ => true
  | .str _ => true
  | _ => false
def keyT : D → Bool
  | .tuple ds => match nk (.tuple ds) with
    | some k => decide (k.depth ≤ 8)
    | none => false
  | _ => false
/-- a member of a set: a tuple, nested, of numbers -/
def keyN (d : D) : Bool := keyT d && (match nk d with
  | some k => numK k
  | none => false)
def keyOk (kvs : List (D × α)) (k : D) : Bool := (keyS k && kvs.all fun p => keyS p.1) || (keyT k && kvs.all fun p => keyT p.1)
def cutG (xs : List α) (lo hi : Option Int) : List α := (xs.drop (HT.sIx xs.length 0 lo)).take (HT.sIx xs.length xs.length hi - HT.sIx xs.length 0 lo)
def mulOk (i j : Int) : Bool := decide ((-(2 ^ 64) < i ∧ i < 2 ^ 64) ∨ (-(2 ^ 64) < j ∧ j < 2 ^ 64)) || decide (Builtin.Int.intBits i + Builtin.Int.intBits j ≤ 134217728)
def binI : BOp → Int → Int → Option Int
  | .add, i, j => some (i + j)
  | .sub, i, j => some (i - j)
  | .mul, i, j => if mulOk i j then some (i * j) else none
  | .fdv, i, j => if j ≠ 0 ∧ (j.natAbs < 1073741824 ∨ (0 < j ∧ j.natAbs.log2 < 9000)) then some (i.fdiv j) else none
  | .mod, i, j => if j ≠ 0 then some (i.fmod j) else none
  | .pow, i, j => if 0 ≤ j ∧ j ≤ 1000000 ∧ i.natAbs < 2 ^ 64 then some (i ^ j.toNat) else none
def shp (d : D) : Bool := SeqAt.shaped d
def dlt (d e : D) : Option Bool := match d, e with
  | .int i, .int j => some (decide (i < j))
  | .none, _ => none
  | d, e => if PySem.W.alike d e && decide (d.depth ≤ 60) && nod d && nod e then some (PySem.W.dataLt d e) else none
def cmpD : COp → D → D → Option Bool
  | .eq, d, e => if shp d && shp e then some (PyData.eqv d e) else none
  | .ne, d, e => if shp d && shp e then some (!PyData.eqv d e) else none
  | .lt, d, e => dlt d e
  | .gt, .int i, .int j => some (decide (j < i))
  | .le, .int i, .int j => some (decide (i ≤ j))
  | .ge, .int i, .int j => some (decide (j ≤ i))
  | .inn, d, .list xs => if shp d && shp (.list xs) then some (xs.any fun z => PyData.eqv z d) else none
  | .inn, d, .tuple xs => if shp d && shp (.tuple xs) then some (xs.any fun z => PyData.eqv z d) else none
  | .inn, d, .dict kvs => if keyOk kvs d then some (dhas kvs d) else none
  | .nin, d, .list xs => if shp d && shp (.list xs) then some (!xs.any fun z => PyData.eqv z d) else none
  | .nin, d, .tuple xs => if shp d && shp (.tuple xs) then some (!xs.any fun z => PyData.eqv z d) else none
  | .nin, d, .dict kvs => if keyOk kvs d then some (!dhas kvs d) else none
  | .nin, .str x, .str z => match x.cps.toList with
    | [c] => some (!decide (c ∈ z.cps.toList))
    | _ => none
  | .isN, .none, _ => some true
  | .isN, _, _ => some false
  | .ntN, .none, _ => some false
  | .ntN, _, _ => some true
  | _, _, _ => none
/-- all alike: they can be sorted -/
def sortOk (xs : List D) : Bool := (xs.all fun x => xs.all fun y => PySem.W.alike x y && decide (x.depth ≤ 60)) &&
  ((xs.all fun x => match x with | .tuple (_ :: _) => true | _ => false) || (xs.all fun x => match x with | .tuple _ => false | .none => false | _ => true))
def sortD (xs : List D) : List D := xs.mergeSort (PySem.W.dataLe false id)
def intsOf : List D → Option (List Int)
  | [] => some []
  | .int i :: r => (intsOf r).map (i :: ·)
  | _ => none
def boolsOf : List D → Option (List Bool)
  | [] => some []
  | .bool b :: r => (boolsOf r).map (b :: ·)
  | _ => none
/-- the first least item -/
def minD : D → List D → D
  | m, [] => m
  | m, x :: r => minD (if PySem.W.dataLt x m then x else m) r
def maxD : D → List D → D
  | m, [] => m
  | m, x :: r => maxD (if PySem.W.dataLt m x then x else m) r
/-- an own exception's class -/
def excOf : D → Option Str
  | .dict [(.none, .tuple (.str c :: _))] => some c
  | _ => none
def lenD : D → Option Nat
  | .list xs => some xs.length
  | .tuple xs => some xs.length
  | .dict kvs => if (excOf (.dict kvs)).isNone then some kvs.length else none
  | .str x => if x.length ≤ cap then some x.length else none
  | _ => none
/-! ### results -/
inductive Ro (α : Type) where
  | ok (a : α) (n : Int)
  | ex (c : Str) (d : D) (n : Int)
abbrev M (α : Type) := Option (Ro α)
def M.bind (m : M α) (f : α → Int → M β) : M β := match m with
  | some (.ok a n) => f a n
  | some (.ex c d n) => some (.ex c d n)
  | none => none
def M.of (o : Option α) (n : Int) : M α := o.map fun a => .ok a n
/-- no error may leave -/
def M.calm : M α → M α
  | some (.ok a n) => some (.ok a n)
  | _ => none
/-- what a def does: where among its parameters the moving place is; its answer -/
structure Fn where
  ps : List Str
  pos : Option Nat
  sem : List D → Int → M D
structure Tb where
  fn : Str → Option Fn
  gl : Str → Option D
  cl : Str → Option Str
  /-- the own exception classes that keep no field -/
  c0 : Str → Bool := fun _ => false
  /-- whether an own exception of a class is one of another class -/
  ix : Str → Str → Option Bool := fun _ _ => none
/-! ### operations -/
/-- a text so many times -/
def repS (x : Str) (j : Nat) : Str := ⟨(List.replicate j x.cps).foldl (· ++ ·) #[]⟩
def opBin (op : BOp) (a b : R) : Option R := match op, a.dat, b.dat with
  | op, some (.int i), some (.int j) => (binI op i j).map fun z => .im (.int z)
  | .add, some (.list xs), some (.list ys) => if (a.kids || purs xs) && (b.kids || purs ys) && decide (xs.length + ys.length ≤ cap) then some (.fr (.li (xs ++ ys))) else none
  | .add, some (.tuple xs), some (.tuple ys) => if (a.kids || purs xs) && (b.kids || purs ys) && decide (xs.length + ys.length ≤ cap) then some (.im (.tuple (xs ++ ys))) else none
  | .add, some (.str x), some (.str y) => if x.length + y.length ≤ cap then some (.im (.str (x ++ y))) else none
  | .mul, some (.str x), some (.int j) => if 1 < j ∧ 0 < x.length ∧ x.length * j.toNat ≤ 10000 then some (.im (.str (repS x j.toNat))) else none
  | _, _, _ => none
def opCmp (op : COp) (a b : R) : Option Bool := match op, a, b with
  | .isN, a, _ => a.dat.bind fun d => cmpD .isN d .none
  | .ntN, a, _ => a.dat.bind fun d => cmpD .ntN d .none
  | op, a, b => match a.dat, b.dat with
    | some d, some e => cmpD op d e
    | _, _ => none
/-- a part of it -/
def part (r : R) (d : D) : R := if r.kids || pur d then .im d else .bo d
def opIdxD (a : R) (da k : D) : Option R := match da, k with
  | .list xs, .int i => (atI xs i).map (part a)
  | .tuple xs, .int i => (atI xs i).map (part a)
  | .dict kvs, k => if keyOk kvs k then (dget kvs k).map (part a) else none
  | .str z, .int i => if z.length ≤ cap then (atI z.cps.toList i).map fun c => .im (.str ⟨#[c]⟩) else none
  | _, _ => none
def opIdx (a b : R) : Option R := match a, b.dat with
  | .bw (.dl kvs), some k => if keyOk kvs k then (dget kvs k).map fun xs => .bw (.li xs) else none
  | .bw (.dd kvs), some k => if keyOk kvs k then (dget kvs k).map fun xs => .bw (.di xs) else none
  | a, some k => match a.dat with
    | some da => opIdxD a da k
    | none => none
  | _, _ => none
/-- the moving place's own number, too -/
def opIdxN (a b : R) (n : Int) : Option R := match a with
  | .sp => match b.dat with
    | some (.int 0) => some (.im (.int n))
    | _ => none
  | a => opIdx a b
def opSlc (a : R) (lo hi : Option Int) : Option R := match a.dat with
  | some (.list xs) => if a.kids || purs (cutG xs lo hi) then some (.fr (.li (cutG xs lo hi))) else none
  | some (.tuple xs) => if a.kids || purs (cutG xs lo hi) then some (.im (.tuple (cutG xs lo hi))) else none
  | some (.str x) => if x.length ≤ cap then some (.im (.str (cutS x lo hi))) else none
  | _ => none
def opRev (a : R) : Option R := match a.dat with
  | some (.list xs) => if a.kids || purs xs then some (.fr (.li xs.reverse)) else none
  | _ => none
def opInt (r : R) : Option Int := match r.dat with
  | some (.int i) => some i
  | _ => none
def fixAll : List R → Option (List D)
  | [] => some []
  | r :: rs => match r.fix, fixAll rs with
    | some d, some ds => some (d :: ds)
    | _, _ => none
def datAll : List R → Option (List D)
  | [] => some []
  | r :: rs => match r.dat, datAll rs with
    | some d, some ds => some (d :: ds)
    | _, _ => none
/-- a call's arguments: the moving place stands where it must; data elsewhere -/
def argsOf (pos : Option Nat) : Nat → List R → Option (List D × Bool)
  | _, [] => some ([], true)
  | k, r :: rs => match argsOf pos (k + 1) rs with
    | none => none
    | some (ds, q) =>
      if pos = some k then (match r with
        | .sp => some (.none :: ds, q)
        | _ => none)
      else match r.fix with
        | some d => some (d :: ds, q)
        | none => match r.dat with
          | some d => some (d :: ds, false)
          | none => none
def opCall (fn : Fn) (rs : List R) (n : Int) : M R := if rs.length = fn.ps.length then (match argsOf fn.pos 0 rs with
  | some (ds, q) => match fn.sem ds n with
    | some (.ok d n') => some (.ok (if q then .im d else .bo d) (if fn.pos = none then n else n'))
    | some (.ex c d n') => if q then some (.ex c d (if fn.pos = none then n else n')) else none
    | none => none
  | none => none) else none
def pairUp : List D → Option (List (D × D))
  | [] => some []
  | k :: v :: r => (pairUp r).map ((k, v) :: ·)
  | _ => none
def dctOf (ds : List D) : Option (List (D × D)) := (pairUp ds).bind fun ps => if ps.all (fun p => keyS p.1) && decide (ps.length ≤ 15) then some (ps.foldl (fun acc p => dput acc p.1 p.2) []) else none
def isDct : D → Bool
  | .dict _ => true
  | _ => false
def isTy (d : D) (t : Str) : Option Bool :=
  if isDct d then none
  else if t = "int" then some (match d with | .int _ => true | .bool _ => true | _ => false)
  else if t = "bool" then some (match d with | .bool _ => true | _ => false)
  else if t = "str" then some (match d with | .str _ => true | _ => false)
  else if t = "list" then some (match d with | .list _ => true | _ => false)
  else if t = "tuple" then some (match d with | .tuple _ => true | _ => false)
  else none
def isTys (d : D) : List Str → Option Bool
  | [] => some false
  | t :: ts => match isTy d t, isTys d ts with
    | some a, some b => some (a || b)
    | _, _ => none
/-- an own exception's field -/
def excF (tb : Tb) (f : Str) : D → Option D
  | .dict [(.none, .tuple [.str c, .str g, d])] => if g = f ∧ tb.cl c = some f then some d else none
  | _ => none
def isTysX (tb : Tb) (d : D) (ts : List Str) : Option Bool := match excOf d with
  | some c => match ts with
    | [t] => tb.ix c t
    | _ => none
  | none => isTys d ts
def biLen : R → Option R
  | r => match r.dat with
    | some d => match lenD d with
      | some m => some (.im (.int (m : Int)))
      | none => none
    | none => none
def biInt (r : R) : Option R := match r.dat with
  | some (.int i) => some (.im (.int i))
  | some (.bool c) => some (.im (.int (if c then 1 else 0)))
  | some (.str x) => if x.length ≤ 640 then (PySem.intText? x).map fun i => .im (.int i) else none
  | _ => none
def biAbs (r : R) : Option R := match opInt r with
  | some i => some (.im (.int (if i < 0 then -i else i)))
  | none => none
def biMax2 (r q : R) : Option R := match opInt r, opInt q with
  | some i, some j => some (.im (.int (if j > i then j else i)))
  | _, _ => none
def biMin2 (r q : R) : Option R := match opInt r, opInt q with
  | some i, some j => some (.im (.int (if j < i then j else i)))
  | _, _ => none
def bestI (lt : Int → Int → Bool) : Int → List Int → Int
  | m, [] => m
  | m, x :: r => bestI lt (if lt x m then x else m) r
def biBest (lt : Int → Int → Bool) (r : R) : Option R := match r.dat with
  | some (.list xs) => match intsOf xs with
    | some (i :: is) => some (.im (.int (bestI lt i is)))
    | _ => none
  | some (.tuple xs) => match intsOf xs with
    | some (i :: is) => some (.im (.int (bestI lt i is)))
    | _ => none
  | _ => none
def biSum (r : R) : Option R := match r.dat with
  | some (.list xs) => match intsOf xs with
    | some is => some (.im (.int is.sum))
    | none => none
  | _ => none
def biAll (r : R) : Option R := match r.dat with
  | some (.list xs) => match boolsOf xs with
    | some bs => some (.im (.bool (bs.all id)))
    | none => none
  | _ => none
def biAny (r : R) : Option R := match r.dat with
  | some (.list xs) => match boolsOf xs with
    | some bs => some (.im (.bool (bs.any id)))
    | none => none
  | _ => none
def biSorted : R → Option R
  | .fr (.se xs) => if sortOk xs && decide (xs.length < 4096) then some (.fr (.li (sortD xs))) else none
  | r => match r.dat with
    | some (.list xs) => if sortOk xs && (r.kids || purs xs) then some (.fr (.li (sortD xs))) else none
    | some (.dict kvs) => if sortOk (kvs.map (·.1)) && (kvs.all (fun p => keyT p.1) && purs (kvs.map (·.1))) && decide (kvs.length ≤ cap) then some (.fr (.li (sortD (kvs.map (·.1))))) else none
    | _ => none
def biTuple (r : R) : Option R := match r.dat with
  | some (.list xs) => if r.kids || purs xs then some (.im (.tuple xs)) else none
  | some (.tuple xs) => if r.kids || purs xs then some (.im (.tuple xs)) else none
  | _ => none
def biList (r : R) : Option R := match r.dat with
  | some (.list xs) => if r.kids || purs xs then some (.fr (.li xs)) else none
  | some (.tuple xs) => if r.kids || purs xs then some (.fr (.li xs)) else none
  | some (.dict kvs) => if (excOf (.dict kvs)).isNone && (r.kids || purs (kvs.map (·.1))) then some (.fr (.li (kvs.map (·.1)))) else none
  | _ => none
def biStr (r : R) : Option R := match opInt r with
  | some i => if i.natAbs.log2 < 1920 then some (.im (.str (toString i))) else none
  | none => none
def biGcd (r q : R) : Option R := match opInt r, opInt q with
  | some i, some j => some (.im (.int ((Nat.gcd i.natAbs j.natAbs : Nat) : Int)))
  | _, _ => none
def biLcm (r q p : R) : Option R := match opInt r, opInt q, opInt p with
  | some i, some j, some k => some (.im (.int ((Nat.lcm (Nat.lcm i.natAbs j.natAbs) k.natAbs : Nat) : Int)))
  | _, _, _ => none
def opBi : Bi → List R → Option R
  | .len, [r] => biLen r
  | .int, [r] => biInt r
  | .abs, [r] => biAbs r
  | .max2, [r, q] => biMax2 r q
  | .min2, [r, q] => biMin2 r q
  | .max1, [r] => biBest (fun x m => decide (m < x)) r
  | .min1, [r] => biBest (fun x m => decide (x < m)) r
  | .sum, [r] => biSum r
  | .all, [r] => biAll r
  | .any, [r] => biAny r
  | .sorted, [r] => biSorted r
  | .tuple, [r] => biTuple r
  | .list, [r] => biList r
  | .str, [r] => biStr r
  | .gcd, [r, q] => biGcd r q
  | .lcm, [r, q, p] => biLcm r q p
  | .set0, [] => some (.fr (.se []))
  | _, _ => none
def strsOf : List D → Option (List Str)
  | [] => some []
  | .str x :: r => (strsOf r).map (x :: ·)
  | _ => none
def opStr (r : R) : Option Str := match r.dat with
  | some (.str x) => some x
  | _ => none
def opMth (m : Mt) (x : Str) (r : R) : Option R := match m with
  | .join => match r.dat with
    | some (.list xs) => (strsOf xs).bind fun ys => if (ys.map (·.length)).sum + ys.length * x.length ≤ 16777216 then some (.im (.str (Txt.join x ys))) else none
    | _ => none
  | .split => (opStr r).bind fun y => if (y.length == 0) = false ∧ x.length ≤ cap then some (.fr (.li ((Txt.split x y).map .str))) else none
  | .starts => (opStr r).map fun y => .im (.bool (Txt.startswith x y))
  | .strip => (opStr r).bind fun y => if x.length ≤ cap then some (.im (.str (Txt.removeprefix x y))) else none
def opIof (a b : R) : Option R := match a.dat, b.dat with
  | some (.list xs), some d => if shp d && shp (.list xs) then (xs.findIdx? fun y => PyData.eqv y d).map fun i => .im (.int i) else none
  | _, _ => none
/-! ### names -/
def setN : En → Nat → B → Option En
  | [], _, _ => none
  | _ :: r, 0, b => some (some b :: r)
  | x :: r, i + 1, b => (setN r i b).map (x :: ·)
def setNs : En → List Nat → List D → Option En
  | E, [], [] => some E
  | E, i :: is, d :: ds => match setN E i (.im d) with
    | some E' => setNs E' is ds
    | none => none
  | _, _, _ => none
def wipeE (E : En) : List Nat → En
  | [] => E
  | v :: vs => (wipeE E vs).set v none
def bindT (E : En) (tg : Tg) (r : R) : Option En := match tg, r with
  | .nm i, .fr t => setN E i (.mu t)
  | .nm i, r => r.fix.bind fun d => setN E i (.im d)
  | .tp is, r => match r.dat with
    | some (.tuple ds) => if r.kids || purs ds then setNs E is ds else none
    | some (.list ds) => if r.kids || purs ds then setNs E is ds else none
    | _ => none
def frz (E : En) : List Nat → En
  | [] => E
  | i :: is => frz (match E[i]? with
    | some (some (.mu t)) => match t.dat with
      | some d => E.set i (some (.im d))
      | none => E
    | _ => E) is
/-- the names whose things become parts of others -/
def consP : P → List Nat
  | .tup as => consP as
  | .lst as => consP as
  | .dct as => consP as
  | .ife _ a b => consP a ++ consP b
  | .call _ as _ => consP as
  | .cons (.var i) as => i :: consP as
  | .cons a as => consP a ++ consP as
  | .idx a _ => consP a
  | .fld a _ => consP a
  | .bi _ as => match as with
    | .cons (.var _) .no => []
    | _ => consP as
  | .mth _ a b => consP a ++ consP b
  | .bin _ a b => consP a ++ consP b
  | .comp _ _ _ _ _ rest _ _ => consP rest
  | .gen _ _ it _ rest => consP it ++ consP rest
  | .itr (.var i) => [i]
  | _ => []
def varOf : P → List Nat
  | .var i => [i]
  | .ife _ a b => varOf a ++ varOf b
  | _ => []
/-! ### what a text comes to -/
def rngOf : List Int → Option (List D)
  | [j] => if -(2 ^ 62) ≤ j ∧ j < 2 ^ 62 then some ((List.range j.toNat).map fun (k : Nat) => .int (k : Int)) else none
  | [i, j] => if -(2 ^ 62) ≤ i ∧ i < 2 ^ 62 ∧ -(2 ^ 62) ≤ j ∧ j < 2 ^ 62 then some ((List.range (j - i).toNat).map fun (k : Nat) => .int (i + (k : Int))) else none
  | [i, j, c] => if -(2 ^ 60) ≤ i ∧ i < 2 ^ 60 ∧ -(2 ^ 60) ≤ j ∧ j < 2 ^ 60 ∧ 0 < c ∧ c < 2 ^ 29 then some ((List.range ((j - i + c - 1) / c).toNat).map fun (k : Nat) => .int (i + (k : Int) * c)) else none
  | _ => none
def signsD (x : Str) : List D := x.cps.toList.map fun c => .str ⟨#[c]⟩
/-- the items of a walk: data that do not change -/
def walkOf (st : Bool) (r : R) : Option (List D) := match st, r with
  | true, .im d => itemsOf d
  | true, .fr t => t.dat.bind itemsOf
  | true, _ => none
  | false, r => (r.dat.bind itemsOf).bind fun xs => if r.kids || purs xs then some xs else none
def isLst (r : R) : Bool := match r.dat with
  | some (.list _) => true
  | _ => false
def isTup (r : R) : Bool := match r.dat with
  | some (.tuple _) => true
  | _ => false
/-- a fold that may fail, over items -/
def loopC (f : D → Int → α → M α) : List D → Int → α → M α
  | [], n, a => some (.ok a n)
  | x :: r, n, a => (f x n a).bind fun a' n' => loopC f r n' a'
/-- what a comprehension makes, item by item -/
def newC : CK → OT
  | .li => .li []
  | .se => .se []
  | .di => .di []
def sizeC : OT → Nat
  | .li xs => xs.length
  | .se xs => xs.length
  | .di kvs => kvs.length
  | _ => 0
def putL (t : OT) (r : R) : Option OT := match t, r.fix with
  | .li xs, some d => some (.li (xs ++ [d]))
  | .se xs, some d => if keyN d && decide (xs.length < 4000) then some (.se (if dhas (xs.map fun x => (x, ())) d then xs else xs ++ [d])) else none
  | _, _ => none
def putD (t : OT) (k r : R) : Option OT := match t, k.fix, r.fix with
  | .di kvs, some kd, some d => if keyOk kvs kd then some (.di (dput kvs kd d)) else none
  | _, _, _ => none
mutual
def evE (tb : Tb) : P → En → Int → M R
  | .var i, E, n => match E[i]? with
    | some (some (.im d)) => some (.ok (.im d) n)
    | some (some (.mu t)) => some (.ok (.bw t) n)
    | some (some .sp) => some (.ok .sp n)
    | _ => none
  | .lit d, _, n => some (.ok (.im d) n)
  | .glob x, _, n => (tb.gl x).map fun d => .ok (.im d) n
  | .bin op a b, E, n => (evE tb a E n).bind fun x n => (evE tb b E n).bind fun y n => M.of (opBin op x y) n
  | .neg a, E, n => (evE tb a E n).bind fun x n => M.of ((opInt x).map fun i => .im (.int (-i))) n
  | .cmp op a b, E, n => (evE tb a E n).bind fun x n => (evE tb b E n).bind fun y n => M.of ((opCmp op x y).map fun c => .im (.bool c)) n
  | .cmp2 o1 o2 a b c, E, n => (evE tb a E n).bind fun x n => (evE tb b E n).bind fun y n => (M.of (opCmp o1 x y) n).bind fun k n =>
      if k then (evE tb c E n).bind fun z n => M.of ((opCmp o2 y z).map fun c => .im (.bool c)) n else some (.ok (.im (.bool false)) n)
  | .bool q as, E, n => evB tb q as E n
  | .nott a, E, n => (evT tb a E n).bind fun c n => some (.ok (.im (.bool (!c))) n)
  | .ife c a b, E, n => (evT tb c E n).bind fun k n => if k then evE tb a E n else evE tb b E n
  | .tup as, E, n => (evA tb as E n).bind fun rs n => M.of ((fixAll rs).map fun ds => .im (.tuple ds)) n
  | .lst as, E, n => (evA tb as E n).bind fun rs n => M.of ((fixAll rs).map fun ds => .fr (.li ds)) n
  | .dct as, E, n => (evA tb as E n).bind fun rs n => M.of (((fixAll rs).bind dctOf).map fun kvs => .fr (.di kvs)) n
  | .idx a b, E, n => (evE tb a E n).bind fun x n => (evE tb b E n).bind fun y n => M.of (opIdxN x y n) n
  | .slc a lo hi, E, n => (evE tb a E n).bind fun x n => (evO tb lo E n).bind fun l n => (evO tb hi E n).bind fun h n => M.of (opSlc x l h) n
  | .rev a, E, n => (evE tb a E n).bind fun x n => M.of (opRev x) n
  | .call f as ks, E, n => match tb.fn f with
    | some fn => if ks = [] ∨ ks = fn.ps then (evA tb as E n).bind fun rs n => opCall fn rs n else none
    | none => none
  | .bi b as, E, n => (evA tb as E n).bind fun rs n => M.of (opBi b rs) n
  | .mth m a b, E, n => (evE tb a E n).bind fun x n => (M.of (opStr x) n).bind fun s n => (evE tb b E n).bind fun y n => M.of (opMth m s y) n
  | .isd a, E, n => (evE tb a E n).bind fun x n => M.of ((opStr x).map fun s => .im (.bool (Txt.isdecimal s))) n
  | .lrng a, E, n => (evE tb a E n).bind fun x n => M.of ((opInt x).bind fun j => if -(2 ^ 62) ≤ j ∧ j < 2 ^ 62 ∧ j.toNat ≤ cap then some (.fr (.li ((List.range j.toNat).map fun (k : Nat) => .int (k : Int)))) else none) n
  | .iof a b, E, n => (evE tb a E n).bind fun x n => (evE tb b E n).bind fun y n => M.of (opIof x y) n
  | .isin a ts, E, n => (evE tb a E n).bind fun x n => M.of ((x.dat.bind fun d => isTysX tb d ts).map fun c => .im (.bool c)) n
  | .fld a f, E, n => (evE tb a E n).bind fun x n => M.of (x.dat.bind fun d => (excF tb f d).map (part x)) n
  | .comp k vs tg it ifs rest e1 e2, E, n => (evW tb false it E n).bind fun xs n => (loopC (fun x n acc => match bindT (wipeE E vs) tg (.im x) with
      | some E1 => (evIf tb ifs E1 n).calm.bind fun c n => if c then evC tb rest E1 n acc (fun E2 n acc => (evE tb e1 E2 n).calm.bind fun r n => match k with
          | .di => (evE tb e2 E2 n).calm.bind fun q n => M.of (putD acc r q) n
          | _ => M.of (putL acc r) n) else some (.ok acc n)
      | none => none) xs n (newC k)).calm.bind fun t n => if sizeC t ≤ cap then some (.ok (.fr t) n) else none
  | _, _, _ => none
/-- a list of expressions, from the left -/
def evA (tb : Tb) : P → En → Int → M (List R)
  | .no, _, n => some (.ok [] n)
  | .cons a as, E, n => (evE tb a E n).bind fun r n => (evA tb as E n).bind fun rs n => some (.ok (r :: rs) n)
  | _, _, _ => none
/-- and, or: the values of all but the last are True or False -/
def evB (tb : Tb) (q : Bool) : P → En → Int → M R
  | .cons a .no, E, n => evE tb a E n
  | .cons a as, E, n => (evE tb a E n).bind fun r n => match r with
    | .im (.bool c) => if c = q then evB tb q as E n else some (.ok (.im (.bool c)) n)
    | _ => none
  | _, _, _ => none
/-- and, or as a test -/
def evBT (tb : Tb) (q : Bool) : P → En → Int → M Bool
  | .cons a .no, E, n => evT tb a E n
  | .cons a as, E, n => (evT tb a E n).bind fun c n => if c = q then evBT tb q as E n else some (.ok c n)
  | _, _, _ => none
/-- a test -/
def evT (tb : Tb) : P → En → Int → M Bool
  | .bool q as, E, n => evBT tb q as E n
  | .nott a, E, n => (evT tb a E n).bind fun c n => some (.ok (!c) n)
  | .tv a, E, n => (evE tb a E n).bind fun r n => M.of (r.dat.bind truth) n
  | _, _, _ => none
/-- an end of a slice -/
def evO (tb : Tb) : P → En → Int → M (Option Int)
  | .no, _, n => some (.ok none n)
  | .cons a .no, E, n => (evE tb a E n).bind fun r n => M.of ((opInt r).map some) n
  | _, _, _ => none
/-- the items of what is walked; st: by a statement -/
def evW (tb : Tb) (st : Bool) : P → En → Int → M (List D)
  | .rng as, E, n => (evA tb as E n).bind fun rs n => M.of ((datAll rs).bind fun ds => (intsOf ds).bind rngOf) n
  | .zip a b, E, n => (evE tb a E n).bind fun x n => (evE tb b E n).bind fun y n => M.of (if (isLst x || isTup x) && (isLst y || isTup y) then (walkOf st x).bind fun xs => (walkOf st y).map fun ys => (xs.zip ys).map fun p => .tuple [p.1, p.2] else none) n
  | .enum a, E, n => (evE tb a E n).bind fun x n => M.of (if isLst x then (walkOf st x).map fun xs => xs.zipIdx.map fun p => .tuple [.int p.2, p.1] else none) n
  | .enus a b, E, n => (evE tb a E n).bind fun x n => (evE tb b E n).bind fun y n => M.of ((opInt y).bind fun k => if isLst x && decide (-(2 ^ 62) ≤ k ∧ k < 2 ^ 62) then (walkOf st x).map fun xs => xs.zipIdx.map fun p => .tuple [.int (k + p.2), p.1] else none) n
  | .sgn a, E, n => (evE tb a E n).bind fun x n => M.of ((opStr x).map signsD) n
  | .itr a, E, n => (evE tb a E n).bind fun x n => M.of (walkOf st x) n
  | _, _, _ => none
/-- the tests of a clause -/
def evIf (tb : Tb) : P → En → Int → M Bool
  | .no, _, n => some (.ok true n)
  | .cons c cs, E, n => (evT tb c E n).bind fun k n => if k then evIf tb cs E n else some (.ok false n)
  | _, _, _ => none
/-- the further clauses -/
def evC (tb : Tb) : P → En → Int → OT → (En → Int → OT → M OT) → M OT
  | .no, E, n, acc, f => f E n acc
  | .gen vs tg it ifs rest, E, n, acc, f => (evW tb true it E n).calm.bind fun xs n => loopC (fun x n acc => match bindT (wipeE E vs) tg (.im x) with
      | some E1 => (evIf tb ifs E1 n).calm.bind fun c n => if c then evC tb rest E1 n acc f else some (.ok acc n)
      | none => none) xs n acc
  | _, _, _, _, _ => none
end
/-! ### statements -/
inductive So where
  | nx (E : En) (n : Int)
  | bk (E : En) (n : Int)
  | ct (E : En) (n : Int)
  | rt (d : D) (n : Int)
  | ex (c : Str) (d : D) (n : Int)
def So.of (m : M α) (f : α → Int → Option So) : Option So := match m with
  | some (.ok a n) => f a n
  | some (.ex c d n) => some (.ex c d n)
  | none => none
def So.then (o : Option So) (f : En → Int → Option So) : Option So := match o with
  | some (.nx E n) => f E n
  | o => o
def loopS (f : D → En → Int → Option So) : List D → En → Int → Option So
  | [], E, n => some (.nx E n)
  | x :: r, E, n => match f x E n with
    | some (.nx E' n') => loopS f r E' n'
    | some (.ct E' n') => loopS f r E' n'
    | some (.bk E' n') => some (.nx E' n')
    | o => o
def loopW (c : En → Int → M Bool) (f : En → Int → Option So) : Nat → En → Int → Option So
  | 0, _, _ => none
  | k + 1, E, n => So.of (c E n) fun b n => if b then (match f E n with
    | some (.nx E' n') => loopW c f k E' n'
    | some (.ct E' n') => loopW c f k E' n'
    | some (.bk E' n') => some (.nx E' n')
    | o => o) else some (.nx E n)
def putAt (t : OT) (k v : R) : Option OT := match t, k.fix, v with
  | .li xs, some (.int i), v => match ixN xs.length i, v.fix with
    | some j, some d => some (.li (xs.set j d))
    | _, _ => none
  | .di kvs, some kd, v => match v.fix with
    | some d => if keyOk kvs kd && decide (kvs.length < cap) then some (.di (dput kvs kd d)) else none
    | none => none
  | _, _, _ => none
def put2 (t : OT) (i j v : R) : Option OT := match t, i.fix, j.fix, v.fix with
  | .dd kvs, some kd, some jd, some d => if keyOk kvs kd then (dget kvs kd).bind fun ys => if keyOk ys jd && decide (ys.length < cap) then some (.dd (dput kvs kd (dput ys jd d))) else none else none
  | _, _, _, _ => none
def appT (t : OT) (v : R) : Option OT := match t, v.fix with
  | .li xs, some d => if xs.length < cap then some (.li (xs ++ [d])) else none
  | _, _ => none
def app2T (t : OT) (i v : R) : Option OT := match t, i.fix, v.fix with
  | .dl kvs, some kd, some d => if keyOk kvs kd then (dget kvs kd).bind fun ys => if ys.length < cap then some (.dl (dput kvs kd (ys ++ [d]))) else none else none
  | _, _, _ => none
def sdefT (t : OT) (i v : R) : Option OT := match t, i.fix, v.fix with
  | .di [], some kd, some d => if keyOk ([] : List (D × D)) kd then some (.dl [(kd, [d])]) else none
  | .dl kvs, some kd, some d => if keyOk kvs kd && decide (kvs.length < cap) then match dget kvs kd with
      | some ys => if ys.length < cap then some (.dl (dput kvs kd (ys ++ [d]))) else none
      | none => some (.dl (dput kvs kd [d]))
    else none
  | _, _, _ => none
def extT (t : OT) (v : R) : Option OT := match t, v with
  | .li xs, .fr (.li ys) => if xs.length + ys.length ≤ cap then some (.li (xs ++ ys)) else none
  | _, _ => none
def addT (t : OT) (v : R) : Option OT := match t with
  | .se xs => if xs.length < cap then putL (.se xs) v else none
  | _ => none
def dpopT (t : OT) (i : R) : Option OT := match t, i.fix with
  | .di kvs, some kd => if keyOk kvs kd && dhas kvs kd then some (.di (kvs.filter fun p => !decide (nk p.1 = nk kd))) else none
  | _, _ => none
def retD (r : R) : Option D := r.fix
def muAt (E : En) (o : Nat) : Option OT := match E[o]? with
  | some (some (.mu t)) => some t
  | _ => none
def onlyRt : Option So → Option So
  | some (.rt d n) => some (.rt d n)
  | some (.ex c d n) => some (.ex c d n)
  | _ => none
def liAt (E : En) (o : Nat) : Bool := match E[o]? with
  | some (some (.mu (.li _))) => true
  | _ => false
def evS (tb : Tb) : S → En → Int → Option So
  | .done, E, n => some (.nx E n)
  | .asg tg e r, E, n => So.of (evE tb e (frz E (consP e)) n) fun x n => (bindT (frz E (consP e)) tg x).bind fun E => evS tb r E n
  | .par is as r, E, n => So.of (evA tb as E n) fun rs n => (fixAll rs).bind fun ds => if is.Nodup then (setNs E is ds).bind fun E => evS tb r E n else none
  | .sti o i e r, E, n => if (muAt (frz E (consP e)) o).isSome then So.of (evE tb e (frz E (consP e)) n) fun x n => So.of (evE tb i (frz E (consP e)) n) fun k n => (muAt (frz E (consP e)) o).bind fun t => (putAt t k x).bind fun t => evS tb r ((frz E (consP e)).set o (some (.mu t))) n else none
  | .spt o i e r, E, n => match E[o]? with
    | some (some .sp) => So.of (evE tb e E n) fun x n => So.of (evE tb i E n) fun k n => match opInt x, opInt k with
      | some j, some 0 => evS tb r E j
      | _, _ => none
    | _ => none
  | .mksp o r, E, _ => (setN E o .sp).bind fun E => onlyRt (evS tb r E 0)
  | .st2 o i j e r, E, n => So.of (evE tb e E n) fun x n => So.of (evE tb i E n) fun k n => So.of (evE tb j E n) fun l n => (muAt E o).bind fun t => (put2 t k l x).bind fun t => evS tb r (E.set o (some (.mu t))) n
  | .app o e r, E, n => if liAt (frz E (varOf e ++ consP e)) o then So.of (evE tb e (frz E (varOf e ++ consP e)) n) fun x n => (muAt (frz E (varOf e ++ consP e)) o).bind fun t => (appT t x).bind fun t => evS tb r ((frz E (varOf e ++ consP e)).set o (some (.mu t))) n else none
  | .app2 o i e r, E, n => So.of (evE tb i E n) fun k n => So.of (evE tb e E n) fun x n => (muAt E o).bind fun t => (app2T t k x).bind fun t => evS tb r (E.set o (some (.mu t))) n
  | .ext o e r, E, n => if liAt (frz E (consP e)) o then So.of (evE tb e (frz E (consP e)) n) fun x n => (muAt (frz E (consP e)) o).bind fun t => (extT t x).bind fun t => evS tb r ((frz E (consP e)).set o (some (.mu t))) n else none
  | .add o e r, E, n => So.of (evE tb e E n) fun x n => (muAt E o).bind fun t => (addT t x).bind fun t => evS tb r (E.set o (some (.mu t))) n
  | .pop tg o r, E, n => (muAt E o).bind fun t => match t with
    | .li (x :: xs) => (bindT (E.set o (some (.mu (.li (x :: xs).dropLast)))) tg (.im ((x :: xs).getLast (List.cons_ne_nil x xs)))).bind fun E => evS tb r E n
    | _ => none
  | .apop o p e r, E, n => if o ≠ p ∧ liAt E o = true ∧ liAt E p = true then So.of (evE tb e E n) fun k n => match muAt E p, muAt E o, opInt k with
    | some (.li xs), some (.li ys), some i => (ixN xs.length i).bind fun j => (xs[j]?).bind fun d => if xs.length ≤ cap ∧ ys.length < cap then evS tb r ((E.set p (some (.mu (.li (xs.eraseIdx j))))).set o (some (.mu (.li (ys ++ [d]))))) n else none
    | _, _, _ => none else none
  | .aug o e r, E, n => match E[o]? with
    | some (some (.im (.int i))) => So.of (evE tb e E n) fun x n => (opInt x).bind fun j => evS tb r (E.set o (some (.im (.int (i + j))))) n
    | _ => none
  | .lpop o e r, E, n => if liAt E o = true then So.of (evE tb e E n) fun k n => match muAt E o, opInt k with
    | some (.li xs), some i => (ixN xs.length i).bind fun j => if xs.length ≤ cap then evS tb r (E.set o (some (.mu (.li (xs.eraseIdx j))))) n else none
    | _, _ => none else none
  | .ins o i e r, E, n => if liAt (frz E (varOf e ++ consP e)) o then So.of (evE tb i (frz E (varOf e ++ consP e)) n) fun k n => So.of (evE tb e (frz E (varOf e ++ consP e)) n) fun x n => match muAt (frz E (varOf e ++ consP e)) o, opInt k, x.fix with
    | some (.li xs), some j, some d => if 0 ≤ j ∧ j < 2 ^ 63 ∧ xs.length < cap then evS tb r ((frz E (varOf e ++ consP e)).set o (some (.mu (.li (xs.take j.toNat ++ [d] ++ xs.drop j.toNat))))) n else none
    | _, _, _ => none else none
  | .rot o e r, E, n => if liAt E o = true then So.of (evE tb e E n) fun k n => match muAt E o, opInt k with
    | some (.li xs), some i => (ixN xs.length i).bind fun j => (xs[j]?).bind fun d => if xs.length < cap then evS tb r (E.set o (some (.mu (.li (xs.eraseIdx j ++ [d]))))) n else none
    | _, _ => none else none
  | .sdef o k e r, E, n => So.of (evE tb k E n) fun k n => So.of (evE tb e E n) fun x n => (muAt E o).bind fun t => (sdefT t k x).bind fun t => evS tb r (E.set o (some (.mu t))) n
  | .dpop o k r, E, n => So.of (evE tb k E n) fun k n => (muAt E o).bind fun t => (dpopT t k).bind fun t => evS tb r (E.set o (some (.mu t))) n
  | .ret e, E, n => So.of (evE tb e (frz E (varOf e ++ consP e)) n) fun x n => (retD x).map fun d => .rt d n
  | .ife c a b r, E, n => So.of (evT tb c E n) fun k n => So.then (if k then evS tb a E n else evS tb b E n) fun E n => evS tb r E n
  | .whl fuel c b r, E, n => So.then (loopW (fun E n => evT tb c E n) (fun E n => evS tb b E n) fuel E n) fun E n => evS tb r E n
  | .forr tg it b r, E, n => So.of (evW tb true it (frz E (match it with | .itr (.var i) => [i] | .itr a => consP a | .zip a b => varOf a ++ varOf b | .enum a => varOf a | .enus a _ => varOf a | _ => [])) n) fun xs n =>
      So.then (loopS (fun x E n => (bindT E tg (.im x)).bind fun E => evS tb b E n) xs (frz E (match it with | .itr (.var i) => [i] | .itr a => consP a | .zip a b => varOf a ++ varOf b | .enum a => varOf a | .enus a _ => varOf a | _ => [])) n) fun E n => evS tb r E n
  | .brk, E, n => some (.bk E n)
  | .cnt, E, n => some (.ct E n)
  | .rse c e, E, n => if (tb.cl c).isSome then So.of (evE tb e (frz E (varOf e ++ consP e)) n) fun x n => (retD x).map fun d => .ex c d n else none
  | .rs0 c, _, n => if tb.c0 c then some (.ex c .none n) else none
  | .tryx b cb o ct, E, n => if (tb.ix cb cb).isSome then match evS tb b E n with
    | some (.rt d n) => some (.rt d n)
    | some (.ex c d n) => if tb.ix c cb = some true ∧ o < E.length then (tb.ix c ct).map fun r => .rt (.bool r) n else none
    | _ => none else none
  | .tryr e c t o f, E, n => if tb.cl c = some f then match evE tb e (frz E (varOf e ++ consP e)) n with
    | some (.ok x n) => (retD x).map fun d => .rt d n
    | some (.ex c' d n) => if c' = c ∧ o < E.length then some (.rt (.tuple [.str t, d]) n) else none
    | none => none else none
/-- a def's body upon its arguments; the moving place stands at pos -/
def entry (pos : Option Nat) : Nat → List D → En
  | _, [] => []
  | k, d :: ds => (if pos = some k then some .sp else some (.im d)) :: entry pos (k + 1) ds
def runD (tb : Tb) (b : S) (pos : Option Nat) (size : Nat) (ds : List D) (n : Int) : M D :=
  match evS tb b (entry pos 0 ds ++ List.replicate (size - ds.length) none) n with
  | some (.rt d n) => some (.ok d n)
  | some (.nx _ n) => some (.ok .none n)
  | some (.ex c d n) => some (.ex c d n)
  | _ => none
end Lk
end
section
set_option linter.all false
set_option maxRecDepth 100000
set_option maxHeartbeats 1000000
/-! Sorting does not see the sequence in which different things stood. -/
namespace Lk
open PySem PySem.Spec PyProof.Rows L2
mutual
theorem eqv_nk : ∀ {x y : D} {k l : NestedKey}, PyData.eqv x y = true → nk x = some k → nk y = some l → k = l
  | .none, y, k, l, h, a, b => by
    cases y <;> first | (simp [PyData.eqv] at h; done) | skip
    simp [nk] at a b; rw [← a, ← b]
  | .bool p, y, k, l, h, a, b => by
    cases y <;> first | (simp [PyData.eqv] at h; done) | skip
    · simp [nk, PyData.eqv] at a b h; rw [← a, ← b, h]
    · simp [nk, PyData.eqv] at a b h; rw [← a, ← b, ← h]
  | .int i, y, k, l, h, a, b => by
    cases y <;> first | (simp [PyData.eqv] at h; done) | skip
    · simp [nk, PyData.eqv] at a b h; rw [← a, ← b, h]
    · simp [nk, PyData.eqv] at a b h; rw [← a, ← b, h]
  | .str z, y, k, l, h, a, b => by
    cases y <;> first | (simp [PyData.eqv] at h; done) | skip
    simp [nk, PyData.eqv] at a b h; rw [← a, ← b, h]
  | .tuple xs, y, k, l, h, a, b => by
    cases y <;> first | (simp [PyData.eqv] at h; done) | skip
    rename_i ys
    simp only [nk, Option.map_eq_some_iff] at a b
    obtain ⟨ks, a1, rfl⟩ := a
    obtain ⟨ls, b1, rfl⟩ := b
    rw [eqv_nks (by simpa [PyData.eqv] using h) a1 b1]
  | .list _, _, _, _, _, a, _ => by simp [nk] at a
  | .dict _, _, _, _, _, a, _ => by simp [nk] at a
theorem eqv_nks : ∀ {xs ys : List D} {ks ls : List NestedKey}, PyData.eqvAll xs ys = true → nks xs = some ks → nks ys = some ls → ks = ls
  | [], [], _, _, _, a, b => by simp [nks] at a b; rw [a, b]
  | [], _ :: _, _, _, h, _, _ => by simp [PyData.eqvAll] at h
  | _ :: _, [], _, _, h, _, _ => by simp [PyData.eqvAll] at h
  | x :: xs, y :: ys, ks, ls, h, a, b => by
    simp only [PyData.eqvAll, Bool.and_eq_true] at h
    unfold nks at a b
    split at a
    · rename_i k1 ks1 e1 e2
      split at b
      · rename_i l1 ls1 f1 f2
        cases a; cases b
        rw [eqv_nk h.1 e1 f1, eqv_nks h.2 e2 f2]
      · cases b
    · cases a
end
theorem toks_nk {x y : D} {k l : NestedKey} (h : PySem.W.alike x y = true) (e : PySem.W.keyToks x = PySem.W.keyToks y) (a : nk x = some k) (b : nk y = some l) : k = l := by
  cases q : PyData.eqv x y with
  | true => exact eqv_nk q a b
  | false =>
    have z := (PySem.W.toks_eqv x y h).2 q [] [.inl 0]
    rw [e, PySem.W.lex_pre] at z
    have z2 : PyProof.Rows.lexLt itemOrd (PySem.W.keyToks y) (PySem.W.keyToks y) = false := lex_irrefl (O := itemOrd) _
    rw [z2] at z
    cases z
theorem le_trans3 (a b c : D) (h : PySem.W.dataLe false id a b = true) (g : PySem.W.dataLe false id b c = true) : PySem.W.dataLe false id a c = true := by
  have e : ∀ x y : D, PySem.W.dataLe false id x y = !PyProof.Rows.lexLt itemOrd (PySem.W.keyToks y) (PySem.W.keyToks x) := fun x y => rfl
  rw [e, Bool.not_eq_true'] at h g ⊢
  cases q : PyProof.Rows.lexLt itemOrd (PySem.W.keyToks c) (PySem.W.keyToks a) with
  | false => rfl
  | true =>
    exfalso
    cases r : PyProof.Rows.lexLt itemOrd (PySem.W.keyToks a) (PySem.W.keyToks b) with
    | true =>
      have z := lex_trans (O := itemOrd) _ _ _ q r
      rw [g] at z; cases z
    | false =>
      have z := lex_total (O := itemOrd) _ _ h r
      rw [z] at g
      rw [g] at q; cases q
theorem le_total3 (a b : D) : (PySem.W.dataLe false id a b || PySem.W.dataLe false id b a) = true := by
  have e : ∀ x y : D, PySem.W.dataLe false id x y = !PyProof.Rows.lexLt itemOrd (PySem.W.keyToks y) (PySem.W.keyToks x) := fun x y => rfl
  rw [e, e]
  cases q : PyProof.Rows.lexLt itemOrd (PySem.W.keyToks b) (PySem.W.keyToks a) with
  | false => rfl
  | true =>
    cases r : PyProof.Rows.lexLt itemOrd (PySem.W.keyToks a) (PySem.W.keyToks b) with
    | false => rfl
    | true =>
      have z := lex_trans (O := itemOrd) _ _ _ q r
      rw [show PyProof.Rows.lexLt itemOrd (PySem.W.keyToks b) (PySem.W.keyToks b) = false from lex_irrefl (O := itemOrd) _] at z
      cases z
theorem le_anti {a b : D} (h : PySem.W.dataLe false id a b = true) (g : PySem.W.dataLe false id b a = true) : PySem.W.keyToks a = PySem.W.keyToks b := by
  have e : ∀ x y : D, PySem.W.dataLe false id x y = !PyProof.Rows.lexLt itemOrd (PySem.W.keyToks y) (PySem.W.keyToks x) := fun x y => rfl
  rw [e, Bool.not_eq_true'] at h g
  exact lex_total (O := itemOrd) _ _ g h
theorem nodup_key {xs : List D} (nd : (xs.map nk).Nodup) {a b : D} (ha : a ∈ xs) (hb : b ∈ xs) (e : nk a = nk b) : a = b := by
  induction xs with
  | nil => cases ha
  | cons x xs ih =>
    rw [List.map_cons, List.nodup_cons] at nd
    rcases List.mem_cons.mp ha with rfl | ha' <;> rcases List.mem_cons.mp hb with rfl | hb'
    · rfl
    · exact absurd (List.mem_map.mpr ⟨b, hb', e.symm⟩) nd.1
    · exact absurd (List.mem_map.mpr ⟨a, ha', e⟩) nd.1
    · exact ih nd.2 ha' hb'
theorem sortD_perm {xs ys : List D} (p : xs.Perm ys) (al : ∀ a ∈ xs, ∀ b ∈ xs, PySem.W.alike a b = true) (ky : ∀ a ∈ xs, (nk a).isSome = true) (nd : (xs.map nk).Nodup) : sortD xs = sortD ys := by
  unfold sortD
  refine List.Perm.eq_of_pairwise (le := fun a b => PySem.W.dataLe false id a b = true) (fun a b ha hb h1 h2 => ?_) (List.pairwise_mergeSort le_trans3 le_total3 xs) (List.pairwise_mergeSort le_trans3 le_total3 ys) ((List.mergeSort_perm xs _).trans (p.trans (List.mergeSort_perm ys _).symm))
  have ha' : a ∈ xs := (List.mergeSort_perm xs _).mem_iff.mp ha
  have hb' : b ∈ xs := p.mem_iff.mpr ((List.mergeSort_perm ys _).mem_iff.mp hb)
  obtain ⟨k, hk⟩ := Option.isSome_iff_exists.mp (ky a ha')
  obtain ⟨l, hl⟩ := Option.isSome_iff_exists.mp (ky b hb')
  have e := toks_nk (al a ha' b hb') (le_anti h1 h2) hk hl
  exact nodup_key nd ha' hb' (by rw [hk, hl, e])
theorem perm_pre {α β : Type} {f : α → β} : ∀ {vs us : List β}, vs.Perm us → ∀ l : List α, us = l.map f → ∃ l' : List α, l'.Perm l ∧ vs = l'.map f := by
  intro vs us p
  induction p with
  | nil => intro l h; exact ⟨l, .refl _, h⟩
  | cons x _ ih =>
    intro l h
    cases l with
    | nil => cases h
    | cons a l =>
      rw [List.map_cons] at h
      cases h
      obtain ⟨l', p', e⟩ := ih l rfl
      exact ⟨a :: l', p'.cons a, by rw [List.map_cons, e]⟩
  | swap x y _ =>
    intro l h
    match l, h with
    | a :: b :: l, h =>
      simp only [List.map_cons, List.cons.injEq] at h
      obtain ⟨rfl, rfl, rfl⟩ := h
      exact ⟨b :: a :: l, .swap a b l, rfl⟩
  | trans _ _ ih1 ih2 =>
    intro l h
    obtain ⟨l1, p1, e1⟩ := ih2 l h
    obtain ⟨l2, p2, e2⟩ := ih1 l1 e1
    exact ⟨l2, p2.trans p1, e2⟩
end Lk
end
section
set_option linter.all false
set_option maxRecDepth 100000
set_option maxHeartbeats 1000000
/-! What names and results stand for, and how that stays while the heap grows. -/
namespace Lk
open PySem PySem.Spec PyProof.Rows L2
def isFrz : HO → Bool
  | .frz _ _ => true
  | _ => false
/-- what F knows stands in H, as it is or locked -/
def FH (F H : Hp) : Prop := ∀ a u, F a = some u → H a = some u ∨ (isFrz u = false ∧ ∃ o, H a = some (.frz o u))
theorem FH.rd {F H : Hp} {a : Addr} {u : HO} (e : FH F H) (hu : isFrz u = false) (h : Rd F a u) : Rd H a u := by
  rcases h with h | ⟨o, h⟩
  · rcases e a _ h with z | ⟨_, o, z⟩
    · exact .inl z
    · exact .inr ⟨o, z⟩
  · rcases e a _ h with z | ⟨z, _⟩
    · exact .inr ⟨o, z⟩
    · cases z
theorem FH.l {K : KF} {F F' : Hp} {a : Addr} {xs : List V} (e : FH F F') (h : SqL K F a xs) : SqL K F' a xs := h.imp (e.rd rfl) id
theorem FH.t {K : KF} {F F' : Hp} {a : Addr} {xs : List V} (e : FH F F') (h : SqT K F a xs) : SqT K F' a xs := h.imp (e.rd rfl) id
theorem DN_frz {w : World} {a : Addr} {es} : isFrz (DN w a es) = false := rfl
theorem FH.d {w : World} {F F' : Hp} {a : Addr} {es : List (KE × V)} (e : FH F F') (h : DH w F a es) : DH w F' a es := by
  rcases h with ⟨kvs, h, q⟩ | ⟨xs, h, q⟩
  · exact .inl ⟨kvs, e.rd rfl h, q⟩
  · exact .inr ⟨xs, e.rd DN_frz h, q⟩
section
variable {w : World} {K : KF} {F F' : Hp}
mutual
theorem Rp.lift (e : FH F F') : ∀ {v : V} {d : D}, Rp w K F v d → Rp w K F' v d
  | _, _, .non => .non
  | _, _, .bl b => .bl b
  | _, _, .int i => .int i
  | _, _, .str x => .str x
  | _, _, .lst h r => .lst (e.l h) (RpA.lift e r)
  | _, _, .tup h r => .tup (e.t h) (RpA.lift e r)
  | _, _, .dct h r => .dct (e.d h) (RpE.lift e r)
  | _, _, .exo h1 h2 r => .exo (e.rd rfl h1) (e.rd rfl h2) (Rp.lift e r)
  | _, _, .exn h => .exn (e.rd rfl h)
theorem RpA.lift (e : FH F F') : ∀ {vs : List V} {ds : List D}, RpA w K F vs ds → RpA w K F' vs ds
  | _, _, .nil => .nil
  | _, _, .cons a b => .cons (Rp.lift e a) (RpA.lift e b)
theorem RpE.lift (e : FH F F') : ∀ {vs : List (KE × V)} {ds : List (D × D)}, RpE w K F vs ds → RpE w K F' vs ds
  | _, _, .nil => .nil
  | _, _, .cons a b c => .cons (RpK.lift e a) (Rp.lift e b) (RpE.lift e c)
theorem RpK.lift (e : FH F F') : ∀ {k : KE} {d : D}, RpK w K F k d → RpK w K F' k d
  | _, _, .num i => .num i
  | _, _, .text x => .text x
  | _, _, .tup a b c => .tup (Rp.lift e a) b c
end
end
/-- the heap has grown from H to H'; of it F' is what does not change from now on; sp: the moving place -/
structure Ext (sp : Option Addr) (F H F' H' : Hp) : Prop where
  sub : Sub F F'
  keep : ∀ a o, sp ≠ some a → H a = some o → H' a = some o
  own : ∀ a, H a ≠ none → F' a = F a
  there : ∀ a, H a ≠ none → H' a ≠ none
/-- the ghost state: F ⊆ H, all tuples are in F, the moving place holds n -/
structure Ok (sp : Option Addr) (F H : Hp) (n : Int) : Prop where
  sub : FH F H
  tup : ∀ a xs, H a = some (.tup xs) → F a = some (.tup xs)
  tupf : ∀ a o xs, H a = some (.frz o (.tup xs)) → F a = some (.frz o (.tup xs)) ∨ F a = some (.tup xs)
  spt : ∀ a, sp = some a → H a = some (.lst [.int n]) ∧ F a = none
section
variable {sp : Option Addr} {F H F' H' F'' H'' : Hp} {n n' : Int}
theorem Ext.refl (sp : Option Addr) (F H : Hp) : Ext sp F H F H := ⟨Sub.refl F, fun _ _ _ h => h, fun _ _ => rfl, fun _ h => h⟩
theorem Ext.trans (a : Ext sp F H F' H') (b : Ext sp F' H' F'' H'') : Ext sp F H F'' H'' :=
  ⟨a.sub.trans b.sub, fun x o hs h => b.keep x o hs (a.keep x o hs h), fun x h => (b.own x (a.there x h)).trans (a.own x h), fun x h => b.there x (a.there x h)⟩
theorem Ext.fresh (a : Ext sp F H F' H') {p : Addr} (h : H' p = none) : H p = none := by
  cases e : H p with
  | none => rfl
  | some o => exact absurd h (a.there p (by rw [e]; exact fun z => nomatch z))
theorem Ok.sne (k : Ok sp F H n) {p : Addr} (h : H p = none) : sp ≠ some p := fun e => by
  rw [(k.spt p e).1] at h; cases h
theorem Ok.fne (k : Ok sp F H n) {p : Addr} (h : H p = none) : F p = none := by
  cases e : F p with
  | none => rfl
  | some u =>
    rcases k.sub p u e with z | ⟨_, o, z⟩ <;> rw [h] at z <;> cases z
theorem upd_none {H : Hp} {p a : Addr} {o : HO} (h : H a ≠ none) : upd H p o a ≠ none := fun z => by
  unfold upd at z; split at z
  · cases z
  · exact h z
/-- a new object that never changes -/
theorem Ext.imm {p : Addr} {o : HO} (h : H p = none) (hF : F p = none) : Ext sp F H (upd F p o) (upd H p o) :=
  ⟨fun a u e => by rw [upd_ne (ne_of_none e hF)]; exact e, fun a u _ e => by rw [upd_ne (ne_of_none e h)]; exact e,
   fun a e => upd_ne fun z => by subst z; exact e h, fun a e => upd_none e⟩
/-- a new object that one name owns -/
theorem Ext.new {p : Addr} {o : HO} (h : H p = none) : Ext sp F H F (upd H p o) :=
  ⟨Sub.refl F, fun a u _ e => by rw [upd_ne (ne_of_none e h)]; exact e, fun _ _ => rfl, fun a e => upd_none e⟩
theorem Ok.imm {p : Addr} {o : HO} (k : Ok sp F H n) (h : H p = none) (hf : isFrz o = false) : Ok sp (upd F p o) (upd H p o) n := by
  refine ⟨fun a u e => ?_, fun a xs e => ?_, fun a ob xs e => ?_, fun a e => ?_⟩
  · by_cases z : a = p
    · subst z; rw [upd_same] at e ⊢; exact .inl e
    · rw [upd_ne z] at e ⊢; exact k.sub a u e
  · by_cases z : a = p
    · subst z; rw [upd_same] at e ⊢; exact e
    · rw [upd_ne z] at e ⊢; exact k.tup a xs e
  · by_cases z : a = p
    · subst z; rw [upd_same] at e; cases e; cases hf
    · rw [upd_ne z] at e ⊢; exact k.tupf a ob xs e
  · obtain ⟨h1, h2⟩ := k.spt a e
    have z : a ≠ p := fun z => k.sne h (z ▸ e)
    rw [upd_ne z, upd_ne z]; exact ⟨h1, h2⟩
theorem Ok.new {p : Addr} {o : HO} (k : Ok sp F H n) (h : H p = none) (hf : isFrz o = false) (ht : ∀ xs, o ≠ .tup xs) : Ok sp F (upd H p o) n := by
  refine ⟨fun a u e => ?_, fun a xs e => ?_, fun a ob xs e => ?_, fun a e => ?_⟩
  · have z : a ≠ p := fun z => by subst z; rw [k.fne h] at e; cases e
    rw [upd_ne z]; exact k.sub a u e
  · by_cases z : a = p
    · subst z; rw [upd_same] at e; exact absurd (Option.some.inj e) (ht xs)
    · rw [upd_ne z] at e; exact k.tup a xs e
  · by_cases z : a = p
    · subst z; rw [upd_same] at e; cases e; cases hf
    · rw [upd_ne z] at e; exact k.tupf a ob xs e
  · obtain ⟨h1, h2⟩ := k.spt a e
    have z : a ≠ p := fun z => k.sne h (z ▸ e)
    rw [upd_ne z]; exact ⟨h1, h2⟩
theorem Ok.tups (k : Ok sp F H n) : ∀ {a : Addr} {xs : List V}, Rd H a (.tup xs) → Rd F a (.tup xs) := fun {a xs} h => by
  rcases h with h | ⟨o, h⟩
  · exact .inl (k.tup a xs h)
  · rcases k.tupf a o xs h with z | z
    · exact .inr ⟨o, z⟩
    · exact .inl z
end
section
variable {w : World} {K : KF} {sp : Option Addr} {F H : Hp} {n : Int}
mutual
theorem Rp.pureF (k : Ok sp F H n) : ∀ {v : V} {d : D}, Rp w K H v d → pur d = true → Rp w K F v d
  | _, _, .non, _ => .non
  | _, _, .bl b, _ => .bl b
  | _, _, .int i, _ => .int i
  | _, _, .str x, _ => .str x
  | _, _, .lst h r, n => by simp [pur] at n
  | _, _, .tup h r, n => .tup (h.imp k.tups id) (RpA.pureF k r (by simpa [pur] using n))
  | _, _, .dct h r, n => by simp [pur] at n
  | _, _, .exo _ _ _, n => by simp [pur] at n
  | _, _, .exn _, n => by simp [pur] at n
theorem RpA.pureF (k : Ok sp F H n) : ∀ {v : List V} {d : List D}, RpA w K H v d → purs d = true → RpA w K F v d
  | _, _, .nil, _ => .nil
  | _, _, .cons a b, n => by
    rw [purs, Bool.and_eq_true] at n
    exact .cons (Rp.pureF k a n.1) (RpA.pureF k b n.2)
end
end
/-! ### what is being made -/
/-- a dict that may be stored into -/
def DX (w : World) (H : Hp) (a : Addr) (es : List (KE × V)) : Prop :=
  (∃ kvs : List (Key × V), H a = some (.dK kvs) ∧ es = kvs.map fun p => (KE.s p.1, p.2)) ∨
  (∃ xs : List (NestedKey × Addr × V), H a = some (DN w a xs) ∧ es = xs.map fun p => (KE.t p.1 p.2.1, p.2.2))
theorem DX.dh {w : World} {H : Hp} {a : Addr} {es : List (KE × V)} (h : DX w H a es) : DH w H a es := h.imp (fun ⟨k, e, q⟩ => ⟨k, .inl e, q⟩) (fun ⟨k, e, q⟩ => ⟨k, .inl e, q⟩)
/-- entries whose values are objects of their own, at the addresses cs -/
inductive SubL (w : World) (K : KF) (F H : Hp) : List (KE × V) → List (D × List D) → List Addr → Prop
  | nil : SubL w K F H [] [] []
  | cons {k : KE} {c : Addr} {vs : List V} {es kd ds kvs cs} : RpK w K F k kd → H c = some (.lst vs) → RpA w K F vs ds → SubL w K F H es kvs cs → SubL w K F H ((k, .ref c) :: es) ((kd, ds) :: kvs) (c :: cs)
inductive SubD (w : World) (K : KF) (F H : Hp) : List (KE × V) → List (D × List (D × D)) → List Addr → Prop
  | nil : SubD w K F H [] [] []
  | cons {k : KE} {c : Addr} {vs : List (KE × V)} {es kd ds kvs cs} : RpK w K F k kd → DX w H c vs → RpE w K F vs ds → SubD w K F H es kvs cs → SubD w K F H ((k, .ref c) :: es) ((kd, ds) :: kvs) (c :: cs)
/-- a set's object: the keys of its members, and where their tuples stand -/
def SN (w : World) (a : Addr) (L : List (NestedKey × Addr)) : HO := .ext fun h => ∃ (es : Array (Int × Value)) (ep : Nat) (t : SetTable), (∃ o, h.get? a = some o ∧ o.ExactSet ∧ o.data = .set es ep t) ∧ es.toList = L.map (rowN w) ∧
  TabG t (L.map fun p => p.1.hash w) ∧ (L.map (·.1)).Nodup ∧ t.plain = true ∧ (w.params.followText "set-order" = true ∨ t.led = true) ∧ L.length * 5 < t.mask * 3
theorem SN_own {w : World} {a x : Addr} {L} : SN w a L ≠ .own x := fun z => by
  have z' : HO.ext _ = HO.own x := z
  cases z'
theorem SN_tup {w : World} {a : Addr} {L} {xs : List V} : SN w a L ≠ .tup xs := fun z => by
  have z' : HO.ext _ = HO.tup xs := z
  cases z'
theorem SN_frz {w : World} {a : Addr} {L} : isFrz (SN w a L) = false := rfl
theorem SN_mut {w : World} {a : Addr} {L} : Mut (some (SN w a L)) := True.intro
inductive KeyL (w : World) (K : KF) (F : Hp) : List (NestedKey × Addr) → List D → Prop
  | nil : KeyL w K F [] []
  | cons {k : NestedKey} {b : Addr} {d : D} {L ds} : RpK w K F (.t k b) d → numK k = true → KeyL w K F L ds → KeyL w K F ((k, b) :: L) (d :: ds)
theorem KeyL.mono {w : World} {K : KF} {F F' : Hp} (e : Sub F F') : ∀ {L : List (NestedKey × Addr)} {ds : List D}, KeyL w K F L ds → KeyL w K F' L ds
  | _, _, .nil => .nil
  | _, _, .cons a b c => .cons (a.mono e) b (KeyL.mono e c)
/-- the set at a has these members -/
def SetH (w : World) (K : KF) (F H : Hp) (a : Addr) (ds : List D) : Prop := ∃ L ds', H a = some (SN w a L) ∧ KeyL w K F L ds' ∧ ds'.Perm ds
inductive Ow (w : World) (K : KF) (F H : Hp) : V → OT → List Addr → Prop
  | li {a : Addr} {vs : List V} {ds : List D} : H a = some (.lst vs) → RpA w K F vs ds → Ow w K F H (.ref a) (.li ds) [a]
  | di {a : Addr} {es : List (KE × V)} {ds : List (D × D)} : DX w H a es → RpE w K F es ds → Ow w K F H (.ref a) (.di ds) [a]
  | dl {a : Addr} {es : List (KE × V)} {ds : List (D × List D)} {cs : List Addr} : DX w H a es → SubL w K F H es ds cs → Ow w K F H (.ref a) (.dl ds) (a :: cs)
  | dd {a : Addr} {es : List (KE × V)} {ds : List (D × List (D × D))} {cs : List Addr} : DX w H a es → SubD w K F H es ds cs → Ow w K F H (.ref a) (.dd ds) (a :: cs)
  | se {a : Addr} {ds : List D} : SetH w K F H a ds → Ow w K F H (.ref a) (.se ds) [a]
section
variable {w : World} {K : KF} {sp : Option Addr} {F H F' H' : Hp} {n : Int}
theorem rd_at {a : Addr} {u : HO} (h : Rd H a u) (k : ∀ o, H a = some o → H' a = some o) : Rd H' a u := by
  rcases h with h | ⟨o, h⟩
  · exact .inl (k _ h)
  · exact .inr ⟨o, k _ h⟩
theorem DH.at {a : Addr} {es : List (KE × V)} (h : DH w H a es) (k : ∀ o, H a = some o → H' a = some o) : DH w H' a es := by
  rcases h with ⟨kvs, h, q⟩ | ⟨xs, h, q⟩
  · exact .inl ⟨kvs, rd_at h k, q⟩
  · exact .inr ⟨xs, rd_at h k, q⟩
theorem DX.at {a : Addr} {es : List (KE × V)} (h : DX w H a es) (k : ∀ o, H a = some o → H' a = some o) : DX w H' a es := by
  rcases h with ⟨kvs, h, q⟩ | ⟨xs, h, q⟩
  · exact .inl ⟨kvs, k _ h, q⟩
  · exact .inr ⟨xs, k _ h, q⟩
theorem SubL.at (e : Sub F F') : ∀ {es : List (KE × V)} {kvs : List (D × List D)} {cs : List Addr}, SubL w K F H es kvs cs → (∀ a ∈ cs, ∀ o, H a = some o → H' a = some o) → SubL w K F' H' es kvs cs
  | _, _, _, .nil, _ => .nil
  | _, _, _, .cons a b c d, k => .cons (a.mono e) (k _ (List.mem_cons_self ..) _ b) (c.mono e) (SubL.at e d fun x hx => k x (List.mem_cons_of_mem _ hx))
theorem SubD.at (e : Sub F F') : ∀ {es : List (KE × V)} {kvs : List (D × List (D × D))} {cs : List Addr}, SubD w K F H es kvs cs → (∀ a ∈ cs, ∀ o, H a = some o → H' a = some o) → SubD w K F' H' es kvs cs
  | _, _, _, .nil, _ => .nil
  | _, _, _, .cons a b c d, k => .cons (a.mono e) (b.at (k _ (List.mem_cons_self ..))) (c.mono e) (SubD.at e d fun x hx => k x (List.mem_cons_of_mem _ hx))
theorem Ow.at {v : V} {t : OT} {A : List Addr} (h : Ow w K F H v t A) (e : Sub F F') (k : ∀ a ∈ A, ∀ o, H a = some o → H' a = some o) : Ow w K F' H' v t A := by
  cases h with
  | li h1 h2 => exact .li (k _ (List.mem_cons_self ..) _ h1) (h2.mono e)
  | di h1 h2 => exact .di (h1.at (k _ (List.mem_cons_self ..))) (h2.mono e)
  | dl h1 h2 => exact .dl (h1.at (k _ (List.mem_cons_self ..))) (h2.at e fun x hx => k x (List.mem_cons_of_mem _ hx))
  | dd h1 h2 => exact .dd (h1.at (k _ (List.mem_cons_self ..))) (h2.at e fun x hx => k x (List.mem_cons_of_mem _ hx))
  | se h1 =>
    obtain ⟨L, ds', g1, g2, g3⟩ := h1
    exact .se ⟨L, ds', k _ (List.mem_cons_self ..) _ g1, g2.mono e, g3⟩
theorem Ow.ext {v : V} {t : OT} {A : List Addr} (h : Ow w K F H v t A) (e : Ext sp F H F' H') (hs : ∀ a ∈ A, sp ≠ some a) : Ow w K F' H' v t A :=
  h.at e.sub fun a ha o => e.keep a o (hs a ha)
theorem SubL.rpe (e : FH F H) : ∀ {es : List (KE × V)} {kvs : List (D × List D)} {cs : List Addr}, SubL w K F H es kvs cs → RpE w K H es (kvs.map fun p => (p.1, .list p.2))
  | _, _, _, .nil => .nil
  | _, _, _, .cons a b c d => .cons (a.lift e) (.lst (.inl (.inl b)) (c.lift e)) (SubL.rpe e d)
theorem SubD.rpe (e : FH F H) : ∀ {es : List (KE × V)} {kvs : List (D × List (D × D))} {cs : List Addr}, SubD w K F H es kvs cs → RpE w K H es (kvs.map fun p => (p.1, .dict p.2))
  | _, _, _, .nil => .nil
  | _, _, _, .cons a b c d => .cons (a.lift e) (.dct b.dh (c.lift e)) (SubD.rpe e d)
/-- as data, read now -/
theorem Ow.dat {v : V} {t : OT} {A : List Addr} {d : D} (h : Ow w K F H v t A) (e : FH F H) (hd : t.dat = some d) : Rp w K H v d := by
  cases h with
  | li h1 h2 => cases hd; exact .lst (.inl (.inl h1)) (h2.lift e)
  | di h1 h2 => cases hd; exact .dct h1.dh (h2.lift e)
  | dl h1 h2 => cases hd; exact .dct h1.dh (h2.rpe e)
  | dd h1 h2 => cases hd; exact .dct h1.dh (h2.rpe e)
  | se h1 => cases hd
/-- what H has at A does not change from now on -/
def fzH (F H : Hp) (A : List Addr) : Hp := fun a => if a ∈ A then H a else F a
theorem fz_in {A : List Addr} {a : Addr} (h : a ∈ A) : fzH F H A a = H a := if_pos h
theorem fz_out {A : List Addr} {a : Addr} (h : a ∉ A) : fzH F H A a = F a := if_neg h
theorem fz_sub {A : List Addr} (h : ∀ a ∈ A, F a = none) : Sub F (fzH F H A) := fun a o e => by
  rw [fz_out fun z => by rw [h a z] at e; cases e]; exact e
theorem Ow.fz {v : V} {t : OT} {A : List Addr} {d : D} (h : Ow w K F H v t A) (hA : ∀ a ∈ A, F a = none) (hd : t.dat = some d) : Rp w K (fzH F H A) v d := by
  have e := fz_sub (H := H) hA
  have k : ∀ a ∈ A, ∀ o, H a = some o → fzH F H A a = some o := fun a ha o z => by rw [fz_in ha]; exact z
  have g := h.at (H' := fzH F H A) e k
  exact g.dat (fun a u z => .inl z) hd
end
/-! ### results and names -/
/-- all but the moving place -/
def Hm (sp : Option Addr) (H : Hp) : Hp := fun a => if sp = some a then none else H a
theorem hm_ne {sp : Option Addr} {H : Hp} {a : Addr} (h : sp ≠ some a) : Hm sp H a = H a := if_neg h
theorem hm_sub {sp : Option Addr} {H : Hp} : Sub (Hm sp H) H := fun a o e => by
  unfold Hm at e; split at e
  · cases e
  · exact e
theorem Ok.hm {sp : Option Addr} {F H : Hp} {n : Int} (k : Ok sp F H n) : FH F (Hm sp H) := fun a u e => by
  have z : sp ≠ some a := fun z => by rw [(k.spt a z).2] at e; cases e
  rw [hm_ne z]; exact k.sub a u e
theorem Ext.hm {sp : Option Addr} {F H F' H' : Hp} (e : Ext sp F H F' H') : Sub (Hm sp H) (Hm sp H') := fun a o h => by
  have z : sp ≠ some a := fun z => by unfold Hm at h; rw [if_pos z] at h; cases h
  rw [hm_ne z] at h ⊢; exact e.keep a o z h
inductive RRel (w : World) (K : KF) (sp : Option Addr) (F H : Hp) : V → R → List Addr → Prop
  | im {v : V} {d : D} : Rp w K F v d → RRel w K sp F H v (.im d) []
  | fr {v : V} {t : OT} {A : List Addr} : Ow w K F H v t A → (∀ a ∈ A, F a = none ∧ H a ≠ none ∧ sp ≠ some a) → A.Nodup → RRel w K sp F H v (.fr t) A
  | bw {v : V} {t : OT} {A : List Addr} : Ow w K F H v t A → (∀ a ∈ A, sp ≠ some a) → RRel w K sp F H v (.bw t) []
  | bo {v : V} {d : D} : Rp w K (Hm sp H) v d → RRel w K sp F H v (.bo d) []
  | sp {a : Addr} : sp = some a → RRel w K sp F H (.ref a) .sp []
/-- how an expression ends -/
def PostE (w : World) (K : KF) (sp : Option Addr) (F H : Hp) (r : R) (n' : Int) (v : V) (F' H' : Hp) : Prop :=
  Ext sp F H F' H' ∧ Ok sp F' H' n' ∧ ∃ A, RRel w K sp F' H' v r A ∧ ∀ a ∈ A, H a = none
inductive BRel (w : World) (K : KF) (sp : Option Addr) (F H : Hp) : V → B → List Addr → Prop
  | im {v : V} {d : D} : Rp w K F v d → BRel w K sp F H v (.im d) []
  | mu {v : V} {t : OT} {A : List Addr} : Ow w K F H v t A → A.Nodup → BRel w K sp F H v (.mu t) A
  | sp {a : Addr} : sp = some a → BRel w K sp F H (.ref a) .sp []
structure EnvRel (w : World) (K : KF) (sp : Option Addr) (F H : Hp) (E : En) (σ : L2.St) (fp : Nat → List Addr) : Prop where
  len : σ.length = E.length
  rel : ∀ i b, E[i]? = some (some b) → ∃ v, σ[i]? = some (some v) ∧ BRel w K sp F H v b (fp i)
  out : ∀ i, ∀ a ∈ fp i, F a = none ∧ H a ≠ none ∧ sp ≠ some a
  dis : ∀ i j, i ≠ j → ∀ a ∈ fp i, a ∉ fp j
section
variable {w : World} {K : KF} {sp : Option Addr} {F H F' H' : Hp} {n n' : Int} {E : En} {σ : L2.St} {fp : Nat → List Addr}
theorem EnvRel.ext (h : EnvRel w K sp F H E σ fp) (e : Ext sp F H F' H') : EnvRel w K sp F' H' E σ fp where
  len := h.len
  rel := fun i b hb => by
    obtain ⟨v, hv, r⟩ := h.rel i b hb
    refine ⟨v, hv, ?_⟩
    have ho := h.out i
    generalize fp i = A at r ho ⊢
    cases r with
    | im r => exact .im (r.mono e.sub)
    | mu r nd => exact .mu (r.ext e fun a ha => (ho a ha).2.2) nd
    | sp r => exact .sp r
  out := fun i a ha => by
    obtain ⟨h1, h2, h3⟩ := h.out i a ha
    exact ⟨by rw [e.own a h2]; exact h1, e.there a h2, h3⟩
  dis := h.dis
theorem RRel.ext {v : V} {r : R} {A : List Addr} (h : RRel w K sp F H v r A) (e : Ext sp F H F' H') : RRel w K sp F' H' v r A := by
  cases h with
  | im r => exact .im (r.mono e.sub)
  | fr r hF nd => exact .fr (r.ext e fun a ha => (hF a ha).2.2) (fun a ha => ⟨by rw [e.own a (hF a ha).2.1]; exact (hF a ha).1, e.there a (hF a ha).2.1, (hF a ha).2.2⟩) nd
  | bw r hs => exact .bw (r.ext e hs) hs
  | bo r => exact .bo (r.mono e.hm)
  | sp r => exact .sp r
/-- read as data -/
theorem RRel.rp {v : V} {r : R} {A : List Addr} {d : D} (h : RRel w K sp F H v r A) (k : Ok sp F H n) (hd : r.dat = some d) : Rp w K (Hm sp H) v d := by
  cases h with
  | im r => cases hd; exact r.lift k.hm
  | fr r hF nd => exact (r.at (H' := Hm sp H) (Sub.refl F) fun a ha o e => by rw [hm_ne (hF a ha).2.2]; exact e).dat k.hm hd
  | bw r hs => exact (r.at (H' := Hm sp H) (Sub.refl F) fun a ha o e => by rw [hm_ne (hs a ha)]; exact e).dat k.hm hd
  | bo r => cases hd; exact r
  | sp r => cases hd
theorem RRel.rpH {v : V} {r : R} {A : List Addr} {d : D} (h : RRel w K sp F H v r A) (k : Ok sp F H n) (hd : r.dat = some d) : Rp w K H v d := (h.rp k hd).mono hm_sub
end
end Lk
end
section
set_option linter.all false
set_option maxRecDepth 100000
set_option maxHeartbeats 1000000
/-! Operators, comparisons, parts: what the model gives is what the small language tells. -/
namespace Lk
open PySem PySem.Spec PyProof.Rows L2
/-! ### readings by meaning -/
def semO (X : Cx) (f : Value → Value → Sem Value) : R2 := fun x y H Q => ∀ (pins : List (Addr × Obj)) (s : Shared) (σ : L2.St) (v u : Value), Inv X pins σ H s → RelV x v → RelV y u →
  wpAny (model X.prog X.w) X.A (f v u) (EP X pins σ Q) X.xe s
theorem semO_op {X : Cx} {f : Value → Value → Sem Value} : OpR X f (semO X f) := fun pins s σ H x y v u Q I r1 r2 h => h pins s σ v u I r1 r2
theorem semO_of {X : Cx} {f : Value → Value → Sem Value} {r : R2} (o : OpR X f r) {x y : V} {H : Hp} {Q : VK} (h : r x y H Q) : semO X f x y H Q := fun pins s σ v u I r1 r2 => o pins s σ H x y v u Q I r1 r2 h
def semC (X : Cx) (f : Value) : List V → Hp → VK → Prop := fun xs H Q => ∀ (pins : List (Addr × Obj)) (s : Shared) (σ : L2.St) (us : List Value), Inv X pins σ H s → Vals xs us →
  wpAny (model X.prog X.w) X.A (call f us) (EP X pins σ Q) X.xe s
theorem semC_op {X : Cx} {f : Value} : CallR X f (semC X f) := fun pins s σ H xs us Q I r h => h pins s σ us I r
theorem semC_of {X : Cx} {f : Value} {r : List V → Hp → VK → Prop} (o : CallR X f r) {xs : List V} {H : Hp} {Q : VK} (h : r xs H Q) : semC X f xs H Q := fun pins s σ us I rr => o pins s σ H xs us Q I rr h
def semI (X : Cx) : R2 := fun x y H Q => ∀ (value slice : Expr) (pins : List (Addr × Obj)) (s : Shared) (σ : L2.St) (v u : Value), Inv X pins σ H s → RelV x v → RelV y u →
  subscripted slice false v u = operate [v, u] (getItem v u) → wpAny (model X.prog X.w) X.A (subscriptTail value slice v u) (EP X pins σ Q) X.xe s
theorem semI_op {X : Cx} : IxR X (semI X) := fun value slice pins s σ H x y v u Q I r1 r2 h hs => h value slice pins s σ v u I r1 r2 hs
theorem semI_of {X : Cx} {r : R2} (o : IxR X r) {x y : V} {H : Hp} {Q : VK} (h : r x y H Q) : semI X x y H Q := fun value slice pins s σ v u I r1 r2 hs => o value slice pins s σ H x y v u Q I r1 r2 h hs
def semS (X : Cx) : V → Option Int → Option Int → Hp → VK → Prop := fun x lo hi H Q => ∀ (pins : List (Addr × Obj)) (s : Shared) (σ : L2.St) (v vl vu : Value) (sl : Addr), Inv X pins σ H s → RelV x v →
  s.heap.IsSliceOf sl vl vu Value.none → IsPart vl lo → IsPart vu hi →
  ∃ T id, typeLookup (Value.type T) (Str.ofString "__getitem__") = pure (some (Value.builtin id)) ∧ s.TypeIs v T ∧ wpAny (model X.prog X.w) X.A (getItem v (Value.ref sl)) (EP X pins σ Q) X.xe s
theorem semS_op {X : Cx} : SlR X (semS X) := fun pins s σ H x v vl vu lo hi sl Q I r hs p1 p2 h => h pins s σ v vl vu sl I r hs p1 p2
theorem semS_of {X : Cx} {r : V → Option Int → Option Int → Hp → VK → Prop} (o : SlR X r) {x : V} {lo hi : Option Int} {H : Hp} {Q : VK} (h : r x lo hi H Q) : semS X x lo hi H Q := fun pins s σ v vl vu sl I rr hs p1 p2 => o pins s σ H x v vl vu lo hi sl Q I rr hs p1 p2 h
/-! ### ends of an expression -/
section
variable {w : World} {K : KF} {sp : Option Addr} {F H F' H' : Hp} {n : Int}
theorem post_im (k : Ok sp F H n) {v : V} {d : D} (h : Rp w K F v d) : PostE w K sp F H (.im d) n v F H := ⟨Ext.refl sp F H, k, [], .im h, fun a z => nomatch z⟩
theorem post_bo (k : Ok sp F H n) {v : V} {d : D} (h : Rp w K (Hm sp H) v d) : PostE w K sp F H (.bo d) n v F H := ⟨Ext.refl sp F H, k, [], .bo h, fun a z => nomatch z⟩
theorem post_bw (k : Ok sp F H n) {v : V} {t : OT} {A : List Addr} (h : Ow w K F H v t A) (hs : ∀ a ∈ A, sp ≠ some a) : PostE w K sp F H (.bw t) n v F H := ⟨Ext.refl sp F H, k, [], .bw h hs, fun a z => nomatch z⟩
theorem post_int (k : Ok sp F H n) (i : Int) : PostE w K sp F H (.im (.int i)) n (.int i) F H := post_im k (.int i)
theorem post_bl (k : Ok sp F H n) (b : Bool) : PostE w K sp F H (.im (.bool b)) n (.bl b) F H := post_im k (.bl b)
theorem post_part (k : Ok sp F H n) {v : V} {d : D} {r : R} (h1 : r.kids = true → Rp w K F v d) (h2 : Rp w K (Hm sp H) v d) : PostE w K sp F H (part r d) n v F H := by
  unfold part
  by_cases hk : r.kids = true
  · rw [if_pos (by rw [hk]; rfl)]; exact post_im k (h1 hk)
  · by_cases hp : pur d = true
    · rw [if_pos (by rw [hp, Bool.or_true])]; exact post_im k ((h2.mono hm_sub).pureF k hp)
    · rw [if_neg (by rw [Bool.or_eq_true]; exact fun z => z.elim hk hp)]; exact post_bo k h2
/-- a new list -/
theorem post_li (k : Ok sp F H n) {p : Addr} (hp : H p = none) {vs : List V} {ds : List D} (h : RpA w K F vs ds) : PostE w K sp F H (.fr (.li ds)) n (.ref p) F (upd H p (.lst vs)) :=
  ⟨Ext.new hp, k.new hp rfl (fun _ z => nomatch z), [p], .fr (.li upd_same h) (fun a ha => by
    rw [List.mem_singleton] at ha; subst ha
    exact ⟨k.fne hp, (by rw [upd_same]; intro z; cases z), k.sne hp⟩) (by simp), fun a ha => by rw [List.mem_singleton] at ha; subst ha; exact hp⟩
/-- a new tuple -/
theorem post_tup (k : Ok sp F H n) {p : Addr} (hp : H p = none) {vs : List V} {ds : List D} (h : RpA w K F vs ds) : PostE w K sp F H (.im (.tuple ds)) n (.ref p) (upd F p (.tup vs)) (upd H p (.tup vs)) :=
  have hF := k.fne hp
  ⟨Ext.imm hp hF, k.imm hp rfl, [], .im (.tup (.inl (.inl upd_same)) (h.mono fun a o e => by rw [upd_ne (ne_of_none e hF)]; exact e)), fun a z => nomatch z⟩
/-! ### what a result is, seen as a list, a tuple, a dict -/
theorem RRel.lstHm {v : V} {r : R} {A : List Addr} {xs : List D} (h : RRel w K sp F H v r A) (k : Ok sp F H n) (hd : r.dat = some (.list xs)) :
    ∃ a vs, v = .ref a ∧ SqL K (Hm sp H) a vs ∧ RpA w K (Hm sp H) vs xs ∧ ((r.kids || purs xs) = true → RpA w K F vs xs) := by
  cases h with
  | im q => cases hd; cases q with
    | lst q1 q2 => exact ⟨_, _, rfl, k.hm.l q1, q2.lift k.hm, fun _ => q2⟩
  | fr q hF nd => cases q with
    | li q1 q2 => cases hd; exact ⟨_, _, rfl, .inl (.inl (by rw [hm_ne (hF _ (List.mem_cons_self ..)).2.2]; exact q1)), q2.lift k.hm, fun _ => q2⟩
    | di _ _ => cases hd
    | dl _ _ => cases hd
    | dd _ _ => cases hd
    | se _ => cases hd
  | bw q hs => cases q with
    | li q1 q2 => cases hd; exact ⟨_, _, rfl, .inl (.inl (by rw [hm_ne (hs _ (List.mem_cons_self ..))]; exact q1)), q2.lift k.hm, fun _ => q2⟩
    | di _ _ => cases hd
    | dl _ _ => cases hd
    | dd _ _ => cases hd
    | se _ => cases hd
  | bo q => cases hd; cases q with
    | lst q1 q2 => exact ⟨_, _, rfl, q1, q2, fun z => (q2.mono hm_sub).pureF k (by simpa [R.kids] using z)⟩
  | sp _ => cases hd
theorem RRel.lst {v : V} {r : R} {A : List Addr} {xs : List D} (h : RRel w K sp F H v r A) (k : Ok sp F H n) (hd : r.dat = some (.list xs)) :
    ∃ a vs, v = .ref a ∧ SqL K H a vs ∧ RpA w K (Hm sp H) vs xs ∧ ((r.kids || purs xs) = true → RpA w K F vs xs) := by
  obtain ⟨a, vs, e, h1, h2, h3⟩ := h.lstHm k hd
  exact ⟨a, vs, e, Sub.l hm_sub h1, h2, h3⟩
theorem RRel.tup {v : V} {r : R} {A : List Addr} {xs : List D} (h : RRel w K sp F H v r A) (k : Ok sp F H n) (hd : r.dat = some (.tuple xs)) :
    ∃ a vs, v = .ref a ∧ SqT K F a vs ∧ RpA w K (Hm sp H) vs xs ∧ ((r.kids || purs xs) = true → RpA w K F vs xs) := by
  cases h with
  | im q => cases hd; cases q with
    | tup q1 q2 => exact ⟨_, _, rfl, q1, q2.lift k.hm, fun _ => q2⟩
  | fr q hF nd => cases q <;> cases hd
  | bw q hs => cases q <;> cases hd
  | bo q => cases hd; cases q with
    | tup q1 q2 => exact ⟨_, _, rfl, q1.imp (fun z => k.tups (hm_sub.rd z)) id, q2, fun z => (q2.mono hm_sub).pureF k (by simpa [R.kids] using z)⟩
  | sp _ => cases hd
theorem RRel.int {v : V} {r : R} {A : List Addr} {i : Int} (h : RRel w K sp F H v r A) (k : Ok sp F H n) (hd : r.dat = some (.int i)) : v = .int i := by
  have g := h.rp k hd
  cases g; rfl
theorem RRel.bool {v : V} {r : R} {A : List Addr} {i : Bool} (h : RRel w K sp F H v r A) (k : Ok sp F H n) (hd : r.dat = some (.bool i)) : v = .bl i := by
  have g := h.rp k hd
  cases g; rfl
theorem RRel.text {v : V} {r : R} {A : List Addr} {i : Str} (h : RRel w K sp F H v r A) (k : Ok sp F H n) (hd : r.dat = some (.str i)) : v = .str i := by
  have g := h.rp k hd
  cases g; rfl
end
theorem cap_le {n : Nat} (h : n ≤ cap) : n ≤ sizeLine := Nat.le_trans h (by decide)
theorem cap_lt {n : Nat} (h : n < cap) : n < sizeLine := Nat.lt_of_lt_of_le h (by decide)
/-! ### arithmetic -/
def bop : BOp → Operator
  | .add => .Add
  | .sub => .Sub
  | .mul => .Mult
  | .fdv => .FloorDiv
  | .mod => .Mod
  | .pow => .Pow
section
variable {X : Cx} {sp : Option Addr} {F H : Hp} {n : Int} {x y : V} {Q : VK}
/-- + of two lists that are read -/
theorem op_catR : OpR X (binaryOp .Add) (fun x y H Q => ∃ l b xs zs, x = .ref l ∧ y = .ref b ∧ SqL X.K H l xs ∧ SqL X.K H b zs ∧ xs.length + zs.length ≤ sizeLine ∧ ∀ p, H p = none → Q (.ref p) (upd H p (.lst (xs ++ zs)))) := by
  intro pins s σ H x y v u Q I rx ry h
  obtain ⟨l, b, xs, zs, rfl, rfl, hH, hB, hz, q⟩ := h
  cases rx
  cases ry
  obtain ⟨its, r, pl, z⟩ := I.list hH
  obtain ⟨its2, r2, pl2, z2⟩ := I.list hB
  have hl := r.length
  have hl2 := r2.length
  obtain ⟨⟨c1, d1, t1, s1⟩, e1, hc, n1, hd⟩ := pl.isList
  obtain ⟨⟨c2, d2, t2, s2⟩, e2, hc2, n2, hd2⟩ := pl2.isList
  simp only at hc hd hc2 hd2
  subst hc hd hc2 hd2
  have ea : its.toArray ++ its2.toArray = (its ++ its2).toArray := by simp
  have done : ∃ v' H', Inv X pins σ H' { s with heap := s.heap.push { cls := .type "list", data := .seq (its ++ its2).toArray } } ∧ RelV v' (Value.ref s.heap.objs.size) ∧ Q v' H' :=
    ⟨.ref _, _, I.lnew (t' := s.toks) (r.append r2) (by rw [List.length_append]; omega), rfl, q _ I.fresh⟩
  refine concat_meets ⟨_, e1, rfl⟩ ⟨_, e2, rfl⟩ noFill_list_add seq_list_add PySem.F.slot_list_add PySem.F.entry_list_add (PySem.F.args_list_add_2 _ _)
    (list_addW l b its.toArray its2.toArray n1 n2 d1 d2 s1 s2 (by rw [List.size_toArray, List.size_toArray]; omega)) ⟨e1, e2, ?_⟩
  rw [ea]
  exact done
theorem binI_ok {op : BOp} {i j z : Int} (hz : binI op i j = some z) (q : Q (.int z) H) : semO X (binaryOp (bop op)) (.int i) (.int j) H Q := by
  cases op with
  | add => cases hz; exact semO_of op_add ⟨_, _, rfl, rfl, q⟩
  | sub => cases hz; exact semO_of op_sub ⟨_, _, rfl, rfl, q⟩
  | mul =>
    simp only [binI] at hz
    split at hz
    · rename_i hm
      cases hz
      unfold mulOk at hm
      rw [Bool.or_eq_true, decide_eq_true_eq, decide_eq_true_eq] at hm
      rcases hm with hm | hm
      · exact semO_of op_mul ⟨_, _, rfl, rfl, hm, q⟩
      · exact semO_of op_mulX ⟨_, _, rfl, rfl, by unfold CMulX; omega, q⟩
    · cases hz
  | fdv =>
    simp only [binI] at hz
    split at hz
    · rename_i hm
      cases hz
      obtain ⟨h0, h1 | ⟨h1, h2⟩⟩ := hm
      · exact semO_of op_fdivN ⟨_, _, rfl, rfl, ⟨h0, h1⟩, q⟩
      · rw [Int.fdiv_eq_ediv_of_nonneg _ (Int.le_of_lt h1)] at q
        exact semO_of op_fdivW ⟨_, _, rfl, rfl, ⟨h1, h2⟩, q⟩
    · cases hz
  | mod =>
    simp only [binI] at hz
    split at hz
    · rename_i hm
      cases hz
      exact semO_of op_modN ⟨_, _, rfl, rfl, hm, q⟩
    · cases hz
  | pow =>
    simp only [binI] at hz
    split at hz
    · rename_i hm
      cases hz
      exact semO_of op_pow ⟨_, _, rfl, rfl, hm, q⟩
    · cases hz
theorem foldl_app_size (x : Array Nat) : ∀ (j : Nat) (a : Array Nat), ((List.replicate j x).foldl (· ++ ·) a).size = a.size + j * x.size
  | 0, a => by simp
  | j + 1, a => by
    rw [List.replicate_succ, List.foldl_cons, foldl_app_size x j, Array.size_append, Nat.succ_mul]; omega
theorem repS_len (x : Str) (j : Nat) : (repS x j).length = j * x.length := by
  show ((List.replicate j x.cps).foldl (· ++ ·) #[]).size = j * x.cps.size
  rw [foldl_app_size]; simp
theorem op_mul_str : OpR X (binaryOp .Mult) (fun x y H Q => ∃ i j, x = .str i ∧ y = .int j ∧ 1 < j ∧ 0 < i.length ∧ i.length * j.toNat ≤ 10000 ∧ Q (.str (repS i j.toNat)) H) := by
  intro pins s σ H x y v u Q I rx ry h
  obtain ⟨i, j, rfl, rfl, h1, h2, h3, q⟩ := h
  obtain ⟨t, rfl⟩ := rx
  obtain ⟨t', rfl⟩ := ry
  have hj : j.toNat ≤ 10000 := by
    have := Nat.mul_le_mul_right j.toNat h2
    omega
  have hs : sizeLine = sizeLine := rfl
  have hi : i.length ≤ 10000 := by
    have : 1 ≤ j.toNat := by omega
    have := Nat.mul_le_mul_left i.length this
    omega
  refine P.mul_str ?_ (fun _ _ => ?_) (fun _ _ => ?_) ?_
  · rw [decide_eq_false (by omega), decide_eq_false (by omega)]; rfl
  · have : (i.length : Int) ≤ (2 ^ 63 - 1) / j := by
      rw [Int.le_ediv_iff_mul_le (by omega)]
      have e : ((i.length * j.toNat : Nat) : Int) = (i.length : Int) * j := by
        rw [Int.natCast_mul, Int.toNat_of_nonneg (by omega)]
      omega
    omega
  · show decide (i.length * j.toNat > sizeLine) = false
    rw [decide_eq_false]
    show ¬ i.length * j.toNat > 16777216
    omega
  · have n1 : ¬ j < 1 := by omega
    have n2 : ¬ (j == 1 || i.length == 0) = true := by
      rw [Bool.or_eq_true, beq_iff_eq, beq_iff_eq]; omega
    rw [if_neg n1, if_neg n2]
    have hl : (repS i j.toNat).length ≤ 16777216 := by rw [repS_len, Nat.mul_comm]; omega
    exact ⟨hl, .str (repS i j.toNat), H, I.tok _, ⟨_, rfl⟩, q⟩
theorem opBin_ok {op : BOp} {a b r : R} {A B : List Addr} (k : Ok sp F H n) (ha : RRel X.w X.K sp F H x a A) (hb : RRel X.w X.K sp F H y b B) (h : opBin op a b = some r)
    (q : ∀ v F' H', PostE X.w X.K sp F H r n v F' H' → Q v H') : semO X (binaryOp (bop op)) x y H Q := by
  unfold opBin at h
  split at h
  · rename_i i j e1 e2
    rw [Option.map_eq_some_iff] at h
    obtain ⟨z, hz, rfl⟩ := h
    rw [ha.int k e1, hb.int k e2]
    exact binI_ok hz (q _ _ _ (post_int k z))
  · rename_i xs ys e1 e2
    split at h
    · rename_i hc
      cases h
      rw [Bool.and_eq_true, Bool.and_eq_true, decide_eq_true_eq] at hc
      obtain ⟨p, vs, rfl, h1, _, g1⟩ := ha.lst k e1
      obtain ⟨p2, vs2, rfl, h2, _, g2⟩ := hb.lst k e2
      refine semO_of op_catR ⟨_, _, _, _, rfl, rfl, h1, h2, ?_, fun p hp => q _ _ _ (post_li k hp ((g1 hc.1.1).append (g2 hc.1.2)))⟩
      rw [(g1 hc.1.1).length, (g2 hc.1.2).length]
      exact cap_le hc.2
    · cases h
  · rename_i xs ys e1 e2
    split at h
    · rename_i hc
      cases h
      rw [Bool.and_eq_true, Bool.and_eq_true, decide_eq_true_eq] at hc
      obtain ⟨p, vs, rfl, h1, _, g1⟩ := ha.tup k e1
      obtain ⟨p2, vs2, rfl, h2, _, g2⟩ := hb.tup k e2
      refine semO_of op_catA ⟨_, _, _, _, rfl, rfl, k.sub.t h1, k.sub.t h2, ?_, fun z => ?_, fun _ z => ?_, fun _ _ p hp => q _ _ _ (post_tup k hp ((g1 hc.1.1).append (g2 hc.1.2)))⟩
      · rw [(g1 hc.1.1).length, (g2 hc.1.2).length]
        exact cap_le hc.2
      · subst z
        have e := g1 hc.1.1
        cases e
        exact q _ _ _ (post_im k (.tup h2 (g2 hc.1.2)))
      · subst z
        have e := g2 hc.1.2
        cases e
        rw [List.append_nil] at q
        exact q _ _ _ (post_im k (.tup h1 (g1 hc.1.1)))
    · cases h
  · rename_i e1 e2
    split at h
    · rename_i hc
      cases h
      rw [ha.text k e1, hb.text k e2]
      exact semO_of op_add_str ⟨_, _, rfl, rfl, cap_le hc, q _ _ _ (post_im k (.str _))⟩
    · cases h
  · rename_i e1 e2
    split at h
    · rename_i hc
      cases h
      rw [ha.text k e1, hb.int k e2]
      exact semO_of op_mul_str ⟨_, _, rfl, rfl, hc.1, hc.2.1, hc.2.2, q _ _ _ (post_im k (.str _))⟩
    · cases h
  · cases h
end
end Lk
end
section
set_option linter.all false
set_option maxRecDepth 100000
set_option maxHeartbeats 1000000
/-! Dicts: asked, read, stored. -/
namespace Lk
open PySem PySem.Spec PyProof.Rows L2
def keq : KE → KE → Bool
  | .s a, .s b => decide (a = b)
  | .t a _, .t b _ => decide (a = b)
  | _, _ => false
def eget (es : List (KE × V)) (k : KE) : Option V := (es.find? fun p => keq p.1 k).map (·.2)
def keV : KE → V
  | .s k => kV k
  | .t _ b => .ref b
theorem nk_tup_of {d : D} {k : NestedKey} (h : nk d = some k) {w : World} {K : KF} {F : Hp} {b : Addr} (r : Rp w K F (.ref b) d) : ∃ ks, k = .tup ks := by
  cases r with
  | lst _ _ => simp [nk] at h
  | tup _ _ =>
    simp only [nk, Option.map_eq_some_iff] at h
    obtain ⟨ks, _, e⟩ := h
    exact ⟨ks, e.symm⟩
  | dct _ _ => simp [nk] at h
  | exo _ _ _ => simp [nk] at h
  | exn _ => simp [nk] at h
section
variable {w : World} {K : KF} {F F' : Hp}
theorem RpK.eq : ∀ {k k' : KE} {d d' : D}, RpK w K F k d → RpK w K F' k' d' → keq k k' = decide (nk d = nk d')
  | _, _, _, _, .num i, .num j => by simp [keq, nk, key_ll]
  | _, _, _, _, .num i, .text x => by simp [keq, nk]
  | _, _, _, _, .num i, .tup a e _ => by
    obtain ⟨ks, rfl⟩ := nk_tup_of e a
    rw [e]; simp [keq, nk]
  | _, _, _, _, .text x, .num j => by simp [keq, nk]
  | _, _, _, _, .text x, .text y => by simp [keq, nk]
  | _, _, _, _, .text x, .tup a e _ => by
    obtain ⟨ks, rfl⟩ := nk_tup_of e a
    rw [e]; simp [keq, nk]
  | _, _, _, _, .tup a e _, .num j => by
    obtain ⟨ks, rfl⟩ := nk_tup_of e a
    rw [e]; simp [keq, nk]
  | _, _, _, _, .tup a e _, .text j => by
    obtain ⟨ks, rfl⟩ := nk_tup_of e a
    rw [e]; simp [keq, nk]
  | _, _, _, _, .tup a e _, .tup a' e' _ => by
    rw [e, e']; simp [keq]
theorem RpE.get {ke : KE} {kd : D} (rk : RpK w K F' ke kd) : ∀ {es : List (KE × V)} {kds : List (D × D)}, RpE w K F es kds →
    (∃ v d, eget es ke = some v ∧ dget kds kd = some d ∧ Rp w K F v d) ∨ (eget es ke = none ∧ dget kds kd = none)
  | _, _, .nil => .inr ⟨rfl, rfl⟩
  | _, _, .cons (k := k) (v := v) (es := es) (kd := kd') (d := d) (ds := ds) a b c => by
    have e := RpK.eq a rk
    have ih := RpE.get rk c
    unfold eget dget at ih ⊢
    rw [List.find?_cons, List.find?_cons]
    dsimp only
    rw [e]
    cases h : decide (nk kd' = nk kd) with
    | true => exact .inl ⟨v, d, rfl, rfl, b⟩
    | false => exact ih
theorem dhas_get {kds : List (D × D)} {kd : D} : dhas kds kd = (dget kds kd).isSome := by
  induction kds with
  | nil => rfl
  | cons p r ih =>
    unfold dhas dget at ih ⊢
    rw [List.any_cons, List.find?_cons]
    cases h : decide (nk p.1 = nk kd) with
    | true => rfl
    | false => rw [Bool.false_or]; exact ih
theorem RpK.keyS {k : KE} {d : D} (h : RpK w K F k d) (hk : Lk.keyS d = true) : ∃ j, k = .s j ∧ keV k = kV j := by
  cases h with
  | num i => exact ⟨_, rfl, rfl⟩
  | text x => exact ⟨_, rfl, rfl⟩
  | tup a e _ =>
    obtain ⟨ks, rfl⟩ := nk_tup_of e a
    cases a <;> simp [Lk.keyS] at hk
theorem RpK.keyT {k : KE} {d : D} (h : RpK w K F k d) (hk : Lk.keyT d = true) : ∃ j b, k = .t j b ∧ Rp w K F (.ref b) d ∧ nk d = some j ∧ j.depth ≤ 8 := by
  cases h with
  | num i => simp [Lk.keyT] at hk
  | text x => simp [Lk.keyT] at hk
  | tup a e h8 => exact ⟨_, _, rfl, a, e, h8⟩
/-- the key that a value is -/
theorem key_of_data {v : V} {d : D} (h : Rp w K F v d) (hk : Lk.keyS d = true ∨ Lk.keyT d = true) : ∃ ke, RpK w K F ke d ∧ v = keV ke := by
  cases h with
  | non => simp [Lk.keyS, Lk.keyT] at hk
  | bl b => simp [Lk.keyS, Lk.keyT] at hk
  | int i => exact ⟨_, .num i, rfl⟩
  | str x => exact ⟨_, .text x, rfl⟩
  | lst _ _ => simp [Lk.keyS, Lk.keyT] at hk
  | dct _ _ => simp [Lk.keyS, Lk.keyT] at hk
  | exo _ _ _ => simp [Lk.keyS, Lk.keyT] at hk
  | exn _ => simp [Lk.keyS, Lk.keyT] at hk
  | @tup a xs ds h1 h2 =>
    rcases hk with hk | hk
    · simp [Lk.keyS] at hk
    · cases e : nk (.tuple ds) with
      | some k =>
        simp only [Lk.keyT, e, decide_eq_true_eq] at hk
        exact ⟨.t k a, .tup (.tup h1 h2) e hk, rfl⟩
      | none => simp [Lk.keyT, e] at hk
theorem keyOk_or {α : Type} {kds : List (D × α)} {kd : D} (h : keyOk kds kd = true) : (Lk.keyS kd = true ∧ ∀ p ∈ kds, Lk.keyS p.1 = true) ∨ (Lk.keyT kd = true ∧ ∀ p ∈ kds, Lk.keyT p.1 = true) := by
  unfold keyOk at h
  rw [Bool.or_eq_true, Bool.and_eq_true, Bool.and_eq_true, List.all_eq_true, List.all_eq_true] at h
  exact h
theorem RpE.allS : ∀ {es : List (KE × V)} {kds : List (D × D)}, RpE w K F es kds → (∀ p ∈ kds, Lk.keyS p.1 = true) → ∀ p ∈ es, ∃ k, p.1 = .s k
  | _, _, .nil, _ => fun p hp => nomatch hp
  | _, _, .cons a b c, h => fun p hp => by
    rcases List.mem_cons.mp hp with e | hp
    · subst e
      obtain ⟨j, e, _⟩ := a.keyS (h _ (List.mem_cons_self ..))
      exact ⟨j, e⟩
    · exact RpE.allS c (fun q hq => h q (List.mem_cons_of_mem _ hq)) p hp
theorem RpE.allT : ∀ {es : List (KE × V)} {kds : List (D × D)}, RpE w K F es kds → (∀ p ∈ kds, Lk.keyT p.1 = true) → ∀ p ∈ es, ∃ k b, p.1 = .t k b
  | _, _, .nil, _ => fun p hp => nomatch hp
  | _, _, .cons a b c, h => fun p hp => by
    rcases List.mem_cons.mp hp with e | hp
    · subst e
      obtain ⟨j, b, e, _⟩ := a.keyT (h _ (List.mem_cons_self ..))
      exact ⟨j, b, e⟩
    · exact RpE.allT c (fun q hq => h q (List.mem_cons_of_mem _ hq)) p hp
end
/-! ### the dict's object -/
section
variable {X : Cx} {pins : List (Addr × Obj)} {σ : L2.St} {H : Hp} {s : Shared} {a : Addr}
theorem Rd.okDN {es : List (NestedKey × Addr × V)} (I : Inv X pins σ H s) (h : Rd H a (DN X.w a es)) :
    (es.map (·.1)).Nodup ∧ es.length ≤ sizeLine ∧ (a == sysModules) = false ∧ ∃ xs : List (NestedKey × Addr × Value), Paired (fun (p : NestedKey × Addr × V) (q : NestedKey × Addr × Value) => p.1 = q.1 ∧ p.2.1 = q.2.1 ∧ RelV p.2.2 q.2.2) es xs ∧
    ∃ o ea ep, s.heap.get? a = some o ∧ o.ExactDict ∧ o.data = .dict ea ep ∧ ea.toList = xs.map fun x => (⟨x.1.hash X.w, .ref x.2.1, x.2.2⟩ : DictEntry) := by
  have q : ObjOk X.prog X.w H s.heap a (DN X.w a es) := L2.Rd.ok h I.hok
  exact q.1
/-- with numbers and texts as keys -/
theorem dmix {es : List (KE × V)} (I : Inv X pins σ H s) (h : DH X.w H a es) (hk : ∀ p ∈ es, ∃ k, p.1 = .s k) :
    es.length ≤ sizeLine ∧ (a == sysModules) = false ∧ ∃ (kvs : List (Key × V)) (vs : List (Key × Value)), es = kvs.map (fun p => (KE.s p.1, p.2)) ∧ KV kvs vs ∧ s.heap.DictOf (mixKind X.prog X.w) a vs := by
  rcases h with ⟨kvs, h, e⟩ | ⟨xs, h, e⟩
  · obtain ⟨z, hd, vs, rel, dd⟩ := dk_rd I.hok h
    exact ⟨by rw [e, List.length_map]; exact z, hd, kvs, vs, e, rel, dd⟩
  · cases xs with
    | cons x r =>
      obtain ⟨k, ek⟩ := hk (KE.t x.1 x.2.1, x.2.2) (by rw [e]; exact List.mem_cons_self ..)
      cases ek
    | nil =>
      obtain ⟨_, z, hd, ys, rel, o, ea, ep, h1, h2, h3, h4⟩ := Rd.okDN I h
      cases rel
      refine ⟨by rw [e]; exact z, hd, [], [], e, .nil, o, ea, ep, h1, h2, h3, fun x hx => ?_, ?_⟩
      · rw [← Array.mem_toList_iff, h4] at hx; cases hx
      · rw [h4]; exact ⟨.nil, List.nodup_nil⟩
/-- with tuples as keys -/
theorem dnst {es : List (KE × V)} {kds : List (D × D)} (I : Inv X pins σ H s) (h : DH X.w H a es) (r : RpE X.w X.K H es kds) (hk : ∀ p ∈ es, ∃ k b, p.1 = .t k b) :
    es.length ≤ sizeLine ∧ (a == sysModules) = false ∧ ∃ (xs : List (NestedKey × Addr × V)) (ys : List (NestedKey × Addr × Value)), es = xs.map (fun p => (KE.t p.1 p.2.1, p.2.2)) ∧ (xs.map (·.1)).Nodup ∧
      Paired (fun (p : NestedKey × Addr × V) (q : NestedKey × Addr × Value) => p.1 = q.1 ∧ p.2.1 = q.2.1 ∧ RelV p.2.2 q.2.2) xs ys ∧ s.heap.DictOfH (nestedKind X.prog X.w) a ys := by
  rcases h with ⟨kvs, h, e⟩ | ⟨xs, h, e⟩
  · cases kvs with
    | cons x r =>
      obtain ⟨k, b, ek⟩ := hk (KE.s x.1, x.2) (by rw [e]; exact List.mem_cons_self ..)
      cases ek
    | nil =>
      obtain ⟨z, hd, vs, rel, o, ea, ep, h1, h2, h3, h4, h5⟩ := dk_rd I.hok h
      cases rel
      refine ⟨by rw [e]; exact z, hd, [], [], e, List.nodup_nil, .nil, o, ea, ep, h1, h2, h3, ?_, fun x hx => (nomatch hx), List.nodup_nil⟩
      obtain ⟨hp, _⟩ := h5
      generalize ea.toList = l at hp
      cases hp
      rfl
  · obtain ⟨hn, z, hd, ys, rel, o, ea, ep, h1, h2, h3, h4⟩ := Rd.okDN I h
    refine ⟨by rw [e, List.length_map]; exact z, hd, xs, ys, e, hn, rel, o, ea, ep, h1, h2, h3, h4, ?_, ?_⟩
    · have all : ∀ {l : List (NestedKey × Addr × V)} {m : List (NestedKey × Addr × Value)} {kd : List (D × D)}, Paired (fun (p : NestedKey × Addr × V) (q : NestedKey × Addr × Value) => p.1 = q.1 ∧ p.2.1 = q.2.1 ∧ RelV p.2.2 q.2.2) l m →
          RpE X.w X.K H (l.map fun p => (KE.t p.1 p.2.1, p.2.2)) kd → ∀ x ∈ m, (nestedKind X.prog X.w).is s.heap x.1 x.2.1 := by
        intro l m kd q
        induction q generalizing kd with
        | nil => intro _ x hx; exact nomatch hx
        | @cons p q ps qs hq t ih =>
          intro re x hx
          cases re with
          | cons ra rb rc =>
            rcases List.mem_cons.mp hx with e | hx
            · subst e
              cases ra with
              | tup g1 g2 g3 =>
                rw [← hq.1, ← hq.2.1]
                exact ⟨Rp.key I g1 rfl g2, g3⟩
            · exact ih rc x hx
      subst e
      exact all rel r
    · have en : ∀ {l : List (NestedKey × Addr × V)} {m : List (NestedKey × Addr × Value)}, Paired (fun (p : NestedKey × Addr × V) (q : NestedKey × Addr × Value) => p.1 = q.1 ∧ p.2.1 = q.2.1 ∧ RelV p.2.2 q.2.2) l m → m.map (·.1) = l.map (·.1) := by
        intro l m q
        induction q with
        | nil => rfl
        | cons hq t ih => rw [List.map_cons, List.map_cons, ih, hq.1]
      rw [en rel]; exact hn
theorem eget_mix (kvs : List (Key × V)) (k : Key) : eget (kvs.map fun p => (KE.s p.1, p.2)) (.s k) = valV kvs k := by
  induction kvs with
  | nil => rfl
  | cons p r ih =>
    unfold eget valV at ih ⊢
    rw [List.map_cons, List.find?_cons, List.find?_cons]
    show Option.map _ (match decide (p.1 = k) with | true => _ | false => _) = _
    cases h : decide (p.1 = k) with
    | true => rfl
    | false => exact ih
theorem eget_nst {xs : List (NestedKey × Addr × V)} {ys : List (NestedKey × Addr × Value)} (rel : Paired (fun (p : NestedKey × Addr × V) (q : NestedKey × Addr × Value) => p.1 = q.1 ∧ p.2.1 = q.2.1 ∧ RelV p.2.2 q.2.2) xs ys) (k : NestedKey) (b : Addr) :
    RelO (eget (xs.map fun p => (KE.t p.1 p.2.1, p.2.2)) (.t k b)) ((atKey ys k).map (·.2)) := by
  induction rel with
  | nil => exact True.intro
  | @cons p q ps qs hq t ih =>
    unfold eget atKey at ih ⊢
    rw [List.map_cons, List.find?_cons, List.find?_cons]
    show RelO (Option.map _ (match decide (p.1 = k) with | true => _ | false => _)) _
    rw [hq.1]
    cases h : decide (q.1 = k) with
    | true => exact hq.2.2
    | false => exact ih
end
/-! ### rules -/
section
variable {X : Cx}
def rDIn (w : World) (K : KF) (neg : Bool) : R2 := fun x y H Q => ∃ a es kds ke kd, y = .ref a ∧ x = keV ke ∧ DH w H a es ∧ RpE w K H es kds ∧ RpK w K H ke kd ∧ keyOk kds kd = true ∧ Q (.bl (if neg then !dhas kds kd else dhas kds kd)) H
theorem get_some {w : World} {K : KF} {F F' : Hp} {ke : KE} {kd : D} {es : List (KE × V)} {kds : List (D × D)} (rk : RpK w K F' ke kd) (re : RpE w K F es kds) : (eget es ke).isSome = dhas kds kd := by
  rw [dhas_get]
  rcases re.get rk with ⟨v, d, e1, e2, _⟩ | ⟨e1, e2⟩ <;> rw [e1, e2] <;> rfl
theorem op_dIn (hu : X.A.units + 64 < cLine) : OpR X (compareOp .In) (rDIn X.w X.K false) := by
  intro pins s σ H x y v u Q I rx ry h
  obtain ⟨a, es, kds, ke, kd, rfl, rfl, hd, re, rk, hk, q⟩ := h
  cases ry
  rcases keyOk_or hk with ⟨h1, h2⟩ | ⟨h1, h2⟩
  · obtain ⟨z, hs, kvs, vs, e, rel, dd⟩ := dmix I hd (re.allS h2)
    obtain ⟨j, rfl, _⟩ := rk.keyS h1
    refine wpAny_in_of (kV_is rx) hs dd.mapOf ⟨.bl _, H, I.tok _, ?_, q⟩
    rw [← (rel.val j).isSome_eq, ← eget_mix, ← e, get_some rk re]; rfl
  · obtain ⟨z, hs, xs, ys, e, nd, rel, dd⟩ := dnst I hd re (re.allT h2)
    obtain ⟨j, b, rfl, g1, g2, g3⟩ := rk.keyT h1
    cases (show v = Value.ref b from rx)
    refine wpAny_in_heap (knd := nestedKind X.prog X.w) (by show X.A.units + 1 + 8 < cLine; omega) ⟨Rp.key I g1 rfl g2, g3⟩ hs dd ⟨.bl _, H, I.tok _, ?_, q⟩
    have q2 := (eget_nst rel j b).isSome_eq
    rw [Option.isSome_map, ← e, get_some rk re] at q2
    rw [← q2]; rfl
theorem op_dNotIn (hu : X.A.units + 64 < cLine) : OpR X (compareOp .NotIn) (rDIn X.w X.K true) := by
  intro pins s σ H x y v u Q I rx ry h
  obtain ⟨a, es, kds, ke, kd, rfl, rfl, hd, re, rk, hk, q⟩ := h
  cases ry
  rcases keyOk_or hk with ⟨h1, h2⟩ | ⟨h1, h2⟩
  · obtain ⟨z, hs, kvs, vs, e, rel, dd⟩ := dmix I hd (re.allS h2)
    obtain ⟨j, rfl, _⟩ := rk.keyS h1
    refine wpAny_notIn_of (kV_is rx) hs dd.mapOf ⟨.bl _, H, I.tok _, ?_, q⟩
    rw [← (rel.val j).isSome_eq, ← eget_mix, ← e, get_some rk re]; rfl
  · obtain ⟨z, hs, xs, ys, e, nd, rel, dd⟩ := dnst I hd re (re.allT h2)
    obtain ⟨j, b, rfl, g1, g2, g3⟩ := rk.keyT h1
    cases (show v = Value.ref b from rx)
    refine wpAny_notIn_heap (knd := nestedKind X.prog X.w) (by show X.A.units + 1 + 8 < cLine; omega) ⟨Rp.key I g1 rfl g2, g3⟩ hs dd ⟨.bl _, H, I.tok _, ?_, q⟩
    have q2 := (eget_nst rel j b).isSome_eq
    rw [Option.isSome_map, ← e, get_some rk re] at q2
    rw [← q2]; rfl
/-- d[k] -/
def rDGetD (w : World) (K : KF) : R2 := fun x y H Q => ∃ a es kds ke kd v, x = .ref a ∧ y = keV ke ∧ DH w H a es ∧ RpE w K H es kds ∧ RpK w K H ke kd ∧ keyOk kds kd = true ∧ eget es ke = some v ∧ Q v H
theorem ix_dct (hu : X.A.units + 64 < cLine) : IxR X (rDGetD X.w X.K) := by
  intro value slice pins s σ H x y v u Q I rx ry h hsub
  obtain ⟨a, es, kds, ke, kd, z, rfl, rfl, hd, re, rk, hk, hg, q⟩ := h
  cases rx
  have core : s.TypeIs (.ref a) "dict" ∧ wpAny (model X.prog X.w) X.A (getItem (.ref a) u) (EP X pins σ Q) X.xe s := by
    rcases keyOk_or hk with ⟨h1, h2⟩ | ⟨h1, h2⟩
    · obtain ⟨_, hs, kvs, vs, e, rel, dd⟩ := dmix I hd (re.allS h2)
      obtain ⟨j, rfl, _⟩ := rk.keyS h1
      rw [e, eget_mix] at hg
      obtain ⟨w', hw, rw'⟩ := RelO.some_of (v := z) (o := valueAt vs j) (by rw [← hg]; exact rel.val j)
      exact ⟨dd.typeIs, wpAny_getItem_of (kV_is ry) dd.mapOf hw ⟨z, H, I.tok _, rw', q⟩⟩
    · obtain ⟨_, hs, xs, ys, e, nd, rel, dd⟩ := dnst I hd re (re.allT h2)
      obtain ⟨j, b, rfl, g1, g2, g3⟩ := rk.keyT h1
      cases (show u = Value.ref b from ry)
      rw [e] at hg
      obtain ⟨w', hw, rw'⟩ := RelO.some_of (v := z) (o := (atKey ys j).map (·.2)) (by rw [← hg]; exact eget_nst rel j b)
      obtain ⟨p, hp, hp2⟩ := Option.map_eq_some_iff.mp hw
      refine ⟨dd.typeIs, wpAny_getItem_heap (knd := nestedKind X.prog X.w) (by show X.A.units + 1 + 8 < cLine; omega) ⟨Rp.key I g1 rfl g2, g3⟩ dd hp ?_⟩
      rw [hp2]
      exact ⟨z, H, I.tok _, rw', q⟩
  exact tail_any core.1 slot_dict_getitem.lookup core.2 hsub
end
end Lk
end
section
set_option linter.all false
set_option maxRecDepth 100000
set_option maxHeartbeats 1000000
/-! Dicts stored; len. -/
namespace Lk
open PySem PySem.Spec PyProof.Rows L2
theorem DX.mut {w : World} {H : Hp} {a : Addr} {es : List (KE × V)} (h : DX w H a es) : Mut (H a) := by
  rcases h with ⟨k, e, q⟩ | ⟨k, e, q⟩ <;> rw [e] <;> exact True.intro
theorem DX.ntup {w : World} {H : Hp} {a b : Addr} {es : List (KE × V)} {xs : List V} (h : DX w H a es) (hb : H b = some (.tup xs)) : b ≠ a := by
  rintro rfl
  rcases h with ⟨k, e, q⟩ | ⟨k, e, q⟩ <;> rw [hb] at e <;> cases e
def eput (es : List (KE × V)) (k : KE) (v : V) : List (KE × V) := if (eget es k).isSome then es.map fun p => if keq p.1 k then (p.1, v) else p else es ++ [(k, v)]
section
variable {w : World} {K : KF} {F F' : Hp}
theorem RpE.map {ke : KE} {kd d : D} {v : V} (rk : RpK w K F' ke kd) (rv : Rp w K F v d) : ∀ {es : List (KE × V)} {kds : List (D × D)}, RpE w K F es kds →
    RpE w K F (es.map fun p => if keq p.1 ke then (p.1, v) else p) (kds.map fun p => if nk p.1 = nk kd then (p.1, d) else p)
  | _, _, .nil => .nil
  | _, _, .cons (k := k) (v := v') (kd := kd') (d := d') a b c => by
    rw [List.map_cons, List.map_cons]
    dsimp only
    rw [RpK.eq a rk]
    by_cases h : nk kd' = nk kd
    · rw [if_pos (decide_eq_true h), if_pos h]; exact .cons a rv (RpE.map rk rv c)
    · rw [if_neg (by rw [decide_eq_false h]; exact Bool.false_ne_true), if_neg h]; exact .cons a b (RpE.map rk rv c)
theorem RpE.app : ∀ {es es' : List (KE × V)} {ds ds' : List (D × D)}, RpE w K F es ds → RpE w K F es' ds' → RpE w K F (es ++ es') (ds ++ ds')
  | _, _, _, _, .nil, h => h
  | _, _, _, _, .cons a b c, h => .cons a b (RpE.app c h)
theorem RpE.put {ke : KE} {kd d : D} {v : V} {es : List (KE × V)} {kds : List (D × D)} (rk : RpK w K F ke kd) (rv : Rp w K F v d) (re : RpE w K F es kds) : RpE w K F (eput es ke v) (dput kds kd d) := by
  unfold eput dput
  rw [get_some rk re]
  by_cases h : dhas kds kd = true
  · rw [if_pos h, if_pos h]; exact re.map rk rv
  · rw [if_neg h, if_neg h]; exact re.app (.cons rk rv .nil)
theorem eput_mix (kvs : List (Key × V)) (k : Key) (v : V) : eput (kvs.map fun p => (KE.s p.1, p.2)) (.s k) v = (putK kvs k v).map fun p => (KE.s p.1, p.2) := by
  unfold eput putK
  rw [eget_mix, valV_any]
  by_cases h : (valV kvs k).isSome = true
  · rw [if_pos h, if_pos h, List.map_map, List.map_map]
    refine List.map_congr_left fun p _ => ?_
    show (if decide (p.1 = k) = true then _ else _) = _
    by_cases e : p.1 = k
    · rw [if_pos (decide_eq_true e)]; simp [e]
    · rw [if_neg (by rw [decide_eq_false e]; exact Bool.false_ne_true)]; simp [e]
  · rw [if_neg h, if_neg h, List.map_append]; rfl
end
/-- the stored entries, tuples as keys -/
def nput (xs : List (NestedKey × Addr × V)) (k : NestedKey) (b : Addr) (v : V) : List (NestedKey × Addr × V) :=
  if (xs.find? fun p => decide (p.1 = k)).isSome then xs.map fun p => if p.1 = k then (p.1, p.2.1, v) else p else xs ++ [(k, b, v)]
theorem eput_nst (xs : List (NestedKey × Addr × V)) (k : NestedKey) (b : Addr) (v : V) : eput (xs.map fun p => (KE.t p.1 p.2.1, p.2.2)) (.t k b) v = (nput xs k b v).map fun p => (KE.t p.1 p.2.1, p.2.2) := by
  have e0 : (eget (xs.map fun p => (KE.t p.1 p.2.1, p.2.2)) (.t k b)).isSome = (xs.find? fun p => decide (p.1 = k)).isSome := by
    unfold eget
    rw [Option.isSome_map, List.find?_map, Option.isSome_map]
    rfl
  unfold eput nput
  rw [e0]
  split
  · rw [List.map_map, List.map_map]
    refine List.map_congr_left fun p _ => ?_
    show (if decide (p.1 = k) = true then _ else _) = _
    by_cases e : p.1 = k
    · rw [if_pos (decide_eq_true e)]; simp [e]
    · rw [if_neg (by rw [decide_eq_false e]; exact Bool.false_ne_true)]; simp [e]
  · rw [List.map_append]; rfl
abbrev NRel : List (NestedKey × Addr × V) → List (NestedKey × Addr × Value) → Prop := Paired fun (p : NestedKey × Addr × V) (q : NestedKey × Addr × Value) => p.1 = q.1 ∧ p.2.1 = q.2.1 ∧ RelV p.2.2 q.2.2
theorem NRel.find {k : NestedKey} : ∀ {xs ys}, NRel xs ys → (xs.find? fun p => decide (p.1 = k)).isSome = (atKey ys k).isSome
  | _, _, .nil => rfl
  | _, _, .cons (a := p) (b := q) h t => by
    have ih := NRel.find (k := k) t
    unfold atKey at ih ⊢
    rw [Option.isSome_map] at ih ⊢
    rw [List.find?_cons, List.find?_cons, h.1]
    cases e : decide (q.1 = k) with
    | true => rfl
    | false => exact ih
theorem NRel.app : ∀ {xs ys xs' ys'}, NRel xs ys → NRel xs' ys' → NRel (xs ++ xs') (ys ++ ys')
  | _, _, _, _, .nil, h => h
  | _, _, _, _, .cons a t, h => .cons a (NRel.app t h)
theorem NRel.maps {k : NestedKey} {v : V} {u : Value} (rv : RelV v u) : ∀ {xs ys}, NRel xs ys → NRel (xs.map fun p => if p.1 = k then (p.1, p.2.1, v) else p) (ys.map (PySem.putAt k u))
  | _, _, .nil => .nil
  | _, _, .cons (a := p) (b := q) h t => by
    rw [List.map_cons, List.map_cons]
    refine .cons ?_ (NRel.maps rv t)
    unfold PySem.putAt
    rw [← h.1]
    by_cases e : p.1 = k
    · rw [if_pos e, if_pos e]; exact ⟨rfl, h.2.1, rv⟩
    · rw [if_neg e, if_neg e]; exact h
theorem NRel.put {k : NestedKey} {b : Addr} {v : V} {u : Value} (rv : RelV v u) {xs ys} (h : NRel xs ys) : NRel (nput xs k b v) (storedH ys k b u) := by
  unfold nput storedH
  rw [NRel.find h]
  split
  · exact NRel.maps rv h
  · exact NRel.app h (.cons ⟨rfl, rfl, rv⟩ .nil)
theorem NRel.keys : ∀ {xs ys}, NRel xs ys → xs.map (·.1) = ys.map (·.1)
  | _, _, .nil => rfl
  | _, _, .cons h t => by rw [List.map_cons, List.map_cons, NRel.keys t, h.1]
theorem nput_len (xs : List (NestedKey × Addr × V)) (k : NestedKey) (b : Addr) (v : V) : (nput xs k b v).length ≤ xs.length + 1 := by
  unfold nput
  split
  · rw [List.length_map]; exact Nat.le_succ _
  · rw [List.length_append]; exact Nat.le_refl _
section
variable {X : Cx} {pins : List (Addr × Obj)} {σ : L2.St} {H : Hp} {s : Shared} {a : Addr} {u r : Value} {A : Around} {E : Value → Shared → Prop}
/-- d[k] = v -/
theorem dct_set {Q : Unit → Shared → Prop} {es : List (KE × V)} {kds : List (D × D)} {ke : KE} {kd : D} {v : V} (hu : A.units + 64 < cLine) (I : Inv X pins σ H s) (hd : DX X.w H a es) (re : RpE X.w X.K H es kds) (rk : RpK X.w X.K H ke kd)
    (hk : keyOk kds kd = true) (hz : kds.length < cap) (ry : RelV (keV ke) u) (rv : RelV v r)
    (h : ∀ s' ob, Inv X pins σ (upd H a ob) s' → isFrz ob = false → (∀ xs, ob ≠ .tup xs) → DX X.w (upd H a ob) a (eput es ke v) → Q () s') : wpAny (model X.prog X.w) A (setItem (.ref a) u r) Q E s := by
  have hlen := re.length
  rcases keyOk_or hk with ⟨h1, h2⟩ | ⟨h1, h2⟩
  · obtain ⟨z, hs, kvs, vs, e, rel, dd⟩ := dmix I hd.dh (re.allS h2)
    obtain ⟨j, rfl, _⟩ := rk.keyS h1
    have hl : kvs.length < cap := by rw [e, List.length_map] at hlen; omega
    refine wpAny_setItem_pairs (hsz := by rw [← rel.length]; exact cap_le (Nat.le_of_lt hl)) (kV_is ry) dd fun h' dd' hb => ?_
    have he : ∃ q, h'.get? a = some q := let ⟨q, _, _, hq, _⟩ := dd'; ⟨q, hq⟩
    refine h _ _ (d_write I hd.mut hb he (dk_new ?_ hs (rel.put j rv) dd')) rfl (fun _ z => nomatch z) (.inl ⟨_, upd_same, by rw [e, eput_mix]⟩)
    have := length_putK kvs j v
    exact cap_le (by omega)
  · obtain ⟨z, hs, xs, ys, e, nd, rel, dd⟩ := dnst I hd.dh re (re.allT h2)
    obtain ⟨j, b, rfl, g1, g2, g3⟩ := rk.keyT h1
    cases (show u = Value.ref b from ry)
    have hl : xs.length < cap := by rw [e, List.length_map] at hlen; omega
    refine wpAny_setItem_heap (knd := nestedKind X.prog X.w) (hsz := by rw [← Paired.length rel]; exact cap_le (Nat.le_of_lt hl)) (by show A.units + 1 + 8 < cLine; omega) ⟨Rp.key I g1 rfl g2, g3⟩ dd fun h' dd' hb => ?_
    obtain ⟨o, ea, ep, q1, q2, q3, q4, q5, q6⟩ := id dd'
    have rel' := NRel.put (k := j) (b := b) rv rel
    refine h _ (DN X.w a (nput xs j b v)) (d_write I hd.mut hb ⟨o, q1⟩ ?_) rfl (fun _ z => absurd z DN_tup) (.inr ⟨_, upd_same, by rw [e, eput_nst]⟩)
    refine ⟨⟨by rw [NRel.keys rel']; exact q6, ?_, hs, _, rel', o, ea, ep, q1, q2, q3, q4⟩, ⟨o, q1⟩, fun h1 h2 z k => ?_⟩
    · have := nput_len xs j b v
      exact cap_le (by omega)
    · obtain ⟨c1, c2, c3, c4, c5, o', a', p', d1, d2, d3, d4⟩ := z
      exact ⟨c1, c2, c3, c4, c5, o', a', p', k _ d1, d2, d3, d4⟩
end
/-! ### len -/
section
variable {X : Cx}
def rLenD (w : World) : List V → Hp → VK → Prop := fun xs H Q => ∃ a es, xs = [.ref a] ∧ DH w H a es ∧ Q (.int (es.length : Int)) H
theorem call_len_dct : CallR X (.builtin "len") (rLenD X.w) := by
  intro pins s σ H xs us Q I r h
  obtain ⟨a, es, rfl, hd, q⟩ := h
  cases r with
  | cons ra rr =>
    cases rr
    cases ra
    rcases hd with ⟨kvs, hd, e⟩ | ⟨ys, hd, e⟩
    · subst e
      rw [List.length_map] at q
      exact d_len I hd fun t s' I' => ⟨.int _, H, I', ⟨_, rfl⟩, q⟩
    · subst e
      rw [List.length_map] at q
      obtain ⟨hn, z, hs, zs, rel, o, ea, ep, h1, h2, h3, h4⟩ := Rd.okDN I hd
      have hl : ea.size = ys.length := by rw [← Array.length_toList, h4, List.length_map, ← Paired.length rel]
      have raw : s.heap.DictRaw a ea ep := ⟨o, h1, h2, h3⟩
      refine PyProof.Rows.call_len_slot (n := (ys.length : Int)) raw.typeIs PySem.F.slot_dict_len (fun Q' hq => call_len_raw hs raw (by rw [hl]; exact hq)) (by omega) (by rw [sizeLine_eq] at z; omega) ?_
      exact ⟨.int _, H, I.tok _, ⟨_, rfl⟩, q⟩
end
end Lk
end
section
set_option linter.all false
set_option maxRecDepth 100000
set_option maxHeartbeats 1000000
/-! Comparisons, parts, slices. -/
namespace Lk
open PySem PySem.Spec PyProof.Rows L2
mutual
theorem nod_of_lay : ∀ d : D, d.canLay0 = true → nod d = true
  | .none, _ => rfl
  | .bool _, _ => rfl
  | .int _, _ => rfl
  | .str _, _ => rfl
  | .list xs, h => by simp only [PyData.canLay0] at h; simp only [nod]; exact nods_of_lay xs h
  | .tuple xs, h => by simp only [PyData.canLay0] at h; simp only [nod]; exact nods_of_lay xs h
  | .dict _, h => by simp [PyData.canLay0] at h
theorem nods_of_lay : ∀ ds : List D, PyData.canLayAll0 ds = true → nods ds = true
  | [], _ => rfl
  | d :: ds, h => by
    simp only [PyData.canLayAll0, Bool.and_eq_true] at h
    simp only [nods, Bool.and_eq_true]
    exact ⟨nod_of_lay d h.1, nods_of_lay ds h.2⟩
end
mutual
theorem nod_of_self : ∀ d : D, PySem.W.alike d d = true → nod d = true
  | .none, _ => rfl
  | .bool _, _ => rfl
  | .int _, _ => rfl
  | .str _, _ => rfl
  | .list xs, h => by simp only [PySem.W.alike] at h; simp only [nod]; exact nods_of_self xs h
  | .tuple xs, h => by simp only [PySem.W.alike] at h; simp only [nod]; exact nods_of_self xs h
  | .dict _, h => by simp [PySem.W.alike] at h
theorem nods_of_self : ∀ ds : List D, PySem.W.alikeAll ds ds = true → nods ds = true
  | [], _ => rfl
  | d :: ds, h => by
    simp only [PySem.W.alikeAll, Bool.and_eq_true] at h
    simp only [nods, Bool.and_eq_true]
    exact ⟨nod_of_self d h.1, nods_of_self ds h.2⟩
end
theorem nod_of_shp {d : D} (h : shp d = true) : nod d = true := by
  unfold shp SeqAt.shaped at h
  rw [Bool.and_eq_true] at h
  exact nod_of_lay d h.1
def cop : COp → CmpOp
  | .eq => .Eq
  | .ne => .NotEq
  | .lt => .Lt
  | .le => .LtE
  | .gt => .Gt
  | .ge => .GtE
  | .inn => .In
  | .nin => .NotIn
  | .isN => .Is
  | .ntN => .IsNot
section
variable {X : Cx} {sp : Option Addr} {F H : Hp} {n : Int} {x y : V} {Q : VK}
/-- in, not in of a list or a tuple of data -/
def rInT (K : KF) : R2 := fun x y H Q => ∃ d ds, Dp K H x d ∧ (Dp K H y (.tuple ds)) ∧ SeqAt.shaped d = true ∧ SeqAt.shaped (.tuple ds) = true ∧ Q (.bl (ds.any fun z => PyData.eqv z d)) H
def rNotInT (K : KF) : R2 := fun x y H Q => ∃ d ds, Dp K H x d ∧ (Dp K H y (.tuple ds)) ∧ SeqAt.shaped d = true ∧ SeqAt.shaped (.tuple ds) = true ∧ Q (.bl (!ds.any fun z => PyData.eqv z d)) H
theorem canLay_tup {ds : List D} (h : SeqAt.shaped (.tuple ds) = true) : PyData.canLayAll0 ds = true := by
  unfold SeqAt.shaped at h
  rw [Bool.and_eq_true] at h
  simpa [PyData.canLay0] using h.1
theorem op_inT (hu : X.A.units + 65 < cLine) : OpR X (compareOp .In) (rInT X.K) := by
  intro pins s σ H x y v u Q I rx ry h
  obtain ⟨d, ds, hd, he, sd, se, q⟩ := h
  obtain ⟨as, r1⟩ := Dp.reads I d x v hd rx
  obtain ⟨bs, r2⟩ := Dp.reads I (.tuple ds) y u he ry
  exact SeqAt.in_tuple_reads r2 r1 (canLay_tup se) (SeqAt.canLay_of_shaped sd) (room_in_shaped sd hu) ⟨.bl _, H, I, rfl, q⟩
theorem op_notInT (hu : X.A.units + 65 < cLine) : OpR X (compareOp .NotIn) (rNotInT X.K) := by
  intro pins s σ H x y v u Q I rx ry h
  obtain ⟨d, ds, hd, he, sd, se, q⟩ := h
  obtain ⟨as, r1⟩ := Dp.reads I d x v hd rx
  obtain ⟨bs, r2⟩ := Dp.reads I (.tuple ds) y u he ry
  exact SeqAt.notIn_tuple_reads r2 r1 (canLay_tup se) (SeqAt.canLay_of_shaped sd) (room_in_shaped sd hu) ⟨.bl _, H, I, rfl, q⟩
/-- < of alike data -/
def rLtA (K : KF) : R2 := fun x y H Q => ∃ d e, Dp K H x d ∧ Dp K H y e ∧ PySem.W.alike d e = true ∧ d ≠ .none ∧ d.depth ≤ 60 ∧ Q (.bl (PySem.W.dataLt d e)) H
theorem op_ltA (hu : X.A.units + 65 < cLine) : OpR X (compareOp .Lt) (rLtA X.K) := by
  intro pins s σ H x y v u Q I rx ry h
  obtain ⟨d, e, hd, he, ha, hn, h60, q⟩ := h
  obtain ⟨as, r1⟩ := Dp.reads I d x v hd rx
  obtain ⟨bs, r2⟩ := Dp.reads I e y u he ry
  exact PySem.W.rcLt_alike d e X.A s v u as bs r1 r2 ha hn (by omega) X.prog X.w X.xe _ ⟨.bl _, H, I, rfl, q⟩
theorem isNon_iff {w : World} {K : KF} {F : Hp} {v : V} {d : D} (h : Rp w K F v d) : decide (v = .non) = (match d with | .none => true | _ => false) := by
  cases h <;> simp
theorem cmpD_ok {op : COp} {d e : D} {c : Bool} (hu : X.A.units + 65 < cLine) (k : Ok sp F H n) (hx : Rp X.w X.K H x d) (hy : Rp X.w X.K H y e) (h : cmpD op d e = some c) (hN : op = .isN ∨ op = .ntN → y = .non) (q : Q (.bl c) H) :
    semO X (compareOp (cop op)) x y H Q := by
  unfold cmpD at h
  split at h
  · split at h
    · rename_i hc
      cases h
      rw [Bool.and_eq_true] at hc
      exact semO_of (op_eqD (by omega)) ⟨d, e, hx.dp (nod_of_shp hc.1), hy.dp (nod_of_shp hc.2), hc.1, hc.2, q⟩
    · cases h
  · split at h
    · rename_i hc
      cases h
      rw [Bool.and_eq_true] at hc
      exact semO_of (op_neD (by omega)) ⟨d, e, hx.dp (nod_of_shp hc.1), hy.dp (nod_of_shp hc.2), hc.1, hc.2, q⟩
    · cases h
  · unfold dlt at h
    split at h
    · cases h; cases hx; cases hy
      exact semO_of op_lt ⟨_, _, rfl, rfl, q⟩
    · cases h
    · rename_i hne _ _
      split at h
      · rename_i hc
        cases h
        rw [Bool.and_eq_true, Bool.and_eq_true, Bool.and_eq_true, decide_eq_true_eq] at hc
        exact semO_of (op_ltA hu) ⟨_, _, hx.dp hc.1.2, hy.dp hc.2, hc.1.1.1, by intro z; subst z; simp_all, hc.1.1.2, q⟩
      · cases h
  · cases h; cases hx; cases hy
    exact semO_of op_gt ⟨_, _, rfl, rfl, q⟩
  · cases h; cases hx; cases hy
    exact semO_of op_le ⟨_, _, rfl, rfl, q⟩
  · cases h; cases hx; cases hy
    exact semO_of op_ge ⟨_, _, rfl, rfl, q⟩
  · split at h
    · rename_i hc
      cases h
      rw [Bool.and_eq_true] at hc
      exact semO_of (op_inD hu) ⟨_, _, hx.dp (nod_of_shp hc.1), hy.dp (nod_of_shp hc.2), hc.1, hc.2, q⟩
    · cases h
  · split at h
    · rename_i hc
      cases h
      rw [Bool.and_eq_true] at hc
      exact semO_of (op_inT hu) ⟨_, _, hx.dp (nod_of_shp hc.1), hy.dp (nod_of_shp hc.2), hc.1, hc.2, q⟩
    · cases h
  · split at h
    · rename_i hk
      cases h
      cases hy with
      | dct h1 h2 =>
        obtain ⟨ke, g1, g2⟩ := key_of_data hx ((keyOk_or hk).imp (fun z => z.1) (fun z => z.1))
        exact semO_of (op_dIn (by omega)) ⟨_, _, _, ke, _, rfl, g2, h1, h2, g1, hk, q⟩
      | exo _ _ _ => simp [keyOk, Lk.keyS, Lk.keyT] at hk
      | exn _ => simp [keyOk, Lk.keyS, Lk.keyT] at hk
    · cases h
  · split at h
    · rename_i hc
      cases h
      rw [Bool.and_eq_true] at hc
      exact semO_of (op_notInD hu) ⟨_, _, hx.dp (nod_of_shp hc.1), hy.dp (nod_of_shp hc.2), hc.1, hc.2, q⟩
    · cases h
  · split at h
    · rename_i hc
      cases h
      rw [Bool.and_eq_true] at hc
      exact semO_of (op_notInT hu) ⟨_, _, hx.dp (nod_of_shp hc.1), hy.dp (nod_of_shp hc.2), hc.1, hc.2, q⟩
    · cases h
  · split at h
    · rename_i hk
      cases h
      cases hy with
      | dct h1 h2 =>
        obtain ⟨ke, g1, g2⟩ := key_of_data hx ((keyOk_or hk).imp (fun z => z.1) (fun z => z.1))
        exact semO_of (op_dNotIn (by omega)) ⟨_, _, _, ke, _, rfl, g2, h1, h2, g1, hk, q⟩
      | exo _ _ _ => simp [keyOk, Lk.keyS, Lk.keyT] at hk
      | exn _ => simp [keyOk, Lk.keyS, Lk.keyT] at hk
    · cases h
  · rename_i xs zs
    split at h
    · rename_i c0 he
      cases h
      cases hx; cases hy
      have e1 : xs = ⟨#[c0]⟩ := TL.ext_tl he
      exact semO_of op_notIn_sign ⟨c0, zs, by rw [e1], rfl, q⟩
    · cases h
  · cases h
    cases hx
    exact semO_of op_isN ⟨hN (.inl rfl), q⟩
  · rename_i hd
    cases h
    have e := isNon_iff hx
    refine semO_of op_isN ⟨hN (.inl rfl), ?_⟩
    rw [e]
    split
    · exact absurd rfl hd
    · exact q
  · cases h
    cases hx
    exact semO_of op_notN ⟨hN (.inr rfl), q⟩
  · rename_i hd
    cases h
    have e := isNon_iff hx
    refine semO_of op_notN ⟨hN (.inr rfl), ?_⟩
    rw [e]
    split
    · exact absurd rfl hd
    · exact q
  · cases h
/-- an item -/
theorem atI_mem {α : Type} {xs : List α} {i : Int} {d : α} (h : atI xs i = some d) : ∃ j, ixN xs.length i = some j ∧ xs[j]? = some d := by
  unfold atI at h
  rw [Option.bind_eq_some_iff] at h
  exact h
theorem atI_rel {w : World} {K : KF} {F : Hp} {vs : List V} {ds : List D} {i : Int} {d : D} (r : RpA w K F vs ds) (h : atI ds i = some d) : ∃ v, atI vs i = some v ∧ Rp w K F v d := by
  obtain ⟨j, h1, h2⟩ := atI_mem h
  obtain ⟨v, h3, h4⟩ := r.get h2
  refine ⟨v, ?_, h4⟩
  unfold atI
  rw [r.length, h1]
  exact h3
theorem RpE.getD {w : World} {K : KF} {F F' : Hp} {ke : KE} {kd d : D} {es : List (KE × V)} {kds : List (D × D)} (rk : RpK w K F' ke kd) (re : RpE w K F es kds) (h : dget kds kd = some d) : ∃ v, eget es ke = some v ∧ Rp w K F v d := by
  rcases re.get rk with ⟨v, d', e1, e2, r⟩ | ⟨_, e2⟩
  · rw [h] at e2; cases e2; exact ⟨v, e1, r⟩
  · rw [h] at e2; cases e2
theorem keyOk_exc {kds : List (D × D)} {k : D} (h : keyOk kds k = true) : excOf (.dict kds) = none := by
  unfold excOf
  split
  · rename_i e; cases e; simp [keyOk, Lk.keyS, Lk.keyT] at h
  · rfl
theorem Rp.dctE {w : World} {K : KF} {F : Hp} {v : V} {kds : List (D × D)} (h : Rp w K F v (.dict kds)) (hn : excOf (.dict kds) = none) : ∃ a es, v = .ref a ∧ DH w F a es ∧ RpE w K F es kds := by
  generalize e : PyData.dict kds = d at h
  cases h with
  | dct g1 g2 => cases e; exact ⟨_, _, rfl, g1, g2⟩
  | exo _ _ _ => rw [e] at hn; cases hn
  | exn _ => rw [e] at hn; cases hn
  | _ => cases e
theorem RRel.dct {w : World} {K : KF} {v : V} {r : R} {A : List Addr} {kds : List (D × D)} (h : RRel w K sp F H v r A) (k : Ok sp F H n) (hd : r.dat = some (.dict kds)) (hn : excOf (.dict kds) = none) :
    ∃ a es, v = .ref a ∧ DH w H a es ∧ RpE w K (Hm sp H) es kds ∧ (r.kids = true → RpE w K F es kds) := by
  have g := h.rp k hd
  have g' : (∃ a es, v = .ref a ∧ DH w H a es ∧ RpE w K (Hm sp H) es kds) := by
    obtain ⟨a, es, e, g1, g2⟩ := g.dctE hn
    exact ⟨a, es, e, hm_sub.d g1, g2⟩
  have fin : r.kids = false → ∃ a es, v = .ref a ∧ DH w H a es ∧ RpE w K (Hm sp H) es kds ∧ (r.kids = true → RpE w K F es kds) := fun z => by
    obtain ⟨a, es, e, g1, g2⟩ := g'
    exact ⟨a, es, e, g1, g2, fun y => by rw [z] at y; cases y⟩
  cases h with
  | im q =>
    cases hd
    obtain ⟨a, es, e, g1, g2⟩ := q.dctE hn
    exact ⟨a, es, e, k.sub.d g1, g2.lift k.hm, fun _ => g2⟩
  | fr q hF nd => cases q with
    | li _ _ => cases hd
    | di q1 q2 => cases hd; exact ⟨_, _, rfl, q1.dh, q2.lift k.hm, fun _ => q2⟩
    | dl q1 q2 => exact fin rfl
    | dd q1 q2 => exact fin rfl
    | se _ => cases hd
  | bw q hs => cases q with
    | li _ _ => cases hd
    | di q1 q2 => cases hd; exact ⟨_, _, rfl, q1.dh, q2.lift k.hm, fun _ => q2⟩
    | dl q1 q2 => exact fin rfl
    | dd q1 q2 => exact fin rfl
    | se _ => cases hd
  | bo q => exact fin rfl
  | sp _ => cases hd
theorem RpA.kids {w : World} {K : KF} {r : R} {vs : List V} {xs : List D} {v : V} {i : Int} (g : (r.kids || purs xs) = true → RpA w K F vs xs) {d : D} (hd : atI xs i = some d) (hv : atI vs i = some v) (hk : r.kids = true) : Rp w K F v d := by
  obtain ⟨v', e, r'⟩ := atI_rel (g (by rw [hk]; rfl)) hd
  rw [hv] at e
  cases e
  exact r'
theorem opIdxD_ok {a r : R} {A : List Addr} {da kd : D} (hu : X.A.units + 65 < cLine) (k : Ok sp F H n) (ha : RRel X.w X.K sp F H x a A) (hda : a.dat = some da) (hy : Rp X.w X.K (Hm sp H) y kd) (h : opIdxD a da kd = some r)
    (q : ∀ v F' H', PostE X.w X.K sp F H r n v F' H' → Q v H') : semI X x y H Q := by
  unfold opIdxD at h
  split at h
  · rw [Option.map_eq_some_iff] at h
    obtain ⟨d, hd, rfl⟩ := h
    cases hy
    obtain ⟨p, vs, rfl, h1, h2, h3⟩ := ha.lst k hda
    obtain ⟨v, e, rv⟩ := atI_rel h2 hd
    exact semI_of ix_list ⟨_, _, _, _, rfl, rfl, h1, e, q _ _ _ (post_part k (fun hk => RpA.kids h3 hd e hk) rv)⟩
  · rw [Option.map_eq_some_iff] at h
    obtain ⟨d, hd, rfl⟩ := h
    cases hy
    obtain ⟨p, vs, rfl, h1, h2, h3⟩ := ha.tup k hda
    obtain ⟨v, e, rv⟩ := atI_rel h2 hd
    exact semI_of ix_tup ⟨_, _, _, _, rfl, rfl, k.sub.t h1, e, q _ _ _ (post_part k (fun hk => RpA.kids h3 hd e hk) rv)⟩
  · split at h
    · rename_i hk
      rw [Option.map_eq_some_iff] at h
      obtain ⟨d, hd, rfl⟩ := h
      obtain ⟨p, es, rfl, h1, h2, h3⟩ := ha.dct k hda (keyOk_exc hk)
      obtain ⟨ke, g1, g2⟩ := key_of_data (hy.mono hm_sub) ((keyOk_or hk).imp (fun z => z.1) (fun z => z.1))
      obtain ⟨v, e, rv⟩ := RpE.getD g1 h2 hd
      refine semI_of (ix_dct (by omega)) ⟨_, _, _, ke, _, v, rfl, g2, h1, h2.mono hm_sub, g1, hk, e, q _ _ _ (post_part k (fun hk => ?_) rv)⟩
      obtain ⟨v', e', rv'⟩ := RpE.getD g1 (h3 hk) hd
      rw [e] at e'
      cases e'
      exact rv'
    · cases h
  · split at h
    · rename_i hz
      rw [Option.map_eq_some_iff] at h
      obtain ⟨c, hc, rfl⟩ := h
      have rs := ha.rp k hda
      cases rs; cases hy
      exact semI_of ix_str ⟨_, _, c, rfl, rfl, Nat.le_trans hz (by rw [sizeLine_eq]; decide), hc, q _ _ _ (post_im k (.str _))⟩
    · cases h
  · cases h
end
end Lk
end
section
set_option linter.all false
set_option maxRecDepth 100000
set_option maxHeartbeats 1000000
/-! Parts of parts, slices, built-ins. -/
namespace Lk
open PySem PySem.Spec PyProof.Rows L2
section
variable {X : Cx} {sp : Option Addr} {F H : Hp} {n : Int} {x y : V} {Q : VK}
theorem SubL.get {w : World} {K : KF} {F' : Hp} {ke : KE} {kd : D} (rk : RpK w K F' ke kd) : ∀ {es : List (KE × V)} {kvs : List (D × List D)} {cs : List Addr}, SubL w K F H es kvs cs → ∀ {ys : List D}, dget kvs kd = some ys →
    ∃ c vs, eget es ke = some (.ref c) ∧ c ∈ cs ∧ H c = some (.lst vs) ∧ RpA w K F vs ys
  | _, _, _, .nil, ys, h => by simp [dget] at h
  | _, _, _, .cons (k := k) (c := c) (vs := vs) (kd := kd') (ds := ds) a b e t, ys, h => by
    have q := RpK.eq a rk
    unfold dget at h
    unfold eget
    rw [List.find?_cons] at h ⊢
    dsimp only at h ⊢
    rw [q]
    cases hh : decide (nk kd' = nk kd) with
    | true => rw [hh] at h; cases h; exact ⟨c, vs, rfl, List.mem_cons_self .., b, e⟩
    | false =>
      rw [hh] at h
      obtain ⟨c', vs', h1, h2, h3⟩ := SubL.get rk t (ys := ys) h
      exact ⟨c', vs', h1, List.mem_cons_of_mem _ h2, h3⟩
theorem SubD.get {w : World} {K : KF} {F' : Hp} {ke : KE} {kd : D} (rk : RpK w K F' ke kd) : ∀ {es : List (KE × V)} {kvs : List (D × List (D × D))} {cs : List Addr}, SubD w K F H es kvs cs → ∀ {ys : List (D × D)}, dget kvs kd = some ys →
    ∃ c vs, eget es ke = some (.ref c) ∧ c ∈ cs ∧ DX w H c vs ∧ RpE w K F vs ys
  | _, _, _, .nil, ys, h => by simp [dget] at h
  | _, _, _, .cons (k := k) (c := c) (vs := vs) (kd := kd') (ds := ds) a b e t, ys, h => by
    have q := RpK.eq a rk
    unfold dget at h
    unfold eget
    rw [List.find?_cons] at h ⊢
    dsimp only at h ⊢
    rw [q]
    cases hh : decide (nk kd' = nk kd) with
    | true => rw [hh] at h; cases h; exact ⟨c, vs, rfl, List.mem_cons_self .., b, e⟩
    | false =>
      rw [hh] at h
      obtain ⟨c', vs', h1, h2, h3⟩ := SubD.get rk t (ys := ys) h
      exact ⟨c', vs', h1, List.mem_cons_of_mem _ h2, h3⟩
theorem keyOk_map {α β : Type} (f : α → β) (kvs : List (D × α)) (k : D) : keyOk (kvs.map fun p => (p.1, f p.2)) k = keyOk kvs k := by
  unfold keyOk
  rw [List.all_map, List.all_map]
  rfl
theorem opIdx_ok {a b r : R} {A B : List Addr} (hu : X.A.units + 65 < cLine) (k : Ok sp F H n) (ha : RRel X.w X.K sp F H x a A) (hb : RRel X.w X.K sp F H y b B) (h : opIdx a b = some r)
    (q : ∀ v F' H', PostE X.w X.K sp F H r n v F' H' → Q v H') : semI X x y H Q := by
  unfold opIdx at h
  split at h
  · rename_i kvs kd e
    split at h
    · rename_i hk
      rw [Option.map_eq_some_iff] at h
      obtain ⟨ys, hys, rfl⟩ := h
      have hy := hb.rpH k e
      obtain ⟨ke, g1, g2⟩ := key_of_data hy ((keyOk_or hk).imp (fun z => z.1) (fun z => z.1))
      cases ha with
      | bw ho hs =>
        cases ho with
        | dl d1 d2 =>
          obtain ⟨c, vs, h1, h2, h3, h4⟩ := d2.get g1 hys
          exact semI_of (ix_dct (by omega)) ⟨_, _, _, ke, _, _, rfl, g2, d1.dh, d2.rpe k.sub, g1, by rw [keyOk_map]; exact hk, h1, q _ _ _ (post_bw k (.li h3 h4) fun z hz => by
            rw [List.mem_singleton] at hz; subst hz; exact hs _ (List.mem_cons_of_mem _ h2))⟩
    · cases h
  · rename_i kvs kd e
    split at h
    · rename_i hk
      rw [Option.map_eq_some_iff] at h
      obtain ⟨ys, hys, rfl⟩ := h
      have hy := hb.rpH k e
      obtain ⟨ke, g1, g2⟩ := key_of_data hy ((keyOk_or hk).imp (fun z => z.1) (fun z => z.1))
      cases ha with
      | bw ho hs =>
        cases ho with
        | dd d1 d2 =>
          obtain ⟨c, vs, h1, h2, h3, h4⟩ := d2.get g1 hys
          exact semI_of (ix_dct (by omega)) ⟨_, _, _, ke, _, _, rfl, g2, d1.dh, d2.rpe k.sub, g1, by rw [keyOk_map]; exact hk, h1, q _ _ _ (post_bw k (.di h3 h4) fun z hz => by
            rw [List.mem_singleton] at hz; subst hz; exact hs _ (List.mem_cons_of_mem _ h2))⟩
    · cases h
  · rename_i a' kd _ _ e
    split at h
    · rename_i da hda
      exact opIdxD_ok hu k ha hda (hb.rp k e) h q
    · cases h
  · cases h
theorem opIdxN_ok {a b r : R} {A B : List Addr} (hu : X.A.units + 65 < cLine) (k : Ok sp F H n) (ha : RRel X.w X.K sp F H x a A) (hb : RRel X.w X.K sp F H y b B) (h : opIdxN a b n = some r)
    (q : ∀ v F' H', PostE X.w X.K sp F H r n v F' H' → Q v H') : semI X x y H Q := by
  unfold opIdxN at h
  split at h
  · split at h
    · rename_i e
      cases h
      cases ha with
      | sp hs =>
        rw [hb.int k e]
        exact semI_of ix_list ⟨_, [.int n], 0, .int n, rfl, rfl, .inl (.inl (k.spt _ hs).1), rfl, q _ _ _ (post_int k n)⟩
    · cases h
  · exact opIdx_ok hu k ha hb h q
theorem cut_rel {w : World} {K : KF} {F : Hp} {vs : List V} {ds : List D} (r : RpA w K F vs ds) (lo hi : Option Int) : RpA w K F (cutV vs lo hi) (cutG ds lo hi) := by
  unfold cutV cutG
  rw [r.length]
  exact (r.drop _).take _
theorem cut_whole {α : Type} (xs : List α) {lo hi : Option Int} (h : HT.sIx xs.length 0 lo = 0 ∧ HT.sIx xs.length xs.length hi = xs.length) : cutG xs lo hi = xs := by
  unfold cutG
  rw [h.1, h.2]
  simp
theorem opSlc_ok {a r : R} {A : List Addr} {lo hi : Option Int} (k : Ok sp F H n) (ha : RRel X.w X.K sp F H x a A) (h : opSlc a lo hi = some r)
    (q : ∀ v F' H', PostE X.w X.K sp F H r n v F' H' → Q v H') : semS X x lo hi H Q := by
  unfold opSlc at h
  split at h
  · rename_i xs e
    split at h
    · rename_i hc
      cases h
      obtain ⟨p, vs, rfl, h1, h2, h3⟩ := ha.lst k e
      refine semS_of sl_list ⟨_, _, rfl, h1, fun p hp => q _ _ _ (post_li k hp ?_)⟩
      rw [Bool.or_eq_true] at hc
      rcases hc with hc | hc
      · exact cut_rel (h3 (by rw [hc]; rfl)) lo hi
      · exact ((cut_rel h2 lo hi).mono hm_sub).pureF k hc
    · cases h
  · rename_i xs e
    split at h
    · rename_i hc
      cases h
      obtain ⟨p, vs, rfl, h1, h2, h3⟩ := ha.tup k e
      have hr : RpA X.w X.K F (cutV vs lo hi) (cutG xs lo hi) := by
        rw [Bool.or_eq_true] at hc
        rcases hc with hc | hc
        · exact cut_rel (h3 (by rw [hc]; rfl)) lo hi
        · exact ((cut_rel h2 lo hi).mono hm_sub).pureF k hc
      refine semS_of sl_tupA ⟨_, _, rfl, k.sub.t h1, fun hw => ?_, fun hw p hp => q _ _ _ (post_tup k hp hr)⟩
      have hc2 : cutV vs lo hi = vs := cut_whole vs hw
      rw [hc2] at hr
      exact q _ _ _ (post_im k (.tup h1 hr))
    · cases h
  · rename_i z e
    split at h
    · rename_i hz
      cases h
      have rs := ha.rp k e
      cases rs
      exact semS_of sl_str ⟨_, rfl, Nat.le_trans hz (by rw [sizeLine_eq]; decide), q _ _ _ (post_im k (.str _))⟩
    · cases h
  · cases h
/-! ### built-ins -/
theorem ints_rel {w : World} {K : KF} {F : Hp} : ∀ {vs : List V} {ds : List D} {is : List Int}, RpA w K F vs ds → intsOf ds = some is → vs = is.map V.int
  | _, [], is, r, h => by cases r; cases h; rfl
  | _, .int i :: ds, is, r, h => by
    simp only [intsOf, Option.map_eq_some_iff] at h
    obtain ⟨js, h1, rfl⟩ := h
    cases r with
    | cons a b =>
      cases a
      rw [ints_rel b h1]; rfl
  | _, .none :: ds, is, r, h => by simp [intsOf] at h
  | _, .bool _ :: ds, is, r, h => by simp [intsOf] at h
  | _, .str _ :: ds, is, r, h => by simp [intsOf] at h
  | _, .list _ :: ds, is, r, h => by simp [intsOf] at h
  | _, .tuple _ :: ds, is, r, h => by simp [intsOf] at h
  | _, .dict _ :: ds, is, r, h => by simp [intsOf] at h
theorem bools_rel {w : World} {K : KF} {F : Hp} : ∀ {vs : List V} {ds : List D} {is : List Bool}, RpA w K F vs ds → boolsOf ds = some is → vs = is.map V.bl
  | _, [], is, r, h => by cases r; cases h; rfl
  | _, .bool i :: ds, is, r, h => by
    simp only [boolsOf, Option.map_eq_some_iff] at h
    obtain ⟨js, h1, rfl⟩ := h
    cases r with
    | cons a b =>
      cases a
      rw [bools_rel b h1]; rfl
  | _, .none :: ds, is, r, h => by simp [boolsOf] at h
  | _, .int _ :: ds, is, r, h => by simp [boolsOf] at h
  | _, .str _ :: ds, is, r, h => by simp [boolsOf] at h
  | _, .list _ :: ds, is, r, h => by simp [boolsOf] at h
  | _, .tuple _ :: ds, is, r, h => by simp [boolsOf] at h
  | _, .dict _ :: ds, is, r, h => by simp [boolsOf] at h
theorem opInt_some {r : R} {i : Int} (h : opInt r = some i) : r.dat = some (.int i) := by
  unfold opInt at h
  split at h
  · rename_i j e; cases h; exact e
  · cases h
theorem bi_len {a r : R} {A : List Addr} (k : Ok sp F H n) (ha : RRel X.w X.K sp F H x a A) (h : biLen a = some r) (q : ∀ v F' H', PostE X.w X.K sp F H r n v F' H' → Q v H') : semC X (.builtin "len") [x] H Q := by
  have done : ∀ {d : D} {m : Nat}, a.dat = some d → lenD d = some m → (∀ v F' H', PostE X.w X.K sp F H (.im (.int (m : Int))) n v F' H' → Q v H') → semC X (.builtin "len") [x] H Q := by
    intro d m hd hm q
    cases d with
    | list xs =>
      cases hm
      obtain ⟨p, vs, rfl, h1, h2, _⟩ := ha.lst k hd
      exact semC_of call_len_seq ⟨_, _, rfl, .inl h1, q _ _ _ (by rw [h2.length]; exact post_int k _)⟩
    | tuple xs =>
      cases hm
      obtain ⟨p, vs, rfl, h1, h2, _⟩ := ha.tup k hd
      exact semC_of call_len_seq ⟨_, _, rfl, .inr (k.sub.t h1), q _ _ _ (by rw [h2.length]; exact post_int k _)⟩
    | dict kvs =>
      simp only [lenD] at hm
      split at hm
      rotate_left
      · cases hm
      rename_i hnx
      cases hm
      obtain ⟨p, es, rfl, h1, h2, _⟩ := ha.dct k hd (Option.isNone_iff_eq_none.mp hnx)
      exact semC_of call_len_dct ⟨_, _, rfl, h1, q _ _ _ (by rw [h2.length]; exact post_int k _)⟩
    | str z =>
      simp only [lenD] at hm
      split at hm
      · rename_i hz
        cases hm
        rw [ha.text k hd]
        exact semC_of call_len_str ⟨_, rfl, cap_le hz, q _ _ _ (post_int k _)⟩
      · cases hm
    | _ => cases hm
  have main : (match a.dat with
      | some d => match lenD d with
        | some m => some (R.im (.int (m : Int)))
        | none => none
      | none => none) = some r → semC X (.builtin "len") [x] H Q := by
    intro h
    split at h
    · rename_i d hd
      split at h
      · rename_i m hm
        cases h
        exact done hd hm q
      · cases h
    · cases h
  cases ha with
  | im g => exact main h
  | fr ho hF nd => cases ho with
    | se g1 => cases h
    | li g1 g2 => exact main h
    | di g1 g2 => exact main h
    | dl g1 g2 => exact main h
    | dd g1 g2 => exact main h
  | bw ho hs => cases ho with
    | se g1 => cases h
    | li g1 g2 => exact main h
    | di g1 g2 => exact main h
    | dl g1 g2 => exact main h
    | dd g1 g2 => exact main h
  | bo g => exact main h
  | sp e => cases h
theorem bi_int {a r : R} {A : List Addr} (k : Ok sp F H n) (ha : RRel X.w X.K sp F H x a A) (h : biInt a = some r) (q : ∀ v F' H', PostE X.w X.K sp F H r n v F' H' → Q v H') : semC X (.type "int") [x] H Q := by
  unfold biInt at h
  split at h
  · rename_i i e
    cases h
    rw [ha.int k e]
    exact semC_of call_int1 (.inl ⟨_, rfl, q _ _ _ (post_int k _)⟩)
  · rename_i i e
    cases h
    rw [ha.bool k e]
    exact semC_of call_int1 (.inr ⟨_, rfl, q _ _ _ (post_int k _)⟩)
  · rename_i z e
    split at h
    · rename_i hz
      rw [Option.map_eq_some_iff] at h
      obtain ⟨i, hi, rfl⟩ := h
      have rs := ha.rp k e
      cases rs
      exact semC_of call_int_str ⟨_, i, rfl, hi, hz, q _ _ _ (post_int k i)⟩
    · cases h
  · cases h
theorem bi_abs {a r : R} {A : List Addr} (k : Ok sp F H n) (ha : RRel X.w X.K sp F H x a A) (h : biAbs a = some r) (q : ∀ v F' H', PostE X.w X.K sp F H r n v F' H' → Q v H') : semC X (.builtin "abs") [x] H Q := by
  unfold biAbs at h
  split at h
  · rename_i i e
    cases h
    rw [ha.int k (opInt_some e)]
    exact semC_of call_abs ⟨_, rfl, q _ _ _ (post_int k _)⟩
  · cases h
theorem bi_max2 {a b r : R} {A B : List Addr} (hc : X.calm = true) (k : Ok sp F H n) (ha : RRel X.w X.K sp F H x a A) (hb : RRel X.w X.K sp F H y b B) (h : biMax2 a b = some r) (q : ∀ v F' H', PostE X.w X.K sp F H r n v F' H' → Q v H') : semC X (.builtin "max") [x, y] H Q := by
  unfold biMax2 at h
  split at h
  · rename_i i j e e2
    cases h
    rw [ha.int k (opInt_some e), hb.int k (opInt_some e2)]
    exact semC_of (call_max2 hc) ⟨_, _, rfl, q _ _ _ (post_int k _)⟩
  · cases h
theorem bi_min2 {a b r : R} {A B : List Addr} (hc : X.calm = true) (k : Ok sp F H n) (ha : RRel X.w X.K sp F H x a A) (hb : RRel X.w X.K sp F H y b B) (h : biMin2 a b = some r) (q : ∀ v F' H', PostE X.w X.K sp F H r n v F' H' → Q v H') : semC X (.builtin "min") [x, y] H Q := by
  unfold biMin2 at h
  split at h
  · rename_i i j e e2
    cases h
    rw [ha.int k (opInt_some e), hb.int k (opInt_some e2)]
    exact semC_of (call_min2 hc) ⟨_, _, rfl, q _ _ _ (post_int k _)⟩
  · cases h
theorem bi_sum {a r : R} {A : List Addr} (hc : X.calm = true) (k : Ok sp F H n) (ha : RRel X.w X.K sp F H x a A) (h : biSum a = some r) (q : ∀ v F' H', PostE X.w X.K sp F H r n v F' H' → Q v H') : semC X (.builtin "sum") [x] H Q := by
  unfold biSum at h
  split at h
  · rename_i xs e
    split at h
    · rename_i is e2
      cases h
      obtain ⟨p, vs, rfl, h1, h2, _⟩ := ha.lst k e
      rw [ints_rel h2 e2] at h1
      exact semC_of (cr_sum hc) ⟨_, _, rfl, h1, q _ _ _ (post_int k _)⟩
    · cases h
  · cases h
theorem bi_all {a r : R} {A : List Addr} (hc : X.calm = true) (k : Ok sp F H n) (ha : RRel X.w X.K sp F H x a A) (h : biAll a = some r) (q : ∀ v F' H', PostE X.w X.K sp F H r n v F' H' → Q v H') : semC X (.builtin "all") [x] H Q := by
  unfold biAll at h
  split at h
  · rename_i xs e
    split at h
    · rename_i is e2
      cases h
      obtain ⟨p, vs, rfl, h1, h2, _⟩ := ha.lst k e
      rw [bools_rel h2 e2] at h1
      exact semC_of (cr_all hc) ⟨_, _, rfl, h1, q _ _ _ (post_bl k _)⟩
    · cases h
  · cases h
theorem bi_any {a r : R} {A : List Addr} (hc : X.calm = true) (k : Ok sp F H n) (ha : RRel X.w X.K sp F H x a A) (h : biAny a = some r) (q : ∀ v F' H', PostE X.w X.K sp F H r n v F' H' → Q v H') : semC X (.builtin "any") [x] H Q := by
  unfold biAny at h
  split at h
  · rename_i xs e
    split at h
    · rename_i is e2
      cases h
      obtain ⟨p, vs, rfl, h1, h2, _⟩ := ha.lst k e
      rw [bools_rel h2 e2] at h1
      exact semC_of (cr_any hc) ⟨_, _, rfl, h1, q _ _ _ (post_bl k _)⟩
    · cases h
  · cases h
theorem bi_tuple {a r : R} {A : List Addr} (k : Ok sp F H n) (ha : RRel X.w X.K sp F H x a A) (h : biTuple a = some r) (q : ∀ v F' H', PostE X.w X.K sp F H r n v F' H' → Q v H') : semC X (.type "tuple") [x] H Q := by
  unfold biTuple at h
  split at h
  · rename_i xs e
    split at h
    · rename_i hk
      cases h
      obtain ⟨p, vs, rfl, h1, h2, h3⟩ := ha.lst k e
      exact semC_of call_tuple_of ⟨_, _, rfl, .inl ⟨h1, fun p hp => q _ _ _ (post_tup k hp (h3 hk))⟩⟩
    · cases h
  · rename_i xs e
    split at h
    · rename_i hk
      cases h
      obtain ⟨p, vs, rfl, h1, h2, h3⟩ := ha.tup k e
      exact semC_of call_tuple_of ⟨_, _, rfl, .inr ⟨k.sub.t h1, q _ _ _ (post_im k (.tup h1 (h3 hk)))⟩⟩
    · cases h
  · cases h
theorem bi_str {a r : R} {A : List Addr} (k : Ok sp F H n) (ha : RRel X.w X.K sp F H x a A) (h : biStr a = some r) (q : ∀ v F' H', PostE X.w X.K sp F H r n v F' H' → Q v H') : semC X (.type "str") [x] H Q := by
  unfold biStr at h
  split at h
  · rename_i i e
    split at h
    · rename_i hl
      cases h
      rw [ha.int k (opInt_some e)]
      exact semC_of call_str_int ⟨_, rfl, hl, q _ _ _ (post_im k (.str _))⟩
    · cases h
  · cases h
end
end Lk
end
section
set_option linter.all false
set_option maxRecDepth 100000
set_option maxHeartbeats 2000000
/-! sorted(list). -/
namespace Lk
open PySem PySem.Spec PyProof.Rows L2
section
variable {X : Cx} {sp : Option Addr} {F H : Hp} {n : Int} {x : V} {Q : VK}
theorem sortOk_all {xs : List D} (h : sortOk xs = true) : PySem.W.AllAlike xs ∧ PySem.W.Sortable xs ∧ ∀ d ∈ xs, d.depth ≤ 60 := by
  unfold sortOk at h
  rw [Bool.and_eq_true, Bool.or_eq_true] at h
  obtain ⟨h1, h2⟩ := h
  have g : ∀ a ∈ xs, ∀ b ∈ xs, PySem.W.alike a b = true ∧ a.depth ≤ 60 := fun a ha b hb => by
    have z := List.all_eq_true.mp (List.all_eq_true.mp h1 a ha) b hb
    rw [Bool.and_eq_true, decide_eq_true_eq] at z
    exact z
  refine ⟨fun a ha b hb => (g a ha b hb).1, h2.imp (fun h d hd => ?_) (fun h d hd => ?_), fun d hd => (g d hd d hd).2⟩
  · have z := List.all_eq_true.mp h d hd
    split at z
    · exact ⟨_, _, rfl⟩
    · cases z
  · have z := List.all_eq_true.mp h d hd
    cases d <;> first | exact absurd z Bool.false_ne_true | exact ⟨(fun e => by cases e), (fun xs e => by cases e)⟩
theorem sort_pairs (vs : List V) (xs : List D) (h : vs.length = xs.length) : ((vs.zip xs).mergeSort (PySem.W.dataLe false (·.2))).map (·.2) = sortD xs := by
  unfold sortD
  have e := List.map_mergeSort (r := PySem.W.dataLe false fun b : V × D => b.2) (s := PySem.W.dataLe false id) (f := fun b : V × D => b.2) (l := vs.zip xs) (fun a _ b _ => rfl)
  have e2 : (vs.zip xs).map (fun b : V × D => b.2) = xs := List.map_snd_zip (by omega)
  rw [e2] at e
  exact e
theorem each_out {w : World} {K : KF} : ∀ {us : List Value} {bs : List (V × D)}, PySem.W.EachIs (fun (u : Value) (b : V × D) => RelV b.1 u ∧ Rp w K F b.1 b.2) us bs → Vals (bs.map (·.1)) us ∧ RpA w K F (bs.map (·.1)) (bs.map (·.2))
  | _, _, .nil => ⟨.nil, .nil⟩
  | _, _, .cons h t => by
    obtain ⟨h1, h2⟩ := each_out t
    exact ⟨.cons h.1 h1, .cons h.2 h2⟩
theorem each_in {w : World} {K : KF} {R : Value → V × D → Prop} : ∀ {vs : List V} {us : List Value} {xs : List D}, Vals vs us → RpA w K F vs xs → (∀ v u d, v ∈ vs → d ∈ xs → RelV v u → Rp w K F v d → R u (v, d)) → PySem.W.EachIs R us (vs.zip xs)
  | _, _, _, .nil, .nil, _ => .nil
  | _, _, _, .cons r rs, .cons p ps, h => .cons (h _ _ _ (List.mem_cons_self ..) (List.mem_cons_self ..) r p) (each_in rs ps fun v u d hv hd => h v u d (List.mem_cons_of_mem _ hv) (List.mem_cons_of_mem _ hd))
theorem key_back {w : World} {K : KF} {F : Hp} : ∀ {L : List (NestedKey × Addr)} {ds : List D}, KeyL w K F L ds → RpA w K F (L.map fun p => V.ref p.2) ds ∧ L.length = ds.length ∧ ds.map nk = L.map (fun p => some p.1)
  | _, _, .nil => ⟨.nil, rfl, rfl⟩
  | _, _, .cons a _ c => by
    obtain ⟨h1, h2, h3⟩ := key_back c
    cases a with
    | tup g1 g2 g3 => exact ⟨.cons g1 h1, by rw [List.length_cons, List.length_cons, h2], by rw [List.map_cons, List.map_cons, g2, h3]⟩
theorem KeyL.at_ {X : Cx} {pins : List (Addr × Obj)} {σ : L2.St} {H : Hp} {s : Shared} (I : Inv X pins σ H s) : ∀ {L : List (NestedKey × Addr)} {ds : List D}, KeyL X.w X.K H L ds → ∀ p ∈ L, KeyAt s.heap p.1 p.2
  | _, _, .nil => fun p z => nomatch z
  | _, _, .cons a b c => fun p hp => by
    cases a with
    | tup g1 g2 g3 =>
      rcases List.mem_cons.mp hp with rfl | hp
      · exact ⟨Rp.key I g1 rfl g2, g3, b⟩
      · exact KeyL.at_ I c p hp
theorem KeyL.lift {w : World} {K : KF} {F F' : Hp} (e : FH F F') : ∀ {L : List (NestedKey × Addr)} {ds : List D}, KeyL w K F L ds → KeyL w K F' L ds
  | _, _, .nil => .nil
  | _, _, .cons a b c => .cons (a.lift e) b (KeyL.lift e c)
theorem set_get {pins : List (Addr × Obj)} {σ : L2.St} {s : Shared} {a : Addr} {L : List (NestedKey × Addr)} {ds : List D} (I : Inv X pins σ H s) (ha : H a = some (SN X.w a L)) (kl : KeyL X.w X.K H L ds) : ∃ es ep t, SetN X.w s.heap a L es ep t := by
  obtain ⟨es, ep, t, h1, h2, h3, h4, h5, h6, h7⟩ : ∃ (es : Array (Int × Value)) (ep : Nat) (t : SetTable), _ := (I.hok a _ ha).1
  exact ⟨es, ep, t, h1, h2, h3, h4, kl.at_ I, h5, h6, h7⟩
theorem each_vals {w : World} {K : KF} {F : Hp} : ∀ {bs : List (V × D)} {us : List Value}, (∀ b ∈ bs, ∃ p, b.1 = V.ref p ∧ Rp w K F b.1 b.2) → us = bs.map (fun b => match b.1 with | .ref p => Value.ref p | _ => .none) →
    PySem.W.EachIs (fun (u : Value) (b : V × D) => RelV b.1 u ∧ Rp w K F b.1 b.2) us bs
  | [], _, _, e => by subst e; exact .nil
  | b :: bs, _, h, e => by
    subst e
    obtain ⟨p, e1, e2⟩ := h b (List.mem_cons_self ..)
    refine .cons ⟨?_, e2⟩ (each_vals (fun b hb => h b (List.mem_cons_of_mem _ hb)) rfl)
    obtain ⟨v, d⟩ := b
    cases (show v = V.ref p from e1)
    rfl
theorem rpA_zip {w : World} {K : KF} {F : Hp} : ∀ {us : List V} {zs : List D}, RpA w K F us zs → ∀ b ∈ us.zip zs, Rp w K F b.1 b.2
  | _, _, .nil => fun b z => nomatch z
  | _, _, .cons r1 r2 => fun b hb => by
    rcases List.mem_cons.mp hb with rfl | hb
    · exact r1
    · exact rpA_zip r2 b hb
/-- what stands behind the collecting -/
theorem sort_tail {pins : List (Addr × Obj)} {σ : L2.St} {s1 : Shared} {xs : List D} {bs : List (V × D)} {vs : List Value} {Q : Value → Shared → Prop} {E : Value → Shared → Prop} (hu : X.A.units + 65 < cLine) (I : Inv X pins σ H s1) (k : Ok sp F H n)
    (al : PySem.W.AllAlike xs) (so : PySem.W.Sortable xs) (dp : ∀ d ∈ xs, d.depth ≤ 60) (hz : xs.length ≤ cap)
    (hbs : ∀ b ∈ bs, ∃ p, b.1 = V.ref p ∧ Rp X.w X.K F b.1 b.2) (eb : vs = bs.map (fun b => match b.1 with | .ref p => Value.ref p | _ => .none)) (hsnd : (bs.map (·.2)).Perm xs) (hfin : sortD (bs.map (·.2)) = sortD xs)
    (q : ∀ (vs : List V) (p : Addr) s', H p = none → RpA X.w X.K F vs (sortD xs) → Inv X pins σ (upd H p (.lst vs)) s' → Q (.ref p) s') :
    wpAny (model X.prog X.w) X.A.in1 (newList vs >>= fun l => (do let _ ← holding [l] (call (.builtin "list.sort") [l] []); ret l)) (fun r s' => ∃ v, r = .done (.ret v) ∧ Q v s') E s1 := by
  have hbl : bs.length = xs.length := by rw [← hsnd.length_eq, List.length_map]
  have hvl : vs.length = xs.length := by rw [eb, List.length_map, hbl]
  have hin : ∀ b ∈ bs, b.2 ∈ xs := fun b hb => hsnd.mem_iff.mp (List.mem_map.mpr ⟨b, hb, rfl⟩)
  refine wpAny_bind (wpAny_newList ?_ (by rw [hvl]; exact cap_le hz))
  have hoL : (s1.heap.push (seqObj "list" vs.toArray 0)).get? s1.heap.objs.size = some (seqObj "list" vs.toArray 0) := Heap.get?_push_size _ rfl
  have ev : PySem.W.EachIs (fun (u : Value) (b : V × D) => RelV b.1 u ∧ Rp X.w X.K F b.1 b.2) vs bs := each_vals hbs eb
  have kp : ∀ b ob, s1.heap.get? b = some ob → (s1.heap.push (seqObj "list" vs.toArray 0)).get? b = some ob := fun b ob e => Heap.get?_push_of_some _ e
  have er : PySem.W.EachIs (fun (u : Value) (b : V × D) => ∃ as, Reads (s1.heap.push (seqObj "list" vs.toArray 0)) u b.2 as ∧ s1.heap.objs.size ∉ as) vs bs := by
    refine (PySem.W.each_mem ev).mono fun u b hh => ?_
    obtain ⟨⟨r, rp⟩, hb⟩ := hh
    obtain ⟨as, rd⟩ := Dp.reads I b.2 b.1 u ((rp.lift k.sub).dp (nod_of_self b.2 (al b.2 (hin b hb) b.2 (hin b hb)))) r
    refine ⟨as, PyProof.Rows.Reads.keeps kp rd, fun z => ?_⟩
    obtain ⟨ob, e⟩ := PyProof.On.reads_mem_get rd _ z
    exact absurd (Heap.lt_size e) (Nat.lt_irrefl _)
  refine wpAny_bind (wpAny_holding (PySem.W.list_sort_data (s := { s1 with heap := s1.heap.push (seqObj "list" vs.toArray 0) }) (enc := fun b : V × D => b.2) hoL ev er (fun d hd d' hd' => ?_) ?_ (by rw [hbl]; exact cap_le hz) (fun b hb => ?_) fun out ho2 eo => ?_))
  · exact al d (hsnd.mem_iff.mp hd) d' (hsnd.mem_iff.mp hd')
  · exact so.imp (fun h d hd => h d (hsnd.mem_iff.mp hd)) fun h d hd => h d (hsnd.mem_iff.mp hd)
  · have := dp b.2 (hin b hb)
    show X.A.units + 1 + 1 + _ < cLine
    omega
  obtain ⟨c, hc2⟩ := sortedHeap_at (vs := vs) (out := out.toArray) hoL
  obtain ⟨v1, v2⟩ := each_out (w := X.w) (K := X.K) (F := F) eo
  have e3 : (bs.mergeSort (PySem.W.dataLe false (·.2))).map (·.2) = sortD xs := by
    have e := List.map_mergeSort (r := PySem.W.dataLe false fun b : V × D => b.2) (s := PySem.W.dataLe false id) (f := fun b : V × D => b.2) (l := bs) (fun a _ b _ => rfl)
    rw [e]
    exact hfin
  rw [e3] at v2
  have hlen2 : ((bs.mergeSort (PySem.W.dataLe false fun b : V × D => b.2)).map (·.1)).length ≤ sizeLine := by
    rw [v1.length, ho2, hbl]; exact cap_le hz
  have hn : H s1.heap.objs.size = none := I.hok.fresh (Nat.le_refl _)
  have kk : ∀ b ob, s1.heap.get? b = some ob → (sortedHeap (s1.heap.push (seqObj "list" vs.toArray 0)) s1.heap.objs.size vs out.toArray).get? b = some ob := fun b ob e => by
    have hlt := Heap.lt_size e
    rw [sortedHeap_old (Nat.ne_of_lt hlt) (by rw [size_push']; exact Nat.lt_succ_of_lt hlt)]
    exact Heap.get?_push_of_some _ e
  exact wpAny_pure ⟨_, rfl, q _ s1.heap.objs.size _ hn v2 (I.laid (t' := s1.toks) kk (Nat.le_refl _) ⟨hlen2, out, c, v1, hc2⟩)⟩
theorem nodup_some {ds : List D} {ks : List NestedKey} (e : ds.map nk = ks.map some) (nd : ks.Nodup) : (ds.map nk).Nodup ∧ ∀ d ∈ ds, (nk d).isSome = true := by
  refine ⟨?_, fun d hd => ?_⟩
  · rw [e]
    exact List.Pairwise.map (R := fun a b : NestedKey => a ≠ b) (S := fun a b : Option NestedKey => a ≠ b) some (fun a b h e => h (Option.some.inj e)) nd
  · have : nk d ∈ ds.map nk := List.mem_map.mpr ⟨d, hd, rfl⟩
    rw [e] at this
    obtain ⟨p, _, e⟩ := List.mem_map.mp this
    rw [← e]; rfl
theorem sorted_set3 {pins : List (Addr × Obj)} {σ : L2.St} {s : Shared} {a : Addr} {xs : List D} {Q : Value → Shared → Prop} {E : Value → Shared → Prop} (hc : X.calm = true) (hu : X.A.units + 65 < cLine) (I : Inv X pins σ H s) (k : Ok sp F H n) (h : SetH X.w X.K F H a xs) (hs : sortOk xs = true) (hz : xs.length < 4096)
    (q : ∀ (vs : List V) (p : Addr) s', H p = none → RpA X.w X.K F vs (sortD xs) → Inv X pins σ (upd H p (.lst vs)) s' → Q (.ref p) s') : wpAny (model X.prog X.w) X.A (call (.builtin "sorted") [.ref a]) Q E s := by
  obtain ⟨L, ds, g1, g2, g3⟩ := h
  obtain ⟨es, ep, t, R⟩ := set_get I g1 (g2.lift k.sub)
  obtain ⟨o, ho, hex, hd⟩ := R.ob
  obtain ⟨kb1, kb2, kb3⟩ := key_back g2
  have hlen : L.length = xs.length := by rw [kb2, g3.length_eq]
  obtain ⟨al, so, dp⟩ := sortOk_all hs
  refine Calls.call_function_entry kind_sorted plain_sorted entry_sorted (args_sorted1 _) ?_
  unfold Builtin.«sorted»
  refine wpAny_bind (m := checkCount "sorted" 1 1 _) (wpAny_pure ?_)
  refine wpAny_bind (collect_set (A := X.A.in1) (I.ok.hd hc) ⟨o, ho, hex.1, hd⟩ R.fits (by rw [R.size, hlen]; exact hz) R.tab.ris R.led fun s1 vs k1 hz1 gg1 o1 pm => ?_)
  have e0 : es.toList.map (·.2) = (((L.map fun p => V.ref p.2).zip ds)).map (fun b : V × D => match b.1 with | .ref p => Value.ref p | _ => .none) := by
    rw [R.rows]
    have z : ((L.map fun p => V.ref p.2).zip ds).map (fun b : V × D => b.1) = L.map fun p => V.ref p.2 := List.map_fst_zip (by rw [List.length_map, kb2]; exact Nat.le_refl _)
    have z2 : ((L.map fun p => V.ref p.2).zip ds).map (fun b : V × D => match b.1 with | .ref p => Value.ref p | _ => .none) = (((L.map fun p => V.ref p.2).zip ds).map (fun b : V × D => b.1)).map (fun v => match v with | .ref p => Value.ref p | _ => .none) := by rw [List.map_map]; rfl
    rw [z2, z, List.map_map, List.map_map]
    rfl
  obtain ⟨bs, pb, eb⟩ := perm_pre pm _ e0
  have hsnd : (bs.map (·.2)).Perm xs := by
    have z := pb.map (·.2)
    have z2 : ((L.map fun p => V.ref p.2).zip ds).map (·.2) = ds := List.map_snd_zip (by rw [List.length_map, kb2]; exact Nat.le_refl _)
    rw [z2] at z
    exact z.trans g3
  obtain ⟨n1, n2⟩ := nodup_some (ks := L.map (·.1)) (by rw [kb3, List.map_map]; rfl) R.nd
  have I1 : Inv X pins σ H s1 := I.call' (ch := []) o1 (Un.kept k1) (I.hok.kept k1) (by rw [show s1.gens = s.gens from gg1]; exact I.bare) (fun _ z => nomatch z)
  refine sort_tail hu I1 k al so dp (Nat.le_trans (Nat.le_of_lt hz) (by decide)) (fun b hb => ?_) eb hsnd (sortD_perm hsnd (fun a ha b hb => al a (hsnd.mem_iff.mp ha) b (hsnd.mem_iff.mp hb)) (fun d hd => n2 d (g3.mem_iff.mpr (hsnd.mem_iff.mp hd))) (((hsnd.trans g3.symm).map nk).nodup_iff.mpr n1)) q
  have hm := pb.mem_iff.mp hb
  obtain ⟨hm1, hm2⟩ := List.of_mem_zip (a := b.1) (b := b.2) hm
  obtain ⟨p, _, e⟩ := List.mem_map.mp hm1
  exact ⟨p.2, e.symm, rpA_zip kb1 b hm⟩
theorem keys_rel {w : World} {K : KF} {F : Hp} : ∀ {xs : List (NestedKey × Addr × V)} {kds : List (D × D)}, RpE w K F (xs.map fun p => (KE.t p.1 p.2.1, p.2.2)) kds → RpA w K F (xs.map fun p => V.ref p.2.1) (kds.map (·.1))
  | [], _, h => by cases h; exact .nil
  | x :: xs, _, h => by
    cases h with
    | cons a b c =>
      cases a with
      | tup g1 g2 g3 => exact .cons g1 (keys_rel c)
theorem paired_get {α β : Type} {R : α → β → Prop} : ∀ {xs : List α} {ys : List β}, Paired R xs ys → ∀ (i : Nat) y, ys[i]? = some y → ∃ x, xs[i]? = some x ∧ R x y
  | _, _, .nil, _, _, h => by simp at h
  | _, _, .cons a _, 0, y, h => by simp at h; subst h; exact ⟨_, rfl, a⟩
  | _, _, .cons _ b, i + 1, y, h => by simpa using paired_get b i y (by simpa using h)
theorem sorted_dict3 {pins : List (Addr × Obj)} {σ : L2.St} {s : Shared} {a : Addr} {es : List (KE × V)} {kds : List (D × D)} {Q : Value → Shared → Prop} {E : Value → Shared → Prop} (hc : X.calm = true) (hu : X.A.units + 65 < cLine) (I : Inv X pins σ H s) (k : Ok sp F H n) (h : DH X.w H a es) (re : RpE X.w X.K (Hm sp H) es kds)
    (hs : sortOk (kds.map (·.1)) = true) (hk : ∀ p ∈ kds, keyT p.1 = true) (hp : purs (kds.map (·.1)) = true) (hz : kds.length ≤ cap)
    (q : ∀ (vs : List V) (p : Addr) s', H p = none → RpA X.w X.K F vs (sortD (kds.map (·.1))) → Inv X pins σ (upd H p (.lst vs)) s' → Q (.ref p) s') : wpAny (model X.prog X.w) X.A (call (.builtin "sorted") [.ref a]) Q E s := by
  obtain ⟨z, lo, xs, ys, e, nd, rel, dd⟩ := dnst I h (re.mono hm_sub) (RpE.allT re hk)
  obtain ⟨ea, ep, raw, hsz, hkey⟩ := dd.raw
  subst e
  have rk := RpA.pureF k ((keys_rel re).mono hm_sub) hp
  obtain ⟨al, so, dp⟩ := sortOk_all hs
  have hxl : xs.length = kds.length := by have := rk.length; simpa using this
  have hyl : ys.length = xs.length := (Paired.length rel).symm
  refine Calls.call_function_entry kind_sorted plain_sorted entry_sorted (args_sorted1 _) ?_
  unfold Builtin.«sorted»
  refine wpAny_bind (m := checkCount "sorted" 1 1 _) (wpAny_pure ?_)
  refine wpAny_bind (PySem.W.kdu_collect (A := X.A.in1) (KdlSrc.rawDict (es := ea) (ep := ep) lo) (I.ok.hd hc) raw (by rw [hsz, hyl, hxl]; exact cap_le hz) fun h' tk acc k1 hacc => ?_)
  have hal : acc.toList.length = xs.length := by rw [Array.length_toList, hacc.1, hsz, hyl]
  have e0 : acc.toList = xs.map fun p => Value.ref p.2.1 := by
    refine List.ext_getElem? fun i => ?_
    rw [List.getElem?_map]
    cases hv : acc.toList[i]? with
    | none =>
      rw [List.getElem?_eq_none_iff] at hv
      rw [List.getElem?_eq_none (by omega)]; rfl
    | some v =>
      obtain ⟨hi, ev⟩ := hacc.2 i v (by rw [← Array.getElem?_toList]; exact hv)
      obtain ⟨y, hy, ek, _, _⟩ := hkey i hi
      obtain ⟨x, hx, _, r2, _⟩ := paired_get rel i y hy
      rw [hx, ev, ek]
      show some (Value.ref y.2.1) = some (Value.ref x.2.1)
      rw [r2]
  have eb : acc.toList = ((xs.map fun p => V.ref p.2.1).zip (kds.map (·.1))).map (fun b : V × D => match b.1 with | .ref p => Value.ref p | _ => .none) := by
    have z : ((xs.map fun p => V.ref p.2.1).zip (kds.map (·.1))).map (fun b : V × D => b.1) = xs.map fun p => V.ref p.2.1 := List.map_fst_zip (by rw [List.length_map, List.length_map, hxl]; exact Nat.le_refl _)
    have z2 : ((xs.map fun p => V.ref p.2.1).zip (kds.map (·.1))).map (fun b : V × D => match b.1 with | .ref p => Value.ref p | _ => .none) = (((xs.map fun p => V.ref p.2.1).zip (kds.map (·.1))).map (fun b : V × D => b.1)).map (fun v => match v with | .ref p => Value.ref p | _ => .none) := by rw [List.map_map]; rfl
    rw [z2, z, e0, List.map_map]
    rfl
  have hsnd : ((xs.map fun p => V.ref p.2.1).zip (kds.map (·.1))).map (·.2) = kds.map (·.1) := List.map_snd_zip (by rw [List.length_map, List.length_map, hxl]; exact Nat.le_refl _)
  exact sort_tail (s1 := { s with heap := h', toks := tk }) hu (I.kept k1) k al so dp (by rw [List.length_map]; exact hz) (fun b hb => by
      obtain ⟨hm1, hm2⟩ := List.of_mem_zip (a := b.1) (b := b.2) hb
      obtain ⟨p, _, e⟩ := List.mem_map.mp hm1
      exact ⟨p.2.1, e.symm, rpA_zip rk b hb⟩) eb (by rw [hsnd]) (by rw [hsnd]) q
theorem bi_sorted {a r : R} {A : List Addr} (hc : X.calm = true) (hu : X.A.units + 65 < cLine) (k : Ok sp F H n) (ha : RRel X.w X.K sp F H x a A) (h : biSorted a = some r) (q : ∀ v F' H', PostE X.w X.K sp F H r n v F' H' → Q v H') : semC X (.builtin "sorted") [x] H Q := by
  have key : ∀ {xs : List D}, a.dat = some (.list xs) → (sortOk xs && (a.kids || purs xs)) = true → r = .fr (.li (sortD xs)) → semC X (.builtin "sorted") [x] H Q := by
    intro xs hd hs hr
    subst hr
    rw [Bool.and_eq_true] at hs
    obtain ⟨hs, hk⟩ := hs
    obtain ⟨p, vs, rfl, h1, _, h2⟩ := ha.lst k hd
    have rp := h2 hk
    obtain ⟨al, so, dp⟩ := sortOk_all hs
    intro pins s σ us I rv
    have e1 := Vals.ref1 rv
    subst e1
    obtain ⟨its, rv2, pl, hz⟩ := I.list h1
    have rpH : ∀ v d, Rp X.w X.K F v d → Rp X.w X.K H v d := fun v d z => z.lift k.sub
    have hen : (vs.zip xs).map (fun b : V × D => b.2) = xs := List.map_snd_zip (by rw [rp.length]; exact Nat.le_refl _)
    refine PySem.W.sorted_data (bs := vs.zip xs) (enc := fun b : V × D => b.2) (R := fun (u : Value) (b : V × D) => RelV b.1 u ∧ Rp X.w X.K F b.1 b.2) pl.isList
      (each_in rv2 rp fun v u d _ _ r p => ⟨r, p⟩) (each_in rv2 rp fun v u d _ hd r p => Dp.reads I d v u ((rpH v d p).dp (nod_of_self d (al d hd d hd))) r)
      (by rw [hen]; exact al) (by rw [hen]; exact so) (by rw [List.length_zip]; omega) (fun b hb => ?_) fun out ho eo => ?_
    · have := dp b.2 (List.of_mem_zip hb).2
      omega
    · obtain ⟨o1, o2⟩ := each_out (w := X.w) (K := X.K) (F := F) eo
      rw [sort_pairs vs xs rp.length] at o2
      obtain ⟨ep, he⟩ := PyProof.Rows.sortedAll_at s.heap its out.toArray
      have hlen : (((vs.zip xs).mergeSort (PySem.W.dataLe false fun b : V × D => b.2)).map (·.1)).length ≤ sizeLine := by
        rw [o1.length, ho, List.length_zip]; omega
      exact ⟨.ref _, upd H (s.heap.objs.size + 1) (.lst _), I.laid (t' := s.toks) (fun _ _ => PyProof.Rows.sortedAll_old) (Nat.le_succ _) ⟨hlen, out, ep, o1, he⟩, rfl, q _ _ _ (post_li k (I.hok.fresh (Nat.le_succ _)) o2)⟩
  unfold biSorted at h
  split at h
  · cases ha with
    | fr ow _ _ => cases ow with
      | se h1 =>
        split at h
        · rename_i hcnd
          cases h
          rw [Bool.and_eq_true, decide_eq_true_eq] at hcnd
          intro pins s σ us I rv
          have e1 := Vals.ref1 rv
          subst e1
          exact sorted_set3 hc hu I k h1 hcnd.1 hcnd.2 fun vs p s' hn rp I' => ⟨.ref p, _, I', rfl, q _ _ _ (post_li k hn rp)⟩
        · cases h
  · split at h
    · rename_i xs e
      split at h
      · rename_i hc
        cases h
        exact key e hc rfl
      · cases h
    · rename_i kvs e
      split at h
      · rename_i hcnd
        cases h
        rw [Bool.and_eq_true, Bool.and_eq_true, Bool.and_eq_true, decide_eq_true_eq] at hcnd
        obtain ⟨⟨c1, c2, c3⟩, c4⟩ := hcnd
        have hnx : excOf (.dict kvs) = none := by
          unfold excOf
          split
          · rename_i ee; cases ee; simp [Lk.keyT] at c2
          · rfl
        obtain ⟨p, es, rfl, g1, g2, _⟩ := ha.dct k e hnx
        intro pins s σ us I rv
        have e1 := Vals.ref1 rv
        subst e1
        exact sorted_dict3 hc hu I k g1 g2 c1 (fun p hp => List.all_eq_true.mp c2 p hp) c3 c4 fun vs p s' hn rp I' => ⟨.ref p, _, I', rfl, q _ _ _ (post_li k hn rp)⟩
      · cases h
    · cases h
end
end Lk
end
section
set_option linter.all false
set_option maxRecDepth 100000
set_option maxHeartbeats 2000000
/-! min, max of ints. -/
namespace Lk
open PySem PySem.Spec PyProof.Rows L2
theorem best_min : ∀ (is : List Int) (i : Int), bestI (fun x m => decide (x < m)) i is ∈ i :: is ∧ ∀ y ∈ i :: is, bestI (fun x m => decide (x < m)) i is ≤ y
  | [], i => ⟨List.mem_cons_self .., fun y hy => by rw [List.mem_singleton] at hy; subst hy; exact Int.le_refl _⟩
  | x :: r, i => by
    obtain ⟨h1, h2⟩ := best_min r (if decide (x < i) = true then x else i)
    have e : bestI (fun x m => decide (x < m)) i (x :: r) = bestI (fun x m => decide (x < m)) (if decide (x < i) = true then x else i) r := rfl
    rw [e]
    refine ⟨?_, fun y hy => ?_⟩
    · rcases List.mem_cons.mp h1 with z | z
      · rw [z]
        split
        · simp
        · simp
      · exact List.mem_cons_of_mem _ (List.mem_cons_of_mem _ z)
    · have z := h2 _ (List.mem_cons_self ..)
      rcases List.mem_cons.mp hy with q | q
      · subst q
        by_cases hx : x < y
        · simp only [hx, decide_true, if_true] at z ⊢; omega
        · simp only [hx, decide_false] at z ⊢; exact z
      · rcases List.mem_cons.mp q with q | q
        · subst q
          by_cases hx : y < i
          · simp only [hx, decide_true, if_true] at z ⊢; exact z
          · simp only [hx, decide_false] at z ⊢
            exact Int.le_trans z (by simpa using (by omega : i ≤ y))
        · exact h2 y (List.mem_cons_of_mem _ q)
theorem best_max : ∀ (is : List Int) (i : Int), bestI (fun x m => decide (m < x)) i is ∈ i :: is ∧ ∀ y ∈ i :: is, y ≤ bestI (fun x m => decide (m < x)) i is
  | [], i => ⟨List.mem_cons_self .., fun y hy => by rw [List.mem_singleton] at hy; subst hy; exact Int.le_refl _⟩
  | x :: r, i => by
    obtain ⟨h1, h2⟩ := best_max r (if decide (i < x) = true then x else i)
    have e : bestI (fun x m => decide (m < x)) i (x :: r) = bestI (fun x m => decide (m < x)) (if decide (i < x) = true then x else i) r := rfl
    rw [e]
    refine ⟨?_, fun y hy => ?_⟩
    · rcases List.mem_cons.mp h1 with z | z
      · rw [z]
        split
        · simp
        · simp
      · exact List.mem_cons_of_mem _ (List.mem_cons_of_mem _ z)
    · have z := h2 _ (List.mem_cons_self ..)
      rcases List.mem_cons.mp hy with q | q
      · subst q
        by_cases hx : y < x
        · simp only [hx, decide_true, if_true] at z ⊢; omega
        · simp only [hx, decide_false] at z ⊢; exact z
      · rcases List.mem_cons.mp q with q | q
        · subst q
          by_cases hx : i < y
          · simp only [hx, decide_true, if_true] at z ⊢; exact z
          · simp only [hx, decide_false] at z ⊢
            exact Int.le_trans (by simpa using (by omega : y ≤ i)) z
        · exact h2 y (List.mem_cons_of_mem _ q)
section
variable {X : Cx} {sp : Option Addr} {F H : Hp} {n : Int} {x : V} {Q : VK}
theorem int_at {ns : List Int} {its : List Value} (rv2 : Vals (ns.map V.int) its) : ∀ (j : Nat) (v : Value), its.toArray[j]? = some v → ∃ t, v = Value.int (ns.getD j 0) t := fun j v hj => by
  have hl : its.length = ns.length := by rw [← rv2.length, List.length_map]
  have hj : its[j]? = some v := by simpa using hj
  have hlt : j < ns.length := by
    rcases Nat.lt_or_ge j its.length with z | z
    · omega
    · rw [List.getElem?_eq_none z] at hj; cases hj
  have hv : (ns.map V.int)[j]? = some (.int (ns.getD j 0)) := by
    rw [List.getElem?_map, List.getElem?_eq_getElem hlt]
    simp [List.getD_eq_getElem?_getD, List.getElem?_eq_getElem hlt]
  obtain ⟨u, hu, r⟩ := rv2.get hv
  rw [hj] at hu
  cases hu
  exact r
theorem tup_min (hc : X.calm = true) {p : Addr} {ns : List Int} (h : SqT X.K H p (ns.map V.int)) (hne : 0 < ns.length) (q : ∀ m, m ∈ ns → (∀ y, y ∈ ns → m ≤ y) → Q (.int m) H) : semC X (.builtin "min") [.ref p] H Q := by
  intro pins s σ us I rv
  have e1 := Vals.ref1 rv
  subst e1
  obtain ⟨its, rv2, ht, hz⟩ := I.tuple h
  have ht : s.heap.IsTuple p its.toArray := ht
  have hl : its.length = ns.length := by rw [← rv2.length, List.length_map]
  have hlt : p < s.heap.objs.size := by obtain ⟨o, e, _⟩ := id ht; exact Heap.lt_size e
  refine call_min_walk (wpAny_pyIter_tuple ht ?_)
  refine ⟨s.heap.objs.size, _, _, _, _, _, _, rfl, Walks.tuple (A := X.A.in1) (I.ok.hd hc) s.heap.objs.size p (Nat.ne_of_lt hlt) its.toArray, ⟨⟨_, Heap.get?_push_size _ rfl, rfl, rfl⟩, ?_⟩, fun b hb => ?_, by simp; omega, CmpOf.ints_lt (fun j => ns.getD j 0) (int_at rv2), fun v h' tk hP hk => ?_⟩
  · obtain ⟨o, e, r⟩ := ht
    exact ⟨o, Heap.get?_push_of_some _ e, r⟩
  · show b < (s.heap.push _).objs.size
    rw [Heap.size_push]
    rcases List.mem_cons.mp hb with z | z
    · rw [z]; exact Nat.lt_succ_self _
    · rw [List.mem_singleton.mp z]; exact Nat.lt_succ_of_lt hlt
  · obtain ⟨t, rfl⟩ := int_at rv2 _ _ hP
    obtain ⟨a1, a2⟩ := argBest_lt (fun j => ns.getD j 0) (its.toArray.size - 1)
    have hsz : its.toArray.size = ns.length := by simp [hl]
    refine ⟨.int _, H, I.kept (fun b o e => ?_), ⟨t, rfl⟩, q _ ?_ fun y hy => ?_⟩
    · refine hk b o (fun z => ?_) (Heap.get?_push_of_some _ e)
      rw [List.mem_singleton.mp z] at e
      exact absurd (Heap.lt_size e) (Nat.lt_irrefl _)
    · exact PySem.getD_mem (by omega)
    · obtain ⟨j, hj, rfl⟩ := mem_getD hy
      exact a2 j (by omega)
theorem tup_max (hc : X.calm = true) {p : Addr} {ns : List Int} (h : SqT X.K H p (ns.map V.int)) (hne : 0 < ns.length) (q : ∀ m, m ∈ ns → (∀ y, y ∈ ns → y ≤ m) → Q (.int m) H) : semC X (.builtin "max") [.ref p] H Q := by
  intro pins s σ us I rv
  have e1 := Vals.ref1 rv
  subst e1
  obtain ⟨its, rv2, ht, hz⟩ := I.tuple h
  have ht : s.heap.IsTuple p its.toArray := ht
  have hl : its.length = ns.length := by rw [← rv2.length, List.length_map]
  have hlt : p < s.heap.objs.size := by obtain ⟨o, e, _⟩ := id ht; exact Heap.lt_size e
  refine call_max_walk (wpAny_pyIter_tuple ht ?_)
  refine ⟨s.heap.objs.size, _, _, _, _, _, _, rfl, Walks.tuple (A := X.A.in1) (I.ok.hd hc) s.heap.objs.size p (Nat.ne_of_lt hlt) its.toArray, ⟨⟨_, Heap.get?_push_size _ rfl, rfl, rfl⟩, ?_⟩, fun b hb => ?_, by simp; omega, CmpOf.ints_gt (fun j => ns.getD j 0) (int_at rv2), fun v h' tk hP hk => ?_⟩
  · obtain ⟨o, e, r⟩ := ht
    exact ⟨o, Heap.get?_push_of_some _ e, r⟩
  · show b < (s.heap.push _).objs.size
    rw [Heap.size_push]
    rcases List.mem_cons.mp hb with z | z
    · rw [z]; exact Nat.lt_succ_self _
    · rw [List.mem_singleton.mp z]; exact Nat.lt_succ_of_lt hlt
  · obtain ⟨t, rfl⟩ := int_at rv2 _ _ hP
    obtain ⟨a1, a2⟩ := argBest_gt (fun j => ns.getD j 0) (its.toArray.size - 1)
    have hsz : its.toArray.size = ns.length := by simp [hl]
    refine ⟨.int _, H, I.kept (fun b o e => ?_), ⟨t, rfl⟩, q _ ?_ fun y hy => ?_⟩
    · refine hk b o (fun z => ?_) (Heap.get?_push_of_some _ e)
      rw [List.mem_singleton.mp z] at e
      exact absurd (Heap.lt_size e) (Nat.lt_irrefl _)
    · exact PySem.getD_mem (by omega)
    · obtain ⟨j, hj, rfl⟩ := mem_getD hy
      exact a2 j (by omega)
theorem bi_best {nm : String} {lt : Int → Int → Bool} (hL : ∀ {p : Addr} {ns : List Int}, SqL X.K H p (ns.map V.int) → 0 < ns.length → (∀ i is, ns = i :: is → Q (.int (bestI lt i is)) H) → semC X (.builtin nm) [.ref p] H Q)
    (hT : ∀ {p : Addr} {ns : List Int}, SqT X.K H p (ns.map V.int) → 0 < ns.length → (∀ i is, ns = i :: is → Q (.int (bestI lt i is)) H) → semC X (.builtin nm) [.ref p] H Q)
    {a r : R} {A : List Addr} (k : Ok sp F H n) (ha : RRel X.w X.K sp F H x a A) (h : biBest lt a = some r) (q : ∀ v F' H', PostE X.w X.K sp F H r n v F' H' → Q v H') : semC X (.builtin nm) [x] H Q := by
  unfold biBest at h
  split at h
  · rename_i xs e
    split at h
    · rename_i i is hi
      cases h
      obtain ⟨p, vs, rfl, h1, h2, _⟩ := ha.lst k e
      have ev := ints_rel h2 hi
      subst ev
      exact hL h1 (by simp) fun j js hj => by cases hj; exact q _ _ _ (post_int k _)
    · cases h
  · rename_i xs e
    split at h
    · rename_i i is hi
      cases h
      obtain ⟨p, vs, rfl, h1, h2, _⟩ := ha.tup k e
      have ev := ints_rel h2 hi
      subst ev
      exact hT (k.sub.t h1) (by simp) fun j js hj => by cases hj; exact q _ _ _ (post_int k _)
    · cases h
  · cases h
theorem bi_min1 (hc : X.calm = true) {a r : R} {A : List Addr} (k : Ok sp F H n) (ha : RRel X.w X.K sp F H x a A) (h : biBest (fun x m => decide (x < m)) a = some r) (q : ∀ v F' H', PostE X.w X.K sp F H r n v F' H' → Q v H') : semC X (.builtin "min") [x] H Q := by
  have un : ∀ {ns : List Int} {m : Int}, (∀ i is, ns = i :: is → Q (.int (bestI (fun x m => decide (x < m)) i is)) H) → 0 < ns.length → m ∈ ns → (∀ y, y ∈ ns → m ≤ y) → Q (.int m) H := fun {ns m} hq hne hm hle => by
    cases ns with
    | nil => cases hm
    | cons i is =>
      obtain ⟨b1, b2⟩ := best_min is i
      rw [Int.le_antisymm (hle _ b1) (b2 _ hm)]
      exact hq i is rfl
  exact bi_best (fun hs hne hq => semC_of (cr_min hc) ⟨_, _, rfl, hs, hne, fun m hm hle => un hq hne hm hle⟩) (fun hs hne hq => tup_min hc hs hne fun m hm hle => un hq hne hm hle) k ha h q
theorem bi_max1 (hc : X.calm = true) {a r : R} {A : List Addr} (k : Ok sp F H n) (ha : RRel X.w X.K sp F H x a A) (h : biBest (fun x m => decide (m < x)) a = some r) (q : ∀ v F' H', PostE X.w X.K sp F H r n v F' H' → Q v H') : semC X (.builtin "max") [x] H Q := by
  have un : ∀ {ns : List Int} {m : Int}, (∀ i is, ns = i :: is → Q (.int (bestI (fun x m => decide (m < x)) i is)) H) → 0 < ns.length → m ∈ ns → (∀ y, y ∈ ns → y ≤ m) → Q (.int m) H := fun {ns m} hq hne hm hle => by
    cases ns with
    | nil => cases hm
    | cons i is =>
      obtain ⟨b1, b2⟩ := best_max is i
      rw [Int.le_antisymm (b2 _ hm) (hle _ b1)]
      exact hq i is rfl
  exact bi_best (fun hs hne hq => semC_of (cr_max hc) ⟨_, _, rfl, hs, hne, fun m hm hle => un hq hne hm hle⟩) (fun hs hne hq => tup_max hc hs hne fun m hm hle => un hq hne hm hle) k ha h q
end
end Lk
end
section
set_option linter.all false
set_option maxRecDepth 100000
set_option maxHeartbeats 1000000
/-! The program's own syntax as terms of the small language. -/
namespace Lk
open PySem PySem.Spec PyProof.Rows L2
def asName : Expr → Option Str
  | .Name x _ => some x
  | _ => none
theorem asName_some {e : Expr} {x : Str} (h : asName e = some x) : ∃ p, e = .Name x p := by
  cases e <;> simp [asName] at h
  exact ⟨_, by rw [h]⟩
def asBin : Expr → Option (Expr × Operator × Expr)
  | .BinOp a o b _ => some (a, o, b)
  | _ => none
theorem asBin_some {e a b : Expr} {o : Operator} (h : asBin e = some (a, o, b)) : ∃ p, e = .BinOp a o b p := by
  cases e <;> simp [asBin] at h
  obtain ⟨rfl, rfl, rfl⟩ := h
  exact ⟨_, rfl⟩
def asUn : Expr → Option (UnaryOp × Expr)
  | .UnaryOp o a _ => some (o, a)
  | _ => none
theorem asUn_some {e a : Expr} {o : UnaryOp} (h : asUn e = some (o, a)) : ∃ p, e = .UnaryOp o a p := by
  cases e <;> simp [asUn] at h
  obtain ⟨rfl, rfl⟩ := h
  exact ⟨_, rfl⟩
def asCmp : Expr → Option (Expr × List CmpOp × List Expr)
  | .Compare a o b _ => some (a, o, b)
  | _ => none
theorem asCmp_some {e a : Expr} {o : List CmpOp} {b : List Expr} (h : asCmp e = some (a, o, b)) : ∃ p, e = .Compare a o b p := by
  cases e <;> simp [asCmp] at h
  obtain ⟨rfl, rfl, rfl⟩ := h
  exact ⟨_, rfl⟩
def asBool : Expr → Option (BoolOp × List Expr)
  | .BoolOp o es _ => some (o, es)
  | _ => none
theorem asBool_some {e : Expr} {o : BoolOp} {es : List Expr} (h : asBool e = some (o, es)) : ∃ p, e = .BoolOp o es p := by
  cases e <;> simp [asBool] at h
  obtain ⟨rfl, rfl⟩ := h
  exact ⟨_, rfl⟩
def asIf : Expr → Option (Expr × Expr × Expr)
  | .IfExp c a b _ => some (c, a, b)
  | _ => none
theorem asIf_some {e c a b : Expr} (h : asIf e = some (c, a, b)) : ∃ p, e = .IfExp c a b p := by
  cases e <;> simp [asIf] at h
  obtain ⟨rfl, rfl, rfl⟩ := h
  exact ⟨_, rfl⟩
def asTup : Expr → Option (List Expr)
  | .Tuple es _ _ => some es
  | _ => none
theorem asTup_some {e : Expr} {es : List Expr} (h : asTup e = some es) : ∃ k p, e = .Tuple es k p := by
  cases e <;> simp [asTup] at h
  subst h
  exact ⟨_, _, rfl⟩
def asLst : Expr → Option (List Expr)
  | .List es _ => some es
  | _ => none
theorem asLst_some {e : Expr} {es : List Expr} (h : asLst e = some es) : ∃ p, e = .List es p := by
  cases e <;> simp [asLst] at h
  subst h
  exact ⟨_, rfl⟩
def asSub : Expr → Option (Expr × Expr)
  | .Subscript a b _ => some (a, b)
  | _ => none
theorem asSub_some {e a b : Expr} (h : asSub e = some (a, b)) : ∃ p, e = .Subscript a b p := by
  cases e <;> simp [asSub] at h
  obtain ⟨rfl, rfl⟩ := h
  exact ⟨_, rfl⟩
def asSlc : Expr → Option (Option Expr × Option Expr × Option Expr)
  | .Slice a b c _ => some (a, b, c)
  | _ => none
theorem asSlc_some {e : Expr} {a b c : Option Expr} (h : asSlc e = some (a, b, c)) : ∃ p, e = .Slice a b c p := by
  cases e <;> simp [asSlc] at h
  obtain ⟨rfl, rfl, rfl⟩ := h
  exact ⟨_, rfl⟩
def asCall : Expr → Option (Expr × List Expr × List Keyword)
  | .Call f es ks _ => some (f, es, ks)
  | _ => none
theorem asCall_some {e f : Expr} {es : List Expr} {ks : List Keyword} (h : asCall e = some (f, es, ks)) : ∃ p, e = .Call f es ks p := by
  cases e <;> simp [asCall] at h
  obtain ⟨rfl, rfl, rfl⟩ := h
  exact ⟨_, rfl⟩
def asInt1 : Expr → Bool
  | .Constant (.int 1) _ _ => true
  | _ => false
def visB (sc : Scope) (x : Str) : Bool := (match sc.names.lookup x with
  | some .local => true
  | some .cell => true
  | some .free => true
  | _ => false) && !(x == ("__debug__" : Str)) && !(x == ("__classdict__" : Str))
def glB (sc : Scope) (x : Str) : Bool := (sc.names.lookup x == some .globalImplicit) && !(x == ("__debug__" : Str)) && !(x == ("__name__" : Str))
def litB : D → Expr → Bool
  | .none, .Constant .none _ _ => true
  | .bool b, .Constant (.bool c) _ _ => b == c
  | .int i, .Constant (.int j) _ _ => i == j
  | .str x, .Constant (.str y) _ _ => x == y
  | _, _ => false
/-- a plain expression: no star, no slice -/
def plainB : Expr → Bool
  | .Starred _ _ => false
  | .Slice _ _ _ _ => false
  | _ => true
def biName : Bi → Str
  | .len => "len"
  | .int => "int"
  | .abs => "abs"
  | .max2 => "max"
  | .min2 => "min"
  | .max1 => "max"
  | .min1 => "min"
  | .sum => "sum"
  | .all => "all"
  | .any => "any"
  | .sorted => "sorted"
  | .tuple => "tuple"
  | .list => "list"
  | .str => "str"
  | .gcd => "gcd"
  | .lcm => "lcm"
  | .set0 => "set"
def biVal : Bi → Value
  | .len => .builtin "len"
  | .int => .type "int"
  | .abs => .builtin "abs"
  | .max2 => .builtin "max"
  | .min2 => .builtin "min"
  | .max1 => .builtin "max"
  | .min1 => .builtin "min"
  | .sum => .builtin "sum"
  | .all => .builtin "all"
  | .any => .builtin "any"
  | .sorted => .builtin "sorted"
  | .tuple => .type "tuple"
  | .list => .type "list"
  | .str => .type "str"
  | .gcd => .builtin "math.gcd"
  | .lcm => .builtin "math.lcm"
  | .set0 => .type "set"
def bopB : BOp → Operator → Bool
  | .add, .Add => true
  | .sub, .Sub => true
  | .mul, .Mult => true
  | .fdv, .FloorDiv => true
  | .mod, .Mod => true
  | .pow, .Pow => true
  | _, _ => false
theorem bopB_eq {o : BOp} {p : Operator} (h : bopB o p = true) : p = bop o := by cases o <;> cases p <;> first | rfl | cases h
def copB : COp → CmpOp → Bool
  | .eq, .Eq => true
  | .ne, .NotEq => true
  | .lt, .Lt => true
  | .le, .LtE => true
  | .gt, .Gt => true
  | .ge, .GtE => true
  | .inn, .In => true
  | .nin, .NotIn => true
  | .isN, .Is => true
  | .ntN, .IsNot => true
  | _, _ => false
theorem copB_eq {o : COp} {p : CmpOp} (h : copB o p = true) : p = cop o := by cases o <;> cases p <;> first | rfl | cases h
def isNs : COp → Bool
  | .isN => true
  | .ntN => true
  | _ => false
def noneP : P → Bool
  | .lit .none => true
  | _ => false
def kwNames : List Keyword → List (Option Str)
  | [] => []
  | ⟨n, _, _⟩ :: r => n :: kwNames r
def kwExprs : List Keyword → List Expr
  | [] => []
  | ⟨_, e, _⟩ :: r => e :: kwExprs r
def nameL : List Expr → Option (List Str)
  | [] => some []
  | e :: r => match asName e, nameL r with
    | some x, some xs => some (x :: xs)
    | _, _ => none
abbrev five : List Str := ["int", "bool", "str", "list", "tuple"]
/-- the class or classes behind isinstance's comma -/
def tysB (sc : Scope) (ts : List Str) (e : Expr) : Bool := match asName e with
  | some x => ts == [x] && glB sc x
  | none => (match asTup e with
    | some es => nameL es == some ts && decide (2 ≤ ts.length) && decide (ts.length ≤ 1000)
    | none => false) && ts.all fun t => glB sc t && five.contains t
def locB (sc : Scope) (x : Str) : Bool := match sc.names.lookup x with
  | some .local => true
  | some .cell => true
  | _ => false
def tgNames (N : List Str) (sc : Scope) : List Nat → List Expr → Bool
  | [], [] => true
  | i :: is, e :: es => (match asName e with
    | some x => N[i]? == some x && locB sc x
    | none => false) && tgNames N sc is es
  | _, _ => false
def mtG (N : List Str) (sc : Scope) : Tg → Expr → Bool
  | .nm i, e => match asName e with
    | some x => N[i]? == some x && locB sc x
    | none => false
  | .tp is, e => match asTup e with
    | some es => tgNames N sc is es
    | none => false
def tgVars : Tg → List Nat
  | .nm i => [i]
  | .tp is => is
def notSetB : Expr → Bool
  | .Set _ _ _ => false
  | _ => true
/-- those whose rule stands -/
def biHave : Bi → Bool
  | .len | .int | .abs | .max2 | .min2 | .sum | .all | .any | .tuple | .str | .sorted | .min1 | .max1 => true
  | _ => false
def asComp (k : CK) : Expr → Option (Expr × Expr × List Comprehension × Scope)
  | .ListComp x gens s _ => if k = .li then some (x, x, gens, s) else none
  | .SetComp x gens s _ => if k = .se then some (x, x, gens, s) else none
  | _ => none
theorem asComp_some {k : CK} {e x y : Expr} {gens : List Comprehension} {s : Scope} (h : asComp k e = some (x, y, gens, s)) : (k = .li ∨ k = .se) ∧ y = x ∧ ∃ p, (k = .li → e = .ListComp x gens s p) ∧ (k = .se → e = .SetComp x gens s p) := by
  cases e <;> simp [asComp] at h
  · obtain ⟨rfl, rfl, rfl, rfl, rfl⟩ := h
    exact ⟨.inl rfl, rfl, _, fun _ => rfl, fun z => nomatch z⟩
  · obtain ⟨rfl, rfl, rfl, rfl, rfl⟩ := h
    exact ⟨.inr rfl, rfl, _, fun z => (nomatch z), fun _ => rfl⟩
/-- a text's method, by its name; how many arguments -/
def mtName : Mt → Str
  | .join => "join"
  | .split => "split"
  | .starts => "startswith"
  | .strip => "removeprefix"
def asAttr : Expr → Option (Expr × Str × Pos)
  | .Attribute o n p => some (o, n, p)
  | _ => none
theorem asAttr_some {e o : Expr} {n : Str} {p : Pos} (h : asAttr e = some (o, n, p)) : e = .Attribute o n p := by
  cases e <;> simp [asAttr] at h
  obtain ⟨rfl, rfl, rfl⟩ := h
  rfl
/-- what may stand ahead of a method's point -/
def baseB : Expr → Bool
  | .Name _ _ => true
  | .Constant _ _ _ => true
  | .Subscript _ _ _ => true
  | _ => false
theorem base_eq {o : Expr} {n : Str} {env : Env} (h : baseB o = true) : attributeBase o n env (eval o env) = eval o env := by
  cases o <;> first | rfl | cases h
def asCallP : Expr → Option (Expr × List Expr × List Keyword × Pos)
  | .Call f es ks p => some (f, es, ks, p)
  | _ => none
theorem asCallP_some {e f : Expr} {es : List Expr} {ks : List Keyword} {p : Pos} (h : asCallP e = some (f, es, ks, p)) : e = .Call f es ks p := by
  cases e <;> simp [asCallP] at h
  obtain ⟨rfl, rfl, rfl, rfl⟩ := h
  rfl
def ownOf (N : List Str) (vs : List Nat) : List (Str × Nat) := vs.map fun i => (N[i]?.getD "", i)
def isDct0 : P → Expr → Bool
  | .no, .Dict [] [] _ => true
  | _, _ => false
theorem isDct0_some {a : P} {e : Expr} (h : isDct0 a e = true) : a = .no ∧ ∃ p, e = .Dict [] [] p := by
  unfold isDct0 at h
  split at h
  · exact ⟨rfl, _, rfl⟩
  · cases h
mutual
def mtE (N : List Str) : P → Scope → Expr → Bool
  | .var i, sc, e => match asName e with
    | some x => N[i]? == some x && visB sc x
    | none => false
  | .lit d, _, e => litB d e
  | .glob x, sc, e => match asName e with
    | some y => x == y && glB sc y
    | none => false
  | .bin op a b, sc, e => match asBin e with
    | some (l, o, r) => bopB op o && mtE N a sc l && mtE N b sc r
    | none => false
  | .neg a, sc, e => match asUn e with
    | some (o, x) => (o == .USub) && mtE N a sc x
    | none => false
  | .cmp op a b, sc, e => match asCmp e with
    | some (l, [o], [r]) => copB op o && (!isNs op || noneP b) && !behindInMarks o r && mtE N a sc l && mtE N b sc r
    | _ => false
  | .cmp2 p q a b c, sc, e => match asCmp e with
    | some (l, [o, o'], [r, r']) => copB p o && copB q o' && !isNs p && !isNs q && !lastMarks [o, o'] [r, r'] && mtE N a sc l && mtE N b sc r && mtE N c sc r'
    | _ => false
  | .bool q as, sc, e => match asBool e with
    | some (o, es) => (o == (if q then .And else .Or)) && mtA N as sc es && !es.isEmpty
    | none => false
  | .nott (.tv a), sc, e => match asUn e with
    | some (o, x) => (o == .Not) && mtE N a sc x
    | none => false
  | .ife c a b, sc, e => match asIf e with
    | some (t, x, y) => mtT N c sc t && mtE N a sc x && mtE N b sc y
    | none => false
  | .tup as, sc, e => match asTup e with
    | some es => mtA N as sc es && decide (es.length ≤ 1000)
    | none => false
  | .lst as, sc, e => match asLst e with
    | some es => mtA N as sc es && decide (es.length ≤ 1000)
    | none => false
  | .idx a b, sc, e => match asSub e with
    | some (x, y) => plainB y && mtE N a sc x && mtE N b sc y
    | none => false
  | .slc a lo hi, sc, e => match asSub e with
    | some (x, y) => match asSlc y with
      | some (l, h, none) => mtE N a sc x && mtO N lo sc l && mtO N hi sc h
      | _ => false
    | none => false
  | .rev a, sc, e => match asSub e with
    | some (x, y) => match asSlc y with
      | some (none, none, some z) => (match asUn z with
        | some (o, one) => (o == .USub) && asInt1 one
        | none => false) && mtE N a sc x
      | _ => false
    | none => false
  | .call f as ks, sc, e => match asCall e with
    | some (g, es, kws) => (match asName g with
      | some x => x == f && glB sc x
      | none => false) && (if ks.isEmpty then kws.isEmpty && mtA N as sc es else es.isEmpty && (kwNames kws == ks.map some) && mtA N as sc (kwExprs kws))
    | none => false
  | .bi b as, sc, e => match asCall e with
    | some (g, es, kws) => biHave b && (match asName g with
      | some x => x == biName b && glB sc x
      | none => false) && kws.isEmpty && !es.isEmpty && mtA N as sc es
    | none => false
  | .mth m a b, sc, e => match asCallP e with
    | some (g, [x], [], p) => (match asAttr g with
      | some (o, n, ap) => n == mtName m && baseB o && (ap.endLine == p.line) && mtE N a sc o
      | none => false) && plainB x && mtE N b sc x
    | _ => false
  | .isd a, sc, e => match asCallP e with
    | some (g, [], [], p) => (match asAttr g with
      | some (o, n, ap) => n == ("isdecimal" : Str) && baseB o && (ap.endLine == p.line) && mtE N a sc o
      | none => false)
    | _ => false
  | .fld a f, sc, e => match asAttr e with
    | some (o, n, _) => n == f && baseB o && mtE N a sc o
    | none => false
  | .isin a ts, sc, e => match asCall e with
    | some (g, [x, t], []) => (match asName g with
      | some x => x == ("isinstance" : Str) && glB sc x
      | none => false) && plainB x && mtE N a sc x && tysB sc ts t
    | _ => false
  | .dct as, _, e => isDct0 as e
  | .lrng a, sc, e => match asCall e with
    | some (g, [x], []) => (match asName g, asCall x with
      | some y, some (g2, [z], []) => (match asName g2 with
        | some y2 => y2 == ("range" : Str) && glB sc y2
        | none => false) && y == ("list" : Str) && glB sc y && plainB z && mtE N a sc z
      | _, _ => false)
    | _ => false
  | .comp k vs tg it ifs rest e1 e2, sc, e => match asComp k e with
    | some (x1, x2, ⟨t, i, fs, a⟩ :: gs, s2) => (a == 0) && mtW N it sc t i && blkC N sc s2 (ownOf N vs) && (tgVars tg).all (fun v => vs.contains v) && mtG N s2 tg t && mtIf N ifs s2 fs && mtC N rest s2 vs gs && mtE N e1 s2 x1
    | _ => false
  | _, _, _ => false
def mtA (N : List Str) : P → Scope → List Expr → Bool
  | .no, _, es => es.isEmpty
  | .cons a as, sc, es => match es with
    | e :: r => plainB e && mtE N a sc e && mtA N as sc r
    | [] => false
  | _, _, _ => false
def mtT (N : List Str) : P → Scope → Expr → Bool
  | .bool q as, sc, e => match asBool e with
    | some (o, es) => (o == (if q then .And else .Or)) && mtTs N as sc es && !es.isEmpty
    | none => false
  | .nott a, sc, e => match asUn e with
    | some (o, x) => (o == .Not) && mtT N a sc x
    | none => false
  | .tv a, sc, e => mtE N a sc e && (asBool e).isNone && (asUn e).isNone && (asIf e).isNone
  | _, _, _ => false
def mtTs (N : List Str) : P → Scope → List Expr → Bool
  | .no, _, es => es.isEmpty
  | .cons a as, sc, es => match es with
    | e :: r => mtT N a sc e && mtTs N as sc r
    | [] => false
  | _, _, _ => false
def mtO (N : List Str) : P → Scope → Option Expr → Bool
  | .no, _, e => e.isNone
  | .cons a .no, sc, e => match e with
    | some e => mtE N a sc e
    | none => false
  | _, _, _ => false
def mtW (N : List Str) : P → Scope → Expr → Expr → Bool
  | .rng as, sc, _, e => match asCall e with
    | some (g, es, kws) => (match asName g with
      | some x => x == ("range" : Str) && glB sc x
      | none => false) && kws.isEmpty && decide (es.length ≤ 3) && !es.isEmpty && mtA N as sc es
    | none => false
  | .zip a b, sc, tg, e => match asCall e with
    | some (g, [x, y], []) => (match asName g with
      | some x => x == ("zip" : Str) && glB sc x
      | none => false) && (asTup tg).isSome && plainB x && plainB y && mtE N a sc x && mtE N b sc y
    | _ => false
  | .enum a, sc, tg, e => match asCall e with
    | some (g, [x], []) => (match asName g with
      | some x => x == ("enumerate" : Str) && glB sc x
      | none => false) && (asTup tg).isSome && plainB x && mtE N a sc x
    | _ => false
  | .enus a b, sc, tg, e => match asCall e with
    | some (g, [x], [⟨some m, y, _⟩]) => (match asName g with
      | some x => x == ("enumerate" : Str) && glB sc x
      | none => false) && m == ("start" : Str) && (asTup tg).isSome && plainB x && mtE N a sc x && mtE N b sc y
    | _ => false
  | .sgn a, sc, _, e => notSetB e && mtE N a sc e
  | .itr a, sc, _, e => notSetB e && mtE N a sc e
  | _, _, _, _ => false
def mtIf (N : List Str) : P → Scope → List Expr → Bool
  | .no, _, fs => fs.isEmpty
  | .cons c .no, sc, fs => match fs with
    | [e] => mtT N c sc e
    | _ => false
  | _, _, _ => false
def mtC (N : List Str) : P → Scope → List Nat → List Comprehension → Bool
  | .no, _, _, gs => gs.isEmpty
  | .gen vs' tg it ifs rest, sc, vs, gs => match gs with
    | ⟨t, i, fs, a⟩ :: gs => (a == 0) && mtW N it sc t i && mtG N sc tg t && mtIf N ifs sc fs && (tgVars tg).all (fun v => vs'.contains v) && vs'.all (fun v => vs.contains v) && mtC N rest sc vs' gs
    | [] => false
  | _, _, _, _ => false
end
end Lk
end
section
set_option linter.all false
set_option maxRecDepth 100000
set_option maxHeartbeats 1000000
/-! Readings by meaning; what a def promises; results in a row. -/
namespace Lk
open PySem PySem.Spec PyProof.Rows L2
/-! ### readings by meaning -/
section
variable {X : Cx}
def wpE (X : Cx) (e : Expr) : TE := fun σ H Q => ∀ (pins : List (Addr × Obj)) (s : Shared), Inv X pins σ H s → wpAny (model X.prog X.w) X.A (eval e X.env) (EP X pins σ Q) X.xe s
theorem pe_wp {e : Expr} : PE X e (wpE X e) := ⟨fun pins s σ H Q I h => h pins s I⟩
theorem wpE_of {e : Expr} {t : TE} {σ : L2.St} {H : Hp} {Q : VK} (p : PE X e t) (h : t σ H Q) : wpE X e σ H Q := fun pins s I => p.run pins s σ H Q I h
def wpT (X : Cx) (e : Expr) : TT := fun σ H Q => ∀ (pins : List (Addr × Obj)) (s : Shared), Inv X pins σ H s → wpAny (model X.prog X.w) X.A (isTrue e X.env (eval e X.env)) (TP X pins σ Q) X.xe s
theorem pt_wp {e : Expr} : PT X e (wpT X e) := ⟨fun pins s σ H Q I h => h pins s I⟩
theorem wpT_of {e : Expr} {t : TT} {σ : L2.St} {H : Hp} {Q : Bool → Hp → Prop} (p : PT X e t) (h : t σ H Q) : wpT X e σ H Q := fun pins s I => p.run pins s σ H Q I h
def wpW (X : Cx) (e : Expr) : TT := fun σ H Q => ∀ (whole : Sem Value) (pins : List (Addr × Obj)) (s : Shared), Inv X pins σ H s → wpAny (model X.prog X.w) X.A (isTrue e X.env whole) (TP X pins σ Q) X.xe s
theorem pw_wp {e : Expr} : PW X e (wpW X e) := ⟨fun wh pins s σ H Q I h => h wh pins s I⟩
theorem wpW_of {e : Expr} {t : TT} {σ : L2.St} {H : Hp} {Q : Bool → Hp → Prop} (p : PW X e t) (h : t σ H Q) : wpW X e σ H Q := fun wh pins s I => p.run wh pins s σ H Q I h
def wpA (X : Cx) (es : List Expr) : TA := fun σ H Q => ∀ (pos : Pos) (pins : List (Addr × Obj)) (s : Shared), Inv X pins σ H s → wpAny (model X.prog X.w) X.A (spliced (backTo pos (starEach es X.env))) (AP X pins σ Q) X.xe s
theorem pa_wp {es : List Expr} : PA X es (wpA X es) := ⟨fun pos pins s σ H Q I h => h pos pins s I⟩
theorem wpA_of {es : List Expr} {t : TA} {σ : L2.St} {H : Hp} {Q : List V → Hp → Prop} (p : PA X es t) (h : t σ H Q) : wpA X es σ H Q := fun pos pins s I => p.run pos pins s σ H Q I h
def wpO (X : Cx) (e : Option Expr) : TO := fun σ H Q => ∀ (pins : List (Addr × Obj)) (s : Shared), Inv X pins σ H s →
  wpAny (model X.prog X.w) X.A (evalPart e X.env) (fun u s' => ∃ o H', Inv X pins σ H' s' ∧ IsPart u o ∧ Q o H') X.xe s
theorem po_wp {e : Option Expr} : PO X e (wpO X e) := ⟨fun pins s σ H Q I h => h pins s I⟩
theorem wpO_of {e : Option Expr} {t : TO} {σ : L2.St} {H : Hp} {Q : Option Int → Hp → Prop} (p : PO X e t) (h : t σ H Q) : wpO X e σ H Q := fun pins s I => p.run pins s σ H Q I h
def wpK (X : Cx) (kws : List Keyword) : TA := fun σ H Q => ∀ (pos : Pos) (pins : List (Addr × Obj)) (s : Shared), Inv X pins σ H s → wpAny (model X.prog X.w) X.A (evalAll ((backToKw pos (keywordEach kws X.env)).map (·.2))) (AP X pins σ Q) X.xe s
theorem pk_wp {kws : List Keyword} : PK X kws (wpK X kws) := ⟨fun pos pins s σ H Q I h => h pos pins s I⟩
theorem wpK_of {kws : List Keyword} {t : TA} {σ : L2.St} {H : Hp} {Q : List V → Hp → Prop} (p : PK X kws t) (h : t σ H Q) : wpK X kws σ H Q := fun pos pins s I => p.run pos pins s σ H Q I h
theorem star_plain {e : Expr} {es : List Expr} {env : Env} (h : plainB e = true) : starEach (e :: es) env = (false, eval e env) :: starEach es env := by
  cases e <;> first | rfl | cases h
theorem plain_ix {b : Expr} (h : plainB b = true) : PlainIx b := by
  intro o i
  cases b <;> first | rfl | cases h
theorem back_plain {env : Env} {pos : Pos} : ∀ {es : List Expr}, es.all plainB = true → (backTo pos (starEach es env)).any (·.1) = false
  | [], _ => rfl
  | e :: es, h => by
    rw [List.all_cons, Bool.and_eq_true] at h
    rw [star_plain h.1]
    show (false || (backTo pos (starEach es env)).any (·.1)) = false
    rw [back_plain h.2]
    rfl
theorem truth_tru {w : World} {K : KF} {H : Hp} {v : V} {d : D} {c : Bool} (h : truth d = some c) (r : Rp w K H v d) : TruV K v H c := by
  cases r with
  | non => cases h; rfl
  | bl b => cases h; rfl
  | int i => cases h; rfl
  | str x =>
    simp only [truth] at h
    split at h
    · rename_i hz
      cases h
      refine ⟨Nat.le_trans hz (by decide), ?_⟩
      cases e : x.length <;> rfl
    · cases h
  | lst q1 q2 =>
    cases h
    refine .inl ⟨_, q1, ?_⟩
    cases q2 <;> rfl
  | tup q1 q2 =>
    cases h
    refine .inr (.inl ⟨_, q1, ?_⟩)
    cases q2 <;> rfl
  | dct q1 q2 => cases h
  | exo _ _ _ => cases h
  | exn _ => cases h
end
/-! ### exceptions, promises -/
/-- how an exception of a class with a thing held stands in the state -/
abbrev XC := Str → D → Value → Option Addr → Hp → Hp → Prop
def WishX (xc : XC) (sp : Option Addr) (F H : Hp) (EK : XK) (c : Str) (d : D) (n : Int) : Prop := ∀ e od F' H', Ext sp F H F' H' → Ok sp F' H' n → xc c d e od F' H' → EK e od H'
theorem WishX.ext {xc : XC} {sp : Option Addr} {F H F' H' : Hp} {EK : XK} {c : Str} {d : D} {n : Int} (h : WishX xc sp F H EK c d n) (e : Ext sp F H F' H') : WishX xc sp F' H' EK c d n :=
  fun ex od F2 H2 e2 k x => h ex od F2 H2 (e.trans e2) k x
def Wish (xc : XC) (sp : Option Addr) (F H : Hp) (EK : XK) (m : Ro α) (q : α → Int → Prop) : Prop := match m with
  | .ok a n => q a n
  | .ex c d n => WishX xc sp F H EK c d n
theorem Wish.ext {xc : XC} {sp : Option Addr} {F H F' H' : Hp} {EK : XK} {m : Ro α} {q q' : α → Int → Prop} (h : Wish xc sp F H EK m q) (e : Ext sp F H F' H') (hq : ∀ a n, q a n → q' a n) : Wish xc sp F' H' EK m q' := by
  cases m with
  | ok a n => exact hq a n h
  | ex c d n => exact WishX.ext h e
/-- a bind's parts -/
theorem bind_some {m : M α} {f : α → Int → M β} {ro : Ro β} (h : M.bind m f = some ro) : (∃ a n, m = some (.ok a n) ∧ f a n = some ro) ∨ (∃ c d n, m = some (.ex c d n) ∧ ro = .ex c d n) := by
  cases m with
  | none => cases h
  | some r =>
    cases r with
    | ok a n => exact .inl ⟨a, n, rfl, h⟩
    | ex c d n => cases h; exact .inr ⟨c, d, n, rfl, rfl⟩
theorem of_some {o : Option α} {n : Int} {ro : Ro α} (h : M.of o n = some ro) : ∃ a, o = some a ∧ ro = .ok a n := by
  unfold M.of at h
  rw [Option.map_eq_some_iff] at h
  obtain ⟨a, e, rfl⟩ := h
  exact ⟨a, e, rfl⟩
theorem calm_some {m : M α} {ro : Ro α} (h : m.calm = some ro) : ∃ a n, m = some (.ok a n) ∧ ro = .ok a n := by
  cases m with
  | none => cases h
  | some r =>
    cases r with
    | ok a n => cases h; exact ⟨a, n, rfl, rfl⟩
    | ex c d n => cases h
/-- a call's arguments as the callee sees them -/
inductive ArgR (w : World) (K : KF) (sp : Option Addr) (F : Hp) (pos : Option Nat) : Nat → List V → List D → Prop
  | nil {k : Nat} : ArgR w K sp F pos k [] []
  | dat {k : Nat} {v : V} {d : D} {vs ds} : pos ≠ some k → Rp w K F v d → ArgR w K sp F pos (k + 1) vs ds → ArgR w K sp F pos k (v :: vs) (d :: ds)
  | sp {k : Nat} {a : Addr} {vs ds} : pos = some k → sp = some a → ArgR w K sp F pos (k + 1) vs ds → ArgR w K sp F pos k (.ref a :: vs) (.none :: ds)
theorem ArgR.length {w : World} {K : KF} {sp : Option Addr} {F : Hp} {pos : Option Nat} : ∀ {k : Nat} {vs : List V} {ds : List D}, ArgR w K sp F pos k vs ds → vs.length = ds.length
  | _, _, _, .nil => rfl
  | _, _, _, .dat _ _ t => by rw [List.length_cons, List.length_cons, ArgR.length t]
  | _, _, _, .sp _ _ t => by rw [List.length_cons, List.length_cons, ArgR.length t]
/-- what a def promises -/
def spF (w : World) (K : KF) (xc : XC) (fn : Fn) : Sp := fun vs H Q E => vs.length = fn.ps.length ∧ ∃ sp F n ds ro, (fn.pos = none → sp = none) ∧ Ok sp F H n ∧ ArgR w K sp F fn.pos 0 vs ds ∧ fn.sem ds n = some ro ∧
  Wish xc sp F H E ro fun d n' => ∀ v F' H', Ext sp F H F' H' → Ok sp F' H' n' → Rp w K F' v d → Q v H'
/-- where a body runs: the parts that calls see -/
structure At (X : Cx) (P : Program) (w : World) (K : KF) (mg : Str → Option Value) (base : Heap) : Prop where
  prog : X.prog = P
  w : X.w = w
  K : X.K = K
  mg : X.mg = mg
  base : X.base = base
/-- what stands at f can be called, by place or by names, and keeps sp -/
structure CallsAs (P : Program) (w : World) (K : KF) (mg : Str → Option Value) (base : Heap) (CX : CXT) (k : Nat) (f : Addr) (ps : List Str) (sp : Sp) : Prop where
  len : ∀ vs H Q E, sp vs H Q E → vs.length = ps.length
  run : ∀ {X : Cx} {pins : List (Addr × Obj)} {σ : L2.St} {H : Hp} {s : Shared} {Q : VK} {E : XK} {us : List Value} {vs : List V}, At X P w K mg base → Room k X.A → Passes CX X E → Inv X pins σ H s → Vals vs us → sp vs H Q E → wpAny (model X.prog X.w) X.A (call (.ref f) us) (EP X pins σ Q) X.xe s
  runK : ∀ {X : Cx} {pins : List (Addr × Obj)} {σ : L2.St} {H : Hp} {s : Shared} {Q : VK} {E : XK} {us : List Value} {vs : List V}, At X P w K mg base → Room k X.A → Passes CX X E → Inv X pins σ H s → Vals vs us → sp vs H Q E → wpAny (model X.prog X.w) X.A (call (.ref f) [] (ps.zip us)) (EP X pins σ Q) X.xe s
structure FOk (X : Cx) (CX : CXT) (k : Nat) (xc : XC) (x : Str) (fn : Fn) : Prop where
  ex : ∃ f, CallsAs X.prog X.w X.K X.mg X.base CX k f fn.ps (spF X.w X.K xc fn) ∧ X.mg x = some (.ref f) ∧ PySem.W.keepIn X.K (.ref f) = true
/-- a def can -/
theorem CallsAs.def {P : Program} {w : World} {K : KF} {mg : Str → Option Value} {base : Heap} {CX : CXT} {k : Nat} {f : Addr} {fd : FuncData} {ps : List Str} {sp : Sp} (F : FnOk P w K mg base CX k f fd ps sp) (hb : Binds K fd ps [])
    (hk : ∀ (s : Shared) (ws : List Value), K.In s.heap → ws.length = ps.length → BindsTo s fd ⟨[], ps.zip ws⟩ (ps.zip ws)) : CallsAs P w K mg base CX k f ps sp where
  len := F.len
  run := fun {X pins σ H s Q E us vs} a hr hx I r h => by
    obtain ⟨rfl, rfl, rfl, rfl, rfl⟩ := a
    have z := run_fn F hr hb .nil hx I r (by rw [List.append_nil]; exact h)
    exact z
  runK := fun {X pins σ H s Q E us vs} a hr hx I r h => by
    obtain ⟨rfl, rfl, rfl, rfl, rfl⟩ := a
    have hl : us.length = ps.length := by rw [← r.length]; exact F.len _ _ _ _ h
    refine wpAny_call (codeAny_mono (F.run X.A X.stack s H ⟨[], ps.zip us⟩ us vs Q E hr I.env0 (hk s us I.kIn hl) r h) fun rr s' hq => ?_)
    cases rr with
    | error e => exact hx pins σ H s e s' I hq
    | ok fl =>
      cases fl with
      | ret u => exact I.after hq
      | _ => exact False.elim hq
theorem pe_callA {X : Cx} {CX : CXT} {k : Nat} {f : Addr} {ps : List Str} {sp : Sp} {E : XK} {x : Str} {e : Expr} {es : List Expr} {p pos : Pos} {t : TA} (C : CallsAs X.prog X.w X.K X.mg X.base CX k f ps sp) (hr : Room k X.A) (hg : Gl X x) (hm : X.mg x = some (.ref f)) (hk : PySem.W.keepIn X.K (.ref f) = true) (hx : Passes CX X E)
    (ha : PA X (e :: es) t) (hdb : (x == ("__debug__" : Str)) = false) (he : starEach (e :: es) X.env = (false, eval e X.env) :: starEach es X.env) (hpl : (backTo pos (starEach es X.env)).any (·.1) = false) :
    PE X (.Call (.Name x p) (e :: es) [] pos) (fun σ H Q => t σ H fun vs H1 => sp vs H1 Q E) :=
  ⟨fun pins s σ H Q I h => wpAny_Call_Name_kw (ld_glob I hg hm (PySem.W.callWith_K (h₀ := X.base) I.ok.mod.kin hk (thn (ha.run pos pins s σ H _ I h) fun us s1 ⟨vs, H1, I1, r, q⟩ => ⟨I1.kIn, C.run ⟨rfl, rfl, rfl, rfl, rfl⟩ hr hx I1 r q⟩) he hpl) hdb)⟩
theorem pe_callA0 {X : Cx} {CX : CXT} {k : Nat} {f : Addr} {ps : List Str} {sp : Sp} {E : XK} {x : Str} {p pos : Pos} (C : CallsAs X.prog X.w X.K X.mg X.base CX k f ps sp) (hr : Room k X.A) (hg : Gl X x) (hm : X.mg x = some (.ref f)) (hk : PySem.W.keepIn X.K (.ref f) = true) (hx : Passes CX X E)
    (hdb : (x == ("__debug__" : Str)) = false) : PE X (.Call (.Name x p) [] [] pos) (fun σ H Q => sp [] H Q E) :=
  ⟨fun pins s σ H Q I h => wpAny_Call_Name_kw (ld_glob I hg hm (PySem.W.callWith_K0 I.kIn hk (C.run ⟨rfl, rfl, rfl, rfl, rfl⟩ hr hx I .nil h)) hdb)⟩
/-! ### results in a row -/
inductive RRelA (w : World) (K : KF) (sp : Option Addr) (F H : Hp) : List V → List R → List Addr → Prop
  | nil : RRelA w K sp F H [] [] []
  | cons {v : V} {r : R} {A As : List Addr} {vs rs} : RRel w K sp F H v r A → RRelA w K sp F H vs rs As → (∀ a ∈ A, a ∉ As) → RRelA w K sp F H (v :: vs) (r :: rs) (A ++ As)
def PostA (w : World) (K : KF) (sp : Option Addr) (F H : Hp) (rs : List R) (n' : Int) (vs : List V) (F' H' : Hp) : Prop :=
  Ext sp F H F' H' ∧ Ok sp F' H' n' ∧ ∃ A, RRelA w K sp F' H' vs rs A ∧ ∀ a ∈ A, H a = none
section
variable {w : World} {K : KF} {sp : Option Addr} {F H F' H' F0 H0 : Hp} {n n' : Int}
theorem RRel.there {v : V} {r : R} {A : List Addr} (h : RRel w K sp F H v r A) : ∀ a ∈ A, F a = none ∧ H a ≠ none ∧ sp ≠ some a := by
  cases h with
  | fr h1 h2 h3 => exact h2
  | _ => exact fun a z => nomatch z
theorem RRelA.there : ∀ {vs : List V} {rs : List R} {A : List Addr}, RRelA w K sp F H vs rs A → ∀ a ∈ A, F a = none ∧ H a ≠ none ∧ sp ≠ some a
  | _, _, _, .nil => fun a z => nomatch z
  | _, _, _, .cons h t _ => fun a ha => by
    rcases List.mem_append.mp ha with z | z
    · exact h.there a z
    · exact RRelA.there t a z
theorem RRelA.length : ∀ {vs : List V} {rs : List R} {A : List Addr}, RRelA w K sp F H vs rs A → vs.length = rs.length
  | _, _, _, .nil => rfl
  | _, _, _, .cons h t _ => by rw [List.length_cons, List.length_cons, RRelA.length t]
/-- what is new becomes fixed -/
theorem fz_ext {A : List Addr} (e : Ext sp F0 H0 F H) (hA : ∀ a ∈ A, F a = none ∧ H a ≠ none ∧ sp ≠ some a) (h0 : ∀ a ∈ A, H0 a = none) : Ext sp F0 H0 (fzH F H A) H :=
  ⟨e.sub.trans (fz_sub fun a ha => (hA a ha).1), e.keep, fun a ha => by rw [fz_out fun z => ha (h0 a z)]; exact e.own a ha, e.there⟩
theorem fz_ok {A : List Addr} (k : Ok sp F H n) (hA : ∀ a ∈ A, F a = none ∧ H a ≠ none ∧ sp ≠ some a) : Ok sp (fzH F H A) H n := by
  refine ⟨fun a u e => ?_, fun a xs e => ?_, fun a o xs e => ?_, fun a e => ?_⟩
  · by_cases z : a ∈ A
    · rw [fz_in z] at e; exact .inl e
    · rw [fz_out z] at e; exact k.sub a u e
  · by_cases z : a ∈ A
    · rw [fz_in z]; exact e
    · rw [fz_out z]; exact k.tup a xs e
  · by_cases z : a ∈ A
    · rw [fz_in z]; exact .inl e
    · rw [fz_out z]; exact k.tupf a o xs e
  · have z : a ∉ A := fun z => (hA a z).2.2 e
    rw [fz_out z]; exact k.spt a e
theorem fzH_sub {A B : List Addr} (h : ∀ a ∈ A, a ∈ B) (hB : ∀ a ∈ B, F a = none) : Sub (fzH F H A) (fzH F H B) := fun a o e => by
  by_cases z : a ∈ A
  · rw [fz_in z] at e; rw [fz_in (h a z)]; exact e
  · rw [fz_out z] at e
    rw [fz_out fun q => by rw [hB a q] at e; cases e]; exact e
theorem fz_nil {F H : Hp} : Sub F (fzH F H []) := fz_sub (A := []) fun a z => by cases z
theorem RRel.fix {v : V} {r : R} {A : List Addr} {d : D} (h : RRel w K sp F H v r A) (k : Ok sp F H n) (hd : r.fix = some d) : Rp w K (fzH F H A) v d := by
  cases h with
  | im q => cases hd; exact q.mono fz_nil
  | fr q hF nd => exact q.fz (fun a ha => (hF a ha).1) hd
  | bw q hs =>
    simp only [R.fix] at hd
    rw [Option.bind_eq_some_iff] at hd
    obtain ⟨d', h1, h2⟩ := hd
    split at h2
    · rename_i hp
      cases h2
      exact ((q.dat k.sub h1).pureF k hp).mono fz_nil
    · cases h2
  | bo q =>
    simp only [R.fix] at hd
    split at hd
    · rename_i hp
      cases hd
      exact ((q.mono hm_sub).pureF k hp).mono fz_nil
    · cases hd
  | sp _ => cases hd
theorem RRelA.fix (k : Ok sp F H n) : ∀ {vs : List V} {rs : List R} {A : List Addr} {ds : List D}, RRelA w K sp F H vs rs A → fixAll rs = some ds → RpA w K (fzH F H A) vs ds
  | _, _, _, _, .nil, h => by cases h; exact .nil
  | _, _, _, _, .cons (A := A) (As := As) (rs := rs) (r := r) h t dj, hd => by
    unfold fixAll at hd
    split at hd
    · rename_i d ds e1 e2
      cases hd
      have hA := h.there
      have hB := t.there
      have hAB : ∀ a ∈ A ++ As, F a = none := fun a ha => (List.mem_append.mp ha).elim (fun z => (hA a z).1) fun z => (hB a z).1
      exact .cons ((h.fix k e1).mono (fzH_sub (fun a z => List.mem_append_left _ z) hAB)) ((RRelA.fix k t e2).mono (fzH_sub (fun a z => List.mem_append_right _ z) hAB))
    · cases hd
theorem RRelA.dat (k : Ok sp F H n) : ∀ {vs : List V} {rs : List R} {A : List Addr} {ds : List D}, RRelA w K sp F H vs rs A → datAll rs = some ds → RpA w K (Hm sp H) vs ds
  | _, _, _, _, .nil, h => by cases h; exact .nil
  | _, _, _, _, .cons h t dj, hd => by
    unfold datAll at hd
    split at hd
    · rename_i d ds e1 e2
      cases hd
      exact .cons (h.rp k e1) (RRelA.dat k t e2)
    · cases hd
theorem RRelA.ext : ∀ {vs : List V} {rs : List R} {A : List Addr}, RRelA w K sp F H vs rs A → Ext sp F H F' H' → RRelA w K sp F' H' vs rs A
  | _, _, _, .nil, _ => .nil
  | _, _, _, .cons h t dj, e => .cons (h.ext e) (RRelA.ext t e) dj
/-- one more on the left -/
theorem PostE.cons {r : R} {rs : List R} {n1 n2 : Int} {v : V} {vs : List V} {F1 H1 F2 H2 : Hp} (p : PostE w K sp F H r n1 v F1 H1) (q : PostA w K sp F1 H1 rs n2 vs F2 H2) : PostA w K sp F H (r :: rs) n2 (v :: vs) F2 H2 := by
  obtain ⟨e1, k1, A, r1, f1⟩ := p
  obtain ⟨e2, k2, As, r2, f2⟩ := q
  refine ⟨e1.trans e2, k2, A ++ As, .cons (r1.ext e2) r2 fun a ha z => (r1.there a ha).2.1 (f2 a z), fun a ha => ?_⟩
  rcases List.mem_append.mp ha with z | z
  · exact f1 a z
  · exact e1.fresh (f2 a z)
theorem PostE.after {r r' : R} {n1 n2 : Int} {v v' : V} {F1 H1 F2 H2 : Hp} (p : PostE w K sp F H r n1 v F1 H1) (q : PostE w K sp F1 H1 r' n2 v' F2 H2) : PostE w K sp F H r' n2 v' F2 H2 := by
  obtain ⟨e1, k1, A, r1, f1⟩ := p
  obtain ⟨e2, k2, As, r2, f2⟩ := q
  exact ⟨e1.trans e2, k2, As, r2, fun a ha => e1.fresh (f2 a ha)⟩
theorem PostA.after {rs : List R} {r' : R} {n1 n2 : Int} {vs : List V} {v' : V} {F1 H1 F2 H2 : Hp} (p : PostA w K sp F H rs n1 vs F1 H1) (q : PostE w K sp F1 H1 r' n2 v' F2 H2) : PostE w K sp F H r' n2 v' F2 H2 := by
  obtain ⟨e1, k1, A, r1, f1⟩ := p
  obtain ⟨e2, k2, As, r2, f2⟩ := q
  exact ⟨e1.trans e2, k2, As, r2, fun a ha => e1.fresh (f2 a ha)⟩
theorem PostE.refl (e : Ext sp F H F' H') (p : PostE w K sp F' H' r n' v F'' H'') : PostE w K sp F H r n' v F'' H'' := by
  obtain ⟨e2, k2, As, r2, f2⟩ := p
  exact ⟨e.trans e2, k2, As, r2, fun a ha => e.fresh (f2 a ha)⟩
end
end Lk
end
section
set_option linter.all false
set_option maxRecDepth 100000
set_option maxHeartbeats 1000000
/-! Comparisons of results; isinstance; built-ins; a def's call. -/
namespace Lk
open PySem PySem.Spec PyProof.Rows L2
section
variable {X : Cx} {sp : Option Addr} {F H : Hp} {n : Int} {x y : V} {Q : VK}
theorem opCmp_ok {op : COp} {a b : R} {c : Bool} {A B : List Addr} (hu : X.A.units + 65 < cLine) (k : Ok sp F H n) (ha : RRel X.w X.K sp F H x a A) (hb : RRel X.w X.K sp F H y b B) (h : opCmp op a b = some c)
    (hN : op = .isN ∨ op = .ntN → y = .non) (q : Q (.bl c) H) : semO X (compareOp (cop op)) x y H Q := by
  have gen : ∀ {d e : D}, a.dat = some d → b.dat = some e → cmpD op d e = some c → semO X (compareOp (cop op)) x y H Q := fun {d e} h1 h2 h3 => cmpD_ok hu k (ha.rpH k h1) (hb.rpH k h2) h3 hN q
  unfold opCmp at h
  split at h
  · rw [Option.bind_eq_some_iff] at h
    obtain ⟨d, h1, h2⟩ := h
    have e := hN (.inl rfl)
    subst e
    exact cmpD_ok hu k (ha.rpH k h1) .non h2 hN q
  · rw [Option.bind_eq_some_iff] at h
    obtain ⟨d, h1, h2⟩ := h
    have e := hN (.inr rfl)
    subst e
    exact cmpD_ok hu k (ha.rpH k h1) .non h2 hN q
  · split at h
    · rename_i d e h1 h2
      exact gen h1 h2 h
    · cases h
/-! ### isinstance -/
def tyS : D → Value
  | .none => .type "NoneType"
  | .bool _ => .type "bool"
  | .int _ => .type "int"
  | .str _ => .type "str"
  | .list _ => .type "list"
  | .tuple _ => .type "tuple"
  | .dict _ => .type "dict"
theorem tyX_of {w : World} {K : KF} {v : V} {d : D} (h : Rp w K H v d) (hd : isDct d = false) : TyX K H v (tyS d) := by
  cases h with
  | non => exact .base .non
  | bl b => exact .base (.bl b)
  | int i => exact .base (.int i)
  | str z => exact .base (.str z)
  | lst q1 _ =>
    rcases q1 with (q | ⟨o, q⟩) | ⟨o, its, n, e1, e2, e3, _⟩
    · exact .base (.lst q)
    · exact .base (.frz q)
    · exact .kList e1 e2
  | tup q1 _ =>
    rcases q1 with (q | ⟨o, q⟩) | ⟨o, its, n, e1, e2, e3, _⟩
    · exact .base (.tup q)
    · exact .fTuple q
    · exact .kTuple e1 e2
  | dct _ _ => cases hd
  | exo _ _ _ => cases hd
  | exn _ => cases hd
theorem isTy_kit {K : KF} {d : D} {t : Str} {b : Bool} (h : isTy d t = some b) : isDct d = false ∧ ∃ T, bootBuiltins t = some (.type T) ∧ PySem.W.kitOne K (tyS d) (.type T) = some b ∧ t ∈ five := by
  unfold isTy at h
  split at h
  · cases h
  · rename_i h0
    have h0' : isDct d = false := by cases e : isDct d <;> simp_all
    refine ⟨h0', ?_⟩
    split at h
    · rename_i e; subst e
      refine ⟨"int", rfl, ?_, by decide⟩
      cases d <;> first | (cases h; rfl) | cases h0'
    split at h
    · rename_i e; subst e
      refine ⟨"bool", rfl, ?_, by decide⟩
      cases d <;> first | (cases h; rfl) | cases h0'
    split at h
    · rename_i e; subst e
      refine ⟨"str", rfl, ?_, by decide⟩
      cases d <;> first | (cases h; rfl) | cases h0'
    split at h
    · rename_i e; subst e
      refine ⟨"list", rfl, ?_, by decide⟩
      cases d <;> first | (cases h; rfl) | cases h0'
    split at h
    · rename_i e; subst e
      refine ⟨"tuple", rfl, ?_, by decide⟩
      cases d <;> first | (cases h; rfl) | cases h0'
    · cases h
abbrev TyL : List Str → List String → Prop := Paired fun t T => bootBuiltins t = some (.type T) ∧ t ∈ five
theorem isTys_kit {K : KF} {d : D} : ∀ {ts : List Str} {b : Bool}, isTys d ts = some b → (ts = [] ∨ isDct d = false) ∧ ∃ Ts, TyL ts Ts ∧ PySem.W.kitAny K (tyS d) (Ts.map Value.type) = some b
  | [], b, h => by cases h; exact ⟨.inl rfl, [], .nil, rfl⟩
  | t :: ts, b, h => by
    unfold isTys at h
    split at h
    · rename_i x y e1 e2
      cases h
      obtain ⟨h0, T, b1, k1, m1⟩ := isTy_kit (K := K) e1
      obtain ⟨_, Ts, p, k2⟩ := isTys_kit (K := K) e2
      refine ⟨.inr h0, T :: Ts, .cons ⟨b1, m1⟩ p, ?_⟩
      show (match PySem.W.kitOne K (tyS d) (.type T) with | some true => some true | some false => PySem.W.kitAny K (tyS d) (Ts.map Value.type) | none => none) = _
      rw [k1]
      cases x with
      | true => rfl
      | false => exact k2
    · cases h
theorem TyL.uniq : ∀ {ts : List Str} {Ts Us : List String}, TyL ts Ts → TyL ts Us → Ts = Us
  | _, _, _, .nil, .nil => rfl
  | _, _, _, .cons a t, .cons b u => by
    have h := a.1.symm.trans b.1
    cases h
    rw [TyL.uniq t u]
theorem TyL.cls : ∀ {ts : List Str} {Ts : List String}, TyL ts Ts → Paired ClsV (Ts.map V.ty) (Ts.map Value.type)
  | _, _, .nil => .nil
  | _, _, .cons _ t => .cons (.ty _) (TyL.cls t)
/-! ### built-ins -/
theorem bi_ok (hu : X.A.units + 65 < cLine) {b : Bi} {rs : List R} {r : R} {vs : List V} {A : List Addr} (hv : biHave b = true) (hc : X.calm = true) (k : Ok sp F H n) (ha : RRelA X.w X.K sp F H vs rs A) (h : opBi b rs = some r)
    (q : ∀ v F' H', PostE X.w X.K sp F H r n v F' H' → Q v H') : semC X (biVal b) vs H Q := by
  unfold opBi at h
  split at h
  case h_1 => cases ha with | cons a t _ => cases t; exact bi_len k a h q
  case h_2 => cases ha with | cons a t _ => cases t; exact bi_int k a h q
  case h_3 => cases ha with | cons a t _ => cases t; exact bi_abs k a h q
  case h_4 => cases ha with | cons a t _ => cases t with | cons a2 t2 _ => cases t2; exact bi_max2 hc k a a2 h q
  case h_5 => cases ha with | cons a t _ => cases t with | cons a2 t2 _ => cases t2; exact bi_min2 hc k a a2 h q
  case h_6 => cases ha with | cons a t _ => cases t; exact bi_max1 hc k a h q
  case h_7 => cases ha with | cons a t _ => cases t; exact bi_min1 hc k a h q
  case h_8 => cases ha with | cons a t _ => cases t; exact bi_sum hc k a h q
  case h_9 => cases ha with | cons a t _ => cases t; exact bi_all hc k a h q
  case h_10 => cases ha with | cons a t _ => cases t; exact bi_any hc k a h q
  case h_11 => cases ha with | cons a t _ => cases t; exact bi_sorted hc hu k a h q
  case h_12 => cases ha with | cons a t _ => cases t; exact bi_tuple k a h q
  case h_13 => cases hv
  case h_14 => cases ha with | cons a t _ => cases t; exact bi_str k a h q
  case h_15 => cases hv
  case h_16 => cases hv
  case h_17 => cases hv
  case h_18 => cases h
/-! ### a def's call -/
theorem Ok.noSp (k : Ok sp F H n) (n' : Int) : Ok none F H n' := ⟨k.sub, k.tup, k.tupf, fun a e => nomatch e⟩
theorem Ext.wider {F' H' : Hp} (e : Ext none F H F' H') : Ext sp F H F' H' := ⟨e.sub, fun a o _ h => e.keep a o (fun z => nomatch z) h, e.own, e.there⟩
theorem Ok.back {F' H' : Hp} {n' : Int} (k : Ok sp F H n) (e : Ext none F H F' H') (k' : Ok none F' H' n') : Ok sp F' H' n := ⟨k'.sub, k'.tup, k'.tupf, fun a h => by
  obtain ⟨h1, h2⟩ := k.spt a h
  exact ⟨e.keep a _ (fun z => nomatch z) h1, by rw [e.own a (by rw [h1]; exact fun z => nomatch z)]; exact h2⟩⟩
/-- all but the moving place stands still while the callee runs -/
theorem Ok.hmF (k : Ok sp F H n) : Ok sp (Hm sp H) H n := by
  have ne : ∀ a u, H a = some u → (∀ j, u ≠ .lst j) → sp ≠ some a := fun a u e hu z => by
    rw [(k.spt a z).1] at e; cases e; exact hu _ rfl
  refine ⟨fun a u e => .inl (hm_sub a u e), fun a xs e => ?_, fun a o xs e => .inl ?_, fun a e => ⟨(k.spt a e).1, if_pos e⟩⟩
  · rw [hm_ne (ne a _ e fun j z => nomatch z)]; exact e
  · rw [hm_ne (ne a _ e fun j z => nomatch z)]; exact e
/-- what the caller knows behind such a call -/
def Jn (F H F' : Hp) : Hp := fun a => match H a with
  | none => F' a
  | some _ => F a
theorem jn_none {F' : Hp} {a : Addr} (h : H a = none) : Jn F H F' a = F' a := by unfold Jn; rw [h]
theorem jn_some {F' : Hp} {a : Addr} (h : H a ≠ none) : Jn F H F' a = F a := by
  unfold Jn
  cases e : H a with
  | none => exact absurd e h
  | some o => rfl
theorem Jn.ext {F' H' : Hp} (k : Ok sp F H n) (e : Ext sp (Hm sp H) H F' H') : Ext sp F H (Jn F H F') H' :=
  ⟨fun a o h => by rw [jn_some fun z => by rw [k.fne z] at h; cases h]; exact h, e.keep, fun a h => jn_some h, e.there⟩
theorem Jn.ok {F' H' : Hp} {n' : Int} (k : Ok sp F H n) (e : Ext sp (Hm sp H) H F' H') (k' : Ok sp F' H' n') : Ok sp (Jn F H F') H' n' := by
  have old : ∀ a, H a ≠ none → sp ≠ some a → ∃ o, H a = some o ∧ H' a = some o := fun a h hs => by
    cases q : H a with
    | none => exact absurd q h
    | some o => exact ⟨o, rfl, e.keep a o hs q⟩
  refine ⟨fun a u h => ?_, fun a xs h => ?_, fun a o xs h => ?_, fun a h => ?_⟩
  · by_cases z : H a = none
    · rw [jn_none z] at h; exact k'.sub a u h
    · rw [jn_some z] at h
      have hs : sp ≠ some a := fun q => by rw [(k.spt a q).2] at h; cases h
      obtain ⟨o, h1, h2⟩ := old a z hs
      rcases k.sub a u h with g | ⟨g, ob, g2⟩
      · rw [h1] at g; cases g; exact .inl h2
      · rw [h1] at g2; cases g2; exact .inr ⟨g, ob, h2⟩
  · by_cases z : H a = none
    · rw [jn_none z]; exact k'.tup a xs h
    · rw [jn_some z]
      have hs : sp ≠ some a := fun q => by rw [(k'.spt a q).1] at h; cases h
      obtain ⟨o, h1, h2⟩ := old a z hs
      rw [h] at h2; cases h2
      exact k.tup a xs h1
  · by_cases z : H a = none
    · rw [jn_none z]; exact k'.tupf a o xs h
    · rw [jn_some z]
      have hs : sp ≠ some a := fun q => by rw [(k'.spt a q).1] at h; cases h
      obtain ⟨o, h1, h2⟩ := old a z hs
      rw [h] at h2; cases h2
      exact k.tupf a _ xs h1
  · refine ⟨(k'.spt a h).1, ?_⟩
    rw [jn_some (by rw [(k.spt a h).1]; exact fun z => nomatch z)]
    exact (k.spt a h).2
theorem fix_dat {r : R} {d : D} (h : r.fix = some d) : r.dat = some d := by
  cases r with
  | im d' => exact h
  | fr t => exact h
  | bw t =>
    simp only [R.fix] at h
    rw [Option.bind_eq_some_iff] at h
    obtain ⟨d', h1, h2⟩ := h
    split at h2
    · cases h2; exact h1
    · cases h2
  | bo d' =>
    simp only [R.fix] at h
    split at h
    · exact h
    · cases h
  | sp => cases h
theorem ArgR.mono {w : World} {K : KF} {F' : Hp} {pos : Option Nat} (e : Sub F F') : ∀ {j : Nat} {vs : List V} {ds : List D}, ArgR w K sp F pos j vs ds → ArgR w K sp F' pos j vs ds
  | _, _, _, .nil => .nil
  | _, _, _, .dat a b c => .dat a (b.mono e) (ArgR.mono e c)
  | _, _, _, .sp a b c => .sp a b (ArgR.mono e c)
theorem ArgR.noSp {w : World} {K : KF} : ∀ {j : Nat} {vs : List V} {ds : List D}, ArgR w K sp F none j vs ds → ArgR w K none F none j vs ds
  | _, _, _, .nil => .nil
  | _, _, _, .dat a b c => .dat a b (ArgR.noSp c)
  | _, _, _, .sp a b c => nomatch a
theorem args_hm {w : World} {K : KF} {pos : Option Nat} (k : Ok sp F H n) : ∀ {vs : List V} {rs : List R} {A : List Addr} {j : Nat} {ds : List D} {q : Bool}, RRelA w K sp F H vs rs A → argsOf pos j rs = some (ds, q) → ArgR w K sp (Hm sp H) pos j vs ds
  | _, _, _, _, _, _, .nil, h => by cases h; exact .nil
  | _, _, _, j, _, _, .cons (r := r) (rs := rs) a t dj, h => by
    unfold argsOf at h
    split at h
    · cases h
    · rename_i ds q e
      have ih := args_hm k t e
      split at h
      · rename_i hp
        cases r with
        | sp =>
          cases h
          cases a with
          | sp hs => exact .sp hp hs ih
        | _ => cases h
      · rename_i hp
        split at h
        · rename_i d hd
          cases h
          exact .dat hp (a.rp k (fix_dat hd)) ih
        · split at h
          · rename_i d hd
            cases h
            exact .dat hp (a.rp k hd) ih
          · cases h
theorem args_fz {w : World} {K : KF} {pos : Option Nat} (k : Ok sp F H n) : ∀ {vs : List V} {rs : List R} {A : List Addr} {j : Nat} {ds : List D}, RRelA w K sp F H vs rs A → argsOf pos j rs = some (ds, true) → ArgR w K sp (fzH F H A) pos j vs ds
  | _, _, _, _, _, .nil, h => by cases h; exact .nil
  | _, _, _, j, _, .cons (r := r) (rs := rs) (A := A) (As := As) a t dj, h => by
    have hA := a.there
    have hB := t.there
    have hAB : ∀ x ∈ A ++ As, F x = none := fun x hx => (List.mem_append.mp hx).elim (fun z => (hA x z).1) fun z => (hB x z).1
    have sA : Sub (fzH F H A) (fzH F H (A ++ As)) := fzH_sub (fun x z => List.mem_append_left _ z) hAB
    have sB : Sub (fzH F H As) (fzH F H (A ++ As)) := fzH_sub (fun x z => List.mem_append_right _ z) hAB
    unfold argsOf at h
    split at h
    · cases h
    · rename_i ds q e
      split at h
      · rename_i hp
        cases r with
        | sp =>
          cases h
          cases a with
          | sp hs => exact .sp hp hs ((args_fz k t e).mono sB)
        | _ => cases h
      · rename_i hp
        split at h
        · rename_i d hd
          cases h
          exact .dat hp ((a.fix k hd).mono sA) ((args_fz k t e).mono sB)
        · split at h
          · cases h
          · cases h
end
/-- the exception's part of a wish -/
def WX (xc : XC) (sp : Option Addr) (F H : Hp) (EK : XK) (ro : Ro α) : Prop := ∀ c d n, ro = .ex c d n → WishX xc sp F H EK c d n
theorem WX.ext {xc : XC} {sp : Option Addr} {F H F' H' : Hp} {EK : XK} {ro : Ro α} (h : WX xc sp F H EK ro) (e : Ext sp F H F' H') : WX xc sp F' H' EK ro := fun c d n z => (h c d n z).ext e
section
variable {X : Cx} {sp : Option Addr} {F H F0 H0 : Hp} {n : Int} {Q : VK} {xc : XC} {EK : XK}
theorem opCall_ok {fn : Fn} {rs : List R} {ro : Ro R} {vs : List V} (p : PostA X.w X.K sp F0 H0 rs n vs F H) (h : opCall fn rs n = some ro)
    (wx : WX xc sp F0 H0 EK ro) (q : ∀ r n', ro = .ok r n' → ∀ v F' H', PostE X.w X.K sp F0 H0 r n' v F' H' → Q v H') : spF X.w X.K xc fn vs H Q EK := by
  obtain ⟨e0, k, A, ra, fa⟩ := p
  unfold opCall at h
  split at h
  rotate_left
  · cases h
  rename_i hl'
  have hl : vs.length = fn.ps.length := by rw [ra.length]; exact hl'
  split at h
  rotate_left
  · cases h
  rename_i ds b hargs
  have hA := ra.there
  have e1 : Ext sp F0 H0 (fzH F H A) H := fz_ext e0 hA fa
  have k1 : Ok sp (fzH F H A) H n := fz_ok k hA
  have am := args_hm k ra hargs
  split at h
  · rename_i d n' hs
    cases h
    cases b with
    | true =>
      have az := args_fz k ra hargs
      by_cases hp : fn.pos = none
      · refine ⟨hl, none, fzH F H A, n, ds, .ok d n', fun _ => rfl, k1.noSp n, ?_, hs, fun v F' H' e k' r => ?_⟩
        · rw [hp] at az ⊢; exact az.noSp
        · refine q _ _ rfl v F' H' ⟨e1.trans e.wider, ?_, [], .im r, fun a z => nomatch z⟩
          rw [if_pos hp]
          exact k1.back e k'
      · refine ⟨hl, sp, fzH F H A, n, ds, .ok d n', fun z => absurd z hp, k1, az, hs, fun v F' H' e k' r => ?_⟩
        refine q _ _ rfl v F' H' ⟨e1.trans e, ?_, [], .im r, fun a z => nomatch z⟩
        rw [if_neg hp]
        exact k'
    | false =>
      by_cases hp : fn.pos = none
      · refine ⟨hl, none, Hm sp H, n, ds, .ok d n', fun _ => rfl, k.hmF.noSp n, ?_, hs, fun v F' H' e k' r => ?_⟩
        · rw [hp] at am ⊢; exact am.noSp
        · have e' : Ext sp (Hm sp H) H F' H' := e.wider
          have k2 : Ok sp F' H' n := k.hmF.back e k'
          refine q _ _ rfl v (Jn F H F') H' ⟨e0.trans (Jn.ext k e'), ?_, [], .bo (r.lift k2.hm), fun a z => nomatch z⟩
          rw [if_pos hp]
          exact Jn.ok k e' k2
      · refine ⟨hl, sp, Hm sp H, n, ds, .ok d n', fun z => absurd z hp, k.hmF, am, hs, fun v F' H' e k' r => ?_⟩
        refine q _ _ rfl v (Jn F H F') H' ⟨e0.trans (Jn.ext k e), ?_, [], .bo (r.lift k'.hm), fun a z => nomatch z⟩
        rw [if_neg hp]
        exact Jn.ok k e k'
  · rename_i c d n' hs
    split at h
    · rename_i hb
      cases h
      subst hb
      have az := args_fz k ra hargs
      by_cases hp : fn.pos = none
      · refine ⟨hl, none, fzH F H A, n, ds, .ex c d n', fun _ => rfl, k1.noSp n, ?_, hs, fun e od F' H' ee k' x => ?_⟩
        · rw [hp] at az ⊢; exact az.noSp
        · refine wx _ _ _ rfl e od F' H' (e1.trans ee.wider) ?_ x
          rw [if_pos hp]
          exact k1.back ee k'
      · refine ⟨hl, sp, fzH F H A, n, ds, .ex c d n', fun z => absurd z hp, k1, az, hs, fun e od F' H' ee k' x => ?_⟩
        refine wx _ _ _ rfl e od F' H' (e1.trans ee) ?_ x
        rw [if_neg hp]
        exact k'
    · cases h
  · cases h
end
end Lk
end
section
set_option linter.all false
set_option maxRecDepth 100000
set_option maxHeartbeats 2000000
/-! An own exception with one field over an own class over Exception: made, raised. -/
namespace Lx
open PySem PySem.W PySem.Calls PyProof.Rows PySem.HandSPX
open Builtin Builtin.ObjectAttr
def eB : List Value := [.type "Exception", .type "BaseException", .type "object"]
section
variable {prog : Program} {w : World} {A : Around} {E : Value → Shared → Prop} {R : Result → Shared → Prop} {hp : Heap} {g : Array GenState} {d : Drawn} {t : Nat} {os : OsState}
/-- the first field of a new exception -/
theorem osa_one {K : Frag} {name : Str} {tk : Tok} {v : Value} {x C : Addr} {fv : Array Value} (X : K.In hp) (hx : hp.get? x = some { cls := .ref C, data := .fields fv }) (q2 : excOver K C eB = true) (ht : takerIn K C name = some none) (hh : hasDictIn K C = true)
    (hq : ∀ h' tk' dx, (∀ b o, b ≠ x → hp.get? b = some o → h'.get? b = some o) → hp.objs.size ≤ dx → dx ≠ x → h'.get? x = some { cls := .ref C, dict := some dx, data := .fields fv } →
      h'.Ns1 dx (fun y => if y = name then some v else none) → R (.ok (.ret .none)) ⟨h', g, d, tk', os⟩) :
    codeAny (model prog w) A (.call (.builtin "object.__setattr__") ⟨[.ref x, .str name tk, v], []⟩) R ⟨hp, g, d, t, os⟩ := by
  have I : InstAt hp x { cls := .ref C, data := .fields fv } C none := ⟨hx, rfl, rfl, trivial⟩
  have nx : x ≠ hp.objs.size := Nat.ne_of_lt (Heap.lt_size hx)
  refine osa_openX (s := ⟨hp, g, d, t, os⟩) F.store_Exception X I q2 ht fun b => ?_
  obtain ⟨cd, hc, hd⟩ := any_some hh
  have L : Looks (model prog w) hp (classData C) cd := looks_clsIn X hc
  obtain ⟨nm, bs, mro, ns, qn, hd', sn, sb, ab, col, del⟩ := cd
  dsimp only at hd
  subst hd
  show wpAny _ _ (storeInOwnDict (.ref x) (.ref C) (.str name tk) name v b) _ _ _
  unfold storeInOwnDict ownDictForStores
  repeat (first | with_reducible refine store_in_new ?_ ?_ | with_reducible refine wpAny_loadPart_at hx ?_ | with_reducible refine L.at ?_ | wp_step)
  · exact ⟨_, #[], _, (Heap.get?_update_ne _ _ _ _ nx.symm).trans (Heap.get?_push_at rfl rfl), rfl, fun e he => absurd he (by simp), fun _ => rfl⟩
  · intro h' tk' hn' hs
    have hx1 : (hp.push { cls := .type "dict", data := .dict #[] }).get? x = some { cls := .ref C, data := .fields fv } := Heap.get?_push_of_some _ hx
    exact hq h' tk' hp.objs.size (fun b o hb ho => (hs.2 b (Nat.ne_of_lt (Heap.lt_size ho))).trans ((Heap.get?_update_ne _ _ _ _ hb).trans (Heap.get?_push_of_some _ ho))) (Nat.le_refl _) nx.symm
      ((hs.2 x nx).trans (Heap.get?_update_self _ hx1 rfl)) hn'
end
end Lx
namespace Lx
open PySem PySem.Spec PyProof.Rows L2
/-- what the written part says of an own class whose __init__ keeps one field -/
structure ExC (K : PySem.W.Frag) (C : Addr) (f : Str) : Prop where
  q1 : PySem.W.excInitIn K C eB "Exception.__new__" = true
  q2 : PySem.W.excOver K C eB = true
  tk : PySem.W.takerIn K C f = some none
  no : PySem.W.findIn K (.ref C) f = some none
  sa : PySem.W.findIn K (.ref C) "__setattr__" = some (some (.builtin "object.__setattr__"))
  xf : XfC K C
  ty : PySem.W.typeIn K (.ref C) = some (.type "type")
  kC : PySem.W.keepIn K (.ref C) = true
  me : PySem.W.exmOne K (.ref C) (.ref C) = some true
section
variable {X : Cx} {pins : List (Addr × Obj)} {σ : L2.St} {H : Hp} {s : Shared} {a C : Addr} {f : Str} {y : V} {u : Value} {Q : Unit → Shared → Prop} {E : Value → Shared → Prop} {A : Around}
theorem exo_not {o : HO} {e : Addr} {d : Option Addr} (h : H a = some (exo e C d)) {b : Addr} (hb : H b = some o) (n : ∀ d, exo e C d ≠ o) : b ≠ a := fun z => by
  subst z
  rw [h] at hb
  exact n d (Option.some.inj hb)
theorem ost1 (T : ExC X.K C f) (I : Inv X pins σ H s) (e : H a = some (exo a C none)) (ry : RelV y u)
    (h : ∀ dx s', H dx = none → dx ≠ a → Inv X pins σ (upd (upd H dx (exd dx [(f, y)])) a (exo a C (some dx))) s' → Q () s') : wpAny (model X.prog X.w) A (setAttr (.ref a) f u) Q E s := by
  obtain ⟨t1, ho⟩ := exo_at I.hok e
  obtain ⟨hp, g, d, t, os⟩ := s
  have ho : hp.get? a = some ({ cls := .ref C, dict := none, data := .fields #[.ref t1, .none, .none, .none, .bool false, .none] } : Obj) := ho
  refine PySem.W.set_plain I.kIn (od := none) ⟨ho, rfl, rfl, trivial⟩ T.sa (osa_one I.kIn ho T.q2 T.tk T.xf.hdC fun h' tk' dx k dn dne hx hn => ?_)
  have nH : H dx = none := I.hok.fresh dn
  have nO : ∀ {b : Addr} {o : Obj}, hp.get? b = some o → b ≠ dx := fun q => Nat.ne_of_lt (Nat.lt_of_lt_of_le (Heap.lt_size q) dn)
  have nA : ∀ {b : Addr}, H b = none → b ≠ a := fun n z => by rw [z, e] at n; cases n
  have ab : ∀ {b : Addr} {o : HO}, H b = some o → (∀ d, exo a C d ≠ o) → upd (upd H dx (exd dx [(f, y)])) a (exo a C (some dx)) b = some o := fun q n => by
    rw [upd_ne (exo_not e q n), upd_ne (ne_of_none q nH)]; exact q
  refine h dx _ nH dne (I.un (t' := tk') ?un fun b o q => ?_)
  case un =>
    refine ⟨fun b o q n _ _ => k b o (nA n) q, fun b o q n _ _ => ⟨o.slots, k b o (nA n) q⟩, fun b o q n _ => ?_, fun b o q _ => ?_, fun b xs q => ab q fun _ => exo_tup, fun b o v q => ab q fun _ => exo_frz, fun b ps q => ⟨#[], ?_⟩⟩
    · rw [upd_ne (nA n), upd_ne (nO q)]; exact n
    · by_cases hb : b = a
      · exact ⟨_, by rw [hb]; exact hx⟩
      · exact ⟨o, k b o hb q⟩
    · rw [ab q fun _ => exo_tbl]; simp
  by_cases hb : b = a
  · subst hb
    rw [upd_same] at q
    cases q
    exact exo_ok hx
  rw [upd_ne hb] at q
  by_cases hd : b = dx
  · subst hd
    rw [upd_same] at q
    cases q
    exact exd_ok hn (relO_put (fs := []) ry fun _ => True.intro)
  rw [upd_ne hd] at q
  refine (I.hok b o q).stay (fun c v hc z => k c v ?_ z) (fun c hc => ab hc fun _ => exo_own) fun c xs hc => ab hc fun _ => exo_tup
  rcases hc with rfl | hc
  · exact hb
  · exact exo_not e hc fun _ => exo_own
end
/-- self.f = e, where self is new -/
def tOst1 (K : PySem.W.Frag) (f : Str) (to te : TE) : TS := fun D σ H => te σ H fun y H1 => to σ H1 fun x H2 => ∃ a C : Addr, x = .ref a ∧ ExC K C f ∧ H2 a = some (exo a C none) ∧ ∀ dx, H2 dx = none → dx ≠ a → D.nx σ (upd (upd H2 dx (exd dx [(f, y)])) a (exo a C (some dx)))
/-- C(e), C's own __init__ keeping sp -/
def tMk1 (C : Addr) (sp : Sp) (ta : TA) : L2.St → Hp → XK → Prop := fun σ H Q => ta σ H fun vs H1 => vs.length ≤ 1000 ∧ ∀ a, H1 a = none → sp (.ref a :: vs) (upd H1 a (exo a C none))
  (fun v H2 => v = .non ∧ ∃ (d : Addr) (fs : List (Str × V)), H2 a = some (exo a C (some d)) ∧ H2 d = some (exd d fs) ∧ H1 d = none ∧ Q (.ref C) (some d) (upd (del H2 a) d (.xd fs))) (fun _ _ _ => False)
section
variable {X : Cx} {o e : Expr} {es : List Expr} {to te : TE} {ta : TA} {f : Str} {p p' pos : Pos}
theorem ps_ost1 (ho : PE X o to) (he : PE X e te) (hs : swapsWith e (some (.Attribute o f p')) pos.line X.env = pure false := by rfl) : PS X (.Assign [.Attribute o f p'] e pos) (tOst1 X.K f to te) := by
  refine ⟨fun pins s σ H D I h => plainObj_wpAny_Assign_Attribute (thn (he.run pins s σ H _ I h) fun v s1 ⟨y, H1, I1, r1, q1⟩ => thn (ho.run pins s1 σ H1 _ I1 q1) fun u s2 ⟨x, H2, I2, r2, a, C, ex, T, ea, q⟩ => ?_) hs⟩
  subst ex
  obtain rfl : u = Value.ref a := r2
  exact ost1 T I2 ea r1 fun dx s' n ne J => ⟨σ, _, J, q dx n ne⟩
theorem pmk1 {CX : CXT} {x : Str} {C fI : Addr} {k : Nat} {fd : FuncData} {ps : List Str} {sp : Sp} (T : ExC X.K C f) (iC : PySem.W.findIn X.K (.ref C) "__init__" = some (some (.ref fI))) (tI : PySem.W.typeIn X.K (.ref fI) = some (.type "function"))
    (Fi : FnOk X.prog X.w X.K X.mg X.base CX k fI fd ps sp) (hr : Room (k + 1) X.A) (hb : Binds X.K fd ps []) (hx : Passes CX X (fun _ _ _ => False)) (hg : Gl X x) (hm : X.mg x = some (.ref C)) (ha : PA X (e :: es) ta)
    (hdb : (x == ("__debug__" : Str)) = false) (he : starEach (e :: es) X.env = (false, eval e X.env) :: starEach es X.env) (hpl : (backTo pos (starEach es X.env)).any (·.1) = false) :
    PMk X (.Call (.Name x p) (e :: es) [] pos) (tMk1 C sp ta) := by
  intro pins s σ H Q I h
  refine wpAny_Call_Name_kw (ld_glob I hg hm (PySem.W.callWith_K (h₀ := X.base) I.ok.mod.kin T.kC (thn (ha.run pos pins s σ H _ I h) fun us s1 ⟨vs, H1, I1, r1, hz, q1⟩ => ⟨I1.kIn, ?_⟩) he hpl) hdb)
  show wpAny _ _ (call (.ref C) us) _ _ _
  obtain ⟨nm, N, qn, bs, bm, hdct, sn, sub, ab, col, dd, k0, k1, k2, k3, k5, hC, hT⟩ := PySem.W.excInit_of I1.kIn T.q1
  obtain ⟨hp, g, dr, tk, os⟩ := s1
  have hsz : hp.objs.size ≤ hp.objs.size + 1 := Nat.le_succ _
  have hq := q1 (hp.objs.size + 1) (I1.hok.fresh hsz)
  have kk : ∀ b o, hp.get? b = some o → ((hp.push (PySem.W.kdv_tup us)).push (PySem.HandSPX.excO C hp.objs.size)).get? b = some o := fun b o z => Heap.get?_push_of_some _ (Heap.get?_push_of_some _ z)
  have hget : ((hp.push (PySem.W.kdv_tup us)).push (PySem.HandSPX.excO C hp.objs.size)).get? (hp.objs.size + 1) = some (PySem.HandSPX.excO C hp.objs.size) := by heap_get
  have I2 := I1.laid (t' := tk) (a := hp.objs.size + 1) (o := exo (hp.objs.size + 1) C none) kk hsz (exo_ok hget)
  have r2 : Vals (V.ref (hp.objs.size + 1) :: vs) (Value.ref (hp.objs.size + 1) :: us) := .cons rfl r1
  have hl : (Value.ref (hp.objs.size + 1) :: us).length = ps.length := by
    have z := r2.length
    rw [Fi.len _ _ _ _ hq] at z
    exact z.symm
  have hus : us.length ≤ sizeLine := by rw [← Paired.length r1, sizeLine_eq]; omega
  have bi := hb ⟨(hp.push (PySem.W.kdv_tup us)).push (PySem.HandSPX.excO C hp.objs.size), g, dr, tk, os⟩ (Value.ref (hp.objs.size + 1) :: us) I2.kIn (by rw [List.length_append]; exact hl)
  rw [List.append_nil] at bi
  refine wpAny_call (PySem.HandSPX.call_own F.excBase_Exception hT hC (PySem.W.looks_findIn I1.kIn iC) (fun self => PySem.W.bind_fn I1.kIn self tI) hus
    (codeAny_mono (Fi.run _ X.stack _ _ ⟨Value.ref (hp.objs.size + 1) :: us, []⟩ (Value.ref (hp.objs.size + 1) :: us) _ _ (fun _ _ _ => False) (hr.make C us []) (I2.env0.make C us []) bi r2 hq) fun r s' hq' => ?_))
  cases r with
  | error er => exact hx pins σ _ _ er s' I2 hq'
  | ok fl =>
    cases fl with
    | ret u =>
      obtain ⟨v, H2, os2, bare2, un2, hok2, rv, ev, d, fs, ea, ed, hd1, q2⟩ := hq'
      subst ev
      obtain ⟨h2, g2, d2, t2, os'⟩ := s'
      exact ⟨rv, mk_end (raises_own T.xf.exC T.ty) I1 hsz kk un2 hok2 os2 bare2 ea ed hd1 q2⟩
    | _ => exact False.elim hq'
end
end Lx
end
section
set_option linter.all false
set_option maxRecDepth 100000
set_option maxHeartbeats 4000000
/-! Own exceptions as values: what stands there, isinstance of them, their fields. -/
namespace Lx
open PySem PySem.W PySem.Spec PySem.Calls PyProof.Rows
section
variable {prog : Program} {w : World} {A : Around} {E : Value → Shared → Prop} {s : Shared} {K : Frag} {x D : Addr} {ox : Obj} {od : Option Obj}
theorem xfind (C : L2.ExcC K D) : findObj K D od "__class__" = some (.bind (.builtin "getset_descriptor.__get__") (.builtin "object.__class__")) := by
  obtain ⟨cd, hc, _⟩ := any_some C.hd
  unfold findObj
  rw [hc, Option.bind_some, C.ha, Option.bind_some]
  simp [C.hn, C.ht]
/-- x.__class__ of an exception, with or without a dict -/
theorem xclass {Q : Option Value → Shared → Prop} (C : L2.ExcC K D) (X : K.In s.heap) (I : InstAt s.heap x ox D od) (h : Q (some (.ref D)) { s with toks := s.toks + 1 }) : wpAny (model prog w) A (getAttr? (.ref x) "__class__") Q E s := by
  obtain ⟨hp, g, d, t, os⟩ := s
  have l0 := I.type (M := model prog w)
  have l1 := looks_findIn (M := model prog w) X C.hg; have l2 := looks_findIn (M := model prog w) X C.hk
  have l3 := looks_find (M := model prog w) X I (xfind C)
  have l4 : Looks (model prog w) hp (isInstance (.ref x) (.type "BaseException")) true := l0.andThen (looks_subIn X C.hs)
  have ne : (Value.builtin "BaseException.__getattribute__" == Value.builtin "object.__getattribute__") = false := by decide +kernel
  unfold getAttr? getAttrBy? getAttrBy; refine wpAny_bind (wpAny_mkText (wpAny_bind (wpAny_attempt (wpAny_holding (wpAny_bind (l0.at (wpAny_bind (l1.at ?_)))))))); dsimp only
  rw [ne, Bool.and_false, if_neg Bool.false_ne_true]; unfold getAttrByItsOwn hookBefore
  refine wpAny_bind ?_; rw [if_pos (show onTheHeap (Value.ref D) = true from rfl)]; refine l2.at (wpAny_bind (wpAny_attempt (wpAny_holding ?_)))
  unfold callGetattribute; rw [show (false && onTheHeap (Value.builtin "BaseException.__getattribute__")) = false from rfl, if_neg Bool.false_ne_true]
  unfold boundAndCalled; rw [PySem.F.excAttr_ValueError.ga.bind (.ref x)]; refine wpAny_bind (wpAny_pure ?_)
  show wpAny _ _ (call _ [Value.ref x, .str "__class__" t]) _ _ _; refine wpAny_call (codeAny_call_builtin PySem.F.excAttr_ValueError.ga.plain PySem.F.entry_bexc_ga ?_)
  refine @check_slot (model prog w) _ _ ⟨hp, g, d, t + 1, os⟩ "BaseException.__getattribute__" "BaseException" "__getattribute__" (.ref x) [.str "__class__" t] [] _ (by decide +kernel) (by decide +kernel) l4 (PySem.F.args_bexc_ga (.ref x) (.str "__class__" t)) ?_
  unfold Builtin.«object.__getattribute__»; refine wpAny_bind (wpAny_of_eq (a := ((Value.ref x : Value), [Value.str "__class__" t])) (by first | rfl | (simp only [slotArgs]; rfl)) (wpAny_bind (wpAny_pure (wpAny_bind (l0.at (wpAny_bind (l3.at ?_)))))))
  show wpAny _ _ (holding [Value.builtin "object.__class__"] (call _ [Value.builtin "object.__class__", .ref x, .ref D]) >>= ret) _ _ _
  refine wpAny_bind (wpAny_holding (wpAny_call (class_get (s := ⟨hp, g, d, t + 1, os⟩) (ox := ox) (od := od) X I C.hm ?_))); refine wpAny_pure ?_
  show wpAny _ _ (handedOut (Value.ref D)) _ _ _; rw [handedOut_of (v := .ref D) rfl]
  first | exact wpAny_pure (wpAny_pure h) | exact wpAny_pure h | exact wpAny_pure (wpAny_bind (wpAny_pure (wpAny_pure h)))
theorem clsObj {h : Heap} (C : L2.ExcC K D) (X : K.In h) : ∃ c d cd sl, h.get? D = some ⟨c, d, .cls cd, sl⟩ := by
  obtain ⟨cd, hc, _⟩ := any_some C.hd
  unfold clsIn at hc; split at hc
  · rename_i ho; exact ⟨_, _, _, _, X _ _ ho⟩
  · cases hc
theorem xkit (C : L2.ExcC K D) : KitX K (.ref x) (.ref D) (fun h => ∃ ox od, InstAt h x ox D od) where
  ty := fun _ _ _ ⟨_, _, I⟩ => I.type
  it := fun M h X _ => by
    obtain ⟨c, d, cd, sl, ho⟩ := clsObj C X
    intro A Q E s k q
    unfold isType loadHead; exact wpAny_bind (wpAny_loadPart (k _ _ ho) (wpAny_pure q))
  ne := fun h tp dd its n sl X htp => Bool.eq_false_iff.mpr fun q => by
    obtain ⟨c, d, cd, sl', ho⟩ := clsObj C X
    cases Value.ref.inj (beq_iff_eq.mp q)
    cases ho.symm.trans htp
  ca := fun X ⟨_, _, I⟩ k => xclass C X I k
end
end Lx
namespace Lx
open PySem PySem.Spec PyProof.Rows L2
/-- an instance of the own exception class at C stands at a: it has no dict, or one with these fields -/
def ExR (H : Hp) (a C : Addr) : Option (Addr × List (Str × V)) → Prop
  | none => Rd H a (exo a C none)
  | some p => Rd H a (exo a C (some p.1)) ∧ Rd H p.1 (exd p.1 p.2)
section
variable {P : Program} {w : World} {H : Hp} {h : Heap} {a C dx : Addr} {fs : List (Str × V)} {od : Option Addr}
theorem exo_rd (hok : HOk P w H h) (e : Rd H a (exo a C od)) : ∃ t1 : Addr, h.get? a = some ({ cls := .ref C, dict := od, data := .fields #[.ref t1, .none, .none, .none, .bool false, .none] } : Obj) := by
  rcases e with e | ⟨o, e⟩
  · exact exo_at hok e
  · exact (show ObjOk P w H h a (exo a C od) from (hok a _ e).2).1
theorem exd_rd (hok : HOk P w H h) (e : Rd H dx (exd dx fs)) : ∃ mA, h.Ns1 dx mA ∧ ∀ f, RelO (fs.lookup f) (mA f) := by
  rcases e with e | ⟨o, e⟩
  · exact exd_at hok e
  · exact (show ObjOk P w H h dx (exd dx fs) from (hok dx _ e).2).1
theorem ExR.inst (hok : HOk P w H h) : ∀ {o : Option (Addr × List (Str × V))}, ExR H a C o → ∃ ox od, PySem.W.InstAt h a ox C od
  | none, e => by
    obtain ⟨t, e⟩ := exo_rd hok e
    exact ⟨_, none, e, rfl, rfl, trivial⟩
  | some p, ⟨e, ed⟩ => by
    obtain ⟨t, e⟩ := exo_rd hok e
    obtain ⟨mA, hns, _⟩ := exd_rd hok ed
    obtain ⟨od, ho, _⟩ := lookIn_ns hns
    exact ⟨_, some od, e, rfl, rfl, ho⟩
end
/-- isinstance(x, c), x an own exception -/
def rIsX (K : PySem.W.Frag) : List V → Hp → VK → Prop := fun xs H Q => ∃ (a C : Addr) (o : Option (Addr × List (Str × V))) (c : V) (u : Value) (b : Bool), xs = [.ref a, c] ∧ ClsV c u ∧ ExR H a C o ∧ ExcC K C ∧ PySem.W.kitOne K (.ref C) u = some b ∧ Q (.bl b) H
section
variable {X : Cx} {e : Expr} {te : TE} {pos : Pos} {n : Str}
theorem call_isX : CallR X (.builtin "isinstance") (rIsX X.K) := by
  intro pins s σ H xs us Q I r h
  obtain ⟨a, C, o, c, u, b, rfl, k, ea, cl, ek, q⟩ := h
  cases r with
  | cons rx rr =>
    cases rr with
    | cons rt rr =>
      cases rr
      cases rx
      have ec := k.eq rt
      subst ec
      exact PySem.W.kia_one (xkit cl) I.kIn (ea.inst I.hok) ek (fun z => nomatch z) fun tk => ⟨.bl b, H, I.tok tk, rfl, q⟩
/-- e.n of an own exception -/
def tFld (K : PySem.W.Frag) (n : Str) (te : TE) : TE := fun σ H Q => te σ H fun x H1 => ∃ (a C dx : Addr) (fs : List (Str × V)) (v : V), x = .ref a ∧ XfC K C ∧ PySem.W.findIn K (.ref C) n = some none ∧ ExR H1 a C (some (dx, fs)) ∧ fs.lookup n = some v ∧ Q v H1
theorem pe_fld (he : PE X e te) (hb : attributeBase e n X.env (eval e X.env) = eval e X.env := by rfl) : PE X (.Attribute e n pos) (tFld X.K n te) := by
  refine ⟨fun pins s σ H Q I h => ?_⟩
  refine attr_of hb (thn (he.run pins s σ H _ I h) fun u s1 hh => ?_)
  obtain ⟨x, H1, I1, rx, a, C, dx, fs, v, ex, T, no, ⟨ea, ed⟩, l, q⟩ := hh
  subst ex
  obtain rfl : u = Value.ref a := rx
  obtain ⟨t, ho⟩ := exo_rd I1.hok ea
  obtain ⟨mA, hns, hr⟩ := exd_rd I1.hok ed
  obtain ⟨od, hd, hl⟩ := lookIn_ns hns
  obtain ⟨u, hu, ru⟩ := RelO.some_of (v := v) (o := mA n) (by rw [← l]; exact hr n)
  exact HandSPX.exc_get I1.kIn ⟨ho, rfl, rfl, hd⟩ T.ga T.gg T.exC (PySem.W.findObj_own T.hdC no rfl (by rw [hl, hu])) (handed_of ru) ⟨v, H1, I1.tok _, ru, q⟩
end
end Lx
end
section
set_option linter.all false
set_option maxRecDepth 100000
set_option maxHeartbeats 4000000
/-! An own exception made by a call, its arguments by place or by name. -/
namespace Lx
open PySem PySem.W PySem.Spec PySem.Calls PyProof.Rows PySem.HandSPX
section
variable {nm q : Str} {C N : Addr} {bs bm bmB : List Value} {hdct : Bool} {sn : List Str} {sub : List Value} {ab : Bool} {col : Option Bool} {dd : Option Addr} {k0 k1 k2 k3 k5 : Option Value} {B newId initId : String}
variable {M : Model} {prog : Program} {w : World} {A : Around} {E : Value → Shared → Prop} {R : Result → Shared → Prop} {h : Heap} {g : Array GenState} {d : Drawn} {t : Nat} {os : OsState} {us : List Value} {kw : List (Str × Value)}
/-- the class's base B, and what its order says -/
structure Bas (bm bmB : List Value) (B newId initId : String) : Prop where
  f : ExcBaseFacts B newId initId bmB
  t : ∀ X : String, bm.contains (.type X) = bmB.contains (.type X)
theorem Bas.has (b : Bas bm bmB B newId initId) : (Value.ref C :: bm).contains (.type B) = true := by
  rw [List.contains_cons, b.t, b.f.hasB, Bool.or_true]
theorem mk_check (b : Bas bm bmB B newId initId) {Q : Unit → Shared → Prop} (hC : h.get? C = some (excClassObj nm q C N bs bm hdct sn sub ab col dd k0 k1 k2 k3 k5 newId)) (hq : Q () ⟨h, g, d, t, os⟩) :
    wpAny M A (checkBuiltinCall newId ⟨.ref C :: us, kw⟩) Q E ⟨h, g, d, t, os⟩ := by
  have hcont := b.has (C := C); have hstar := b.f.noStar
  simp only [checkBuiltinCall, b.f.newKind, b.f.newSplit, b.f.newRow]
  repeat (first | refine wpAny_loadPart_at hC ?_ | (refine wpAny_isSubtype_exc hC ?_; rw [hcont]) | refine wpAny_staticBase_exc hC ?_ | refine wpAny_madeBy_exc hC ?_ |
    simp only [bne_self_eq_false, Bool.false_eq_true, if_false] | wp_step)
  exact hq
theorem mk_new (b : Bas bm bmB B newId initId) (hC : h.get? C = some (excClassObj nm q C N bs bm hdct sn sub ab col dd k0 k1 k2 k3 k5 newId))
    (hq : R (.ok (.ret (.ref (h.objs.size + 1)))) ⟨(h.push (kdv_tup us)).push (excO C h.objs.size), g, d, t, os⟩) (hus : us.length ≤ sizeLine) : codeAny (model prog w) A (.builtin newId ⟨.ref C :: us, kw⟩) R ⟨h, g, d, t, os⟩ := by
  have he := b.f.ends; have hb := b.has (C := C)
  have ha : (Value.ref C :: bm).contains (.type "AttributeError") = false := by rw [List.contains_cons, b.t, b.f.noAttr] <;> rfl
  have hn : (Value.ref C :: bm).contains (.type "NameError") = false := by rw [List.contains_cons, b.t, b.f.noName] <;> rfl
  refine PySem.codeAny_builtinAt b.f.entry ?_
  unfold Builtin.«BaseException.__new__»; refine PySem.wpAt_bind ?_
  show PySem.wpAt _ _ _ (stack >>= _) _ _ _; refine PySem.wpAt_bind (PySem.wpAt_stack fun p below => PySem.wpAt_of_wpAny ?_)
  wp_walk
  refine PySem.wpAt_of_wpAny ?_; rw [b.f.owner]
  repeat (first | with_reducible refine wpAny_madeHere_exc b.f.canon hC ?_ | with_reducible refine wpAny_loadPart_at hC ?_ |
    (with_reducible refine wpAny_isSubtype_exc hC ?_; first | rw [hb] | rw [ha] | rw [hn]) | wp_step)
  show R _ _; rw [Heap.size_push]; exact hq
theorem mk_type (b : Bas bm bmB B newId initId) {fI : Addr} {Q : Fin → Shared → Prop} (hC : h.get? C = some (excClassObj nm q C N bs bm hdct sn sub ab col dd k0 k1 k2 k3 k5 newId))
    (hi : W.Looks (model prog w) h (typeLookup (.ref C) "__init__") (some (.ref fI))) (hb : ∀ self, W.Looks (model prog w) h (bindSpecial (.ref fI) self) (.ref fI, [self])) (hus : us.length ≤ sizeLine)
    (hq : codeAny (model prog w) A (.call (.ref fI) ⟨.ref (h.objs.size + 1) :: us, kw⟩) (fun r s' => match r with | .ok (.ret v) => v = .none ∧ Q (.done (.ret (.ref (h.objs.size + 1)))) s' | .ok _ => False | .error e => E e s')
      ⟨(h.push (kdv_tup us)).push (excO C h.objs.size), g, d, t, os⟩) : wpAny (model prog w) A (Builtin.«type.__call__» ⟨.ref C :: us, kw⟩) Q E ⟨h, g, d, t, os⟩ := by
  repeat (first | with_reducible refine wpAny_loadPart_at hC ?_ | with_reducible refine wpAny_madeBy_exc hC ?_ | wp_step)
  refine codeAny_call_builtin_code (Code.quiet_builtin _ b.f.quiet) (mk_check b hC (mk_new b hC ?_ hus))
  show wpAny _ _ _ _ _ _
  have kp : ∀ x o, h.get? x = some o → ((h.push (kdv_tup us)).push (excO C h.objs.size)).get? x = some o := fun x o e => Heap.get?_push_of_some _ (Heap.get?_push_of_some _ e)
  have c1 := kp _ _ hC; have i1 := hi.keeps kp; have b1 := (hb (.ref (h.objs.size + 1))).keeps kp
  have at1 : ((h.push (kdv_tup us)).push (excO C h.objs.size)).get? (h.objs.size + 1) = some (excO C h.objs.size) := by heap_get
  have cc : (Value.ref C :: bm).contains (.ref C) = true := by simp
  unfold isInstance
  repeat (first | with_reducible refine wpAny_loadPart_at at1 ?_ | (with_reducible refine wpAny_isSubtype_exc c1 ?_; rw [cc]) | wp_step)
  show wpAny _ _ (typeLookup (.ref C) _) _ _ _; refine i1.at (wpAny_holding (wpAny_bind (b1.at (wpAny_bind (wpAny_call (codeAny_mono hq fun r s' z => ?_))))))
  rcases r with e | (v | _ | _ | _) <;> first | exact z | exact z.elim | skip
  obtain ⟨rfl, z⟩ := z
  first | exact wpAny_pure (wpAny_pure z) | (wp_walk; exact z)
/-- C(..) -/
theorem mk_call (b : Bas bm bmB B newId initId) {fI : Addr} (hC : h.get? C = some (excClassObj nm q C N bs bm hdct sn sub ab col dd k0 k1 k2 k3 k5 newId))
    (hi : W.Looks (model prog w) h (typeLookup (.ref C) "__init__") (some (.ref fI))) (hb : ∀ self, W.Looks (model prog w) h (bindSpecial (.ref fI) self) (.ref fI, [self])) (hus : us.length ≤ sizeLine)
    (hq : codeAny (model prog w) (A.under (.builtin "type.__call__" ⟨.ref C :: us, kw⟩)) (.call (.ref fI) ⟨.ref (h.objs.size + 1) :: us, kw⟩) (W.InitBack (h.objs.size + 1) R) ⟨(h.push (kdv_tup us)).push (excO C h.objs.size), g, d, t, os⟩) :
    codeAny (model prog w) A (.call (.ref C) ⟨us, kw⟩) R ⟨h, g, d, t, os⟩ := by
  have f1 := tc_lookup; have f2 := tc_bind (.ref C)
  have hTy : (⟨h, g, d, t, os⟩ : Shared).TypeIs (.ref C) "type" := ⟨_, hC, rfl⟩
  refine codeAny_of_tree ?_; show wpAny _ _ (callAny (.ref C) _) _ _ _
  repeat (any_goals (first | assumption | with_reducible refine wpAny_loadPart_at hC ?_ | wp_step))
  refine ⟨rfl, codeAny_call_builtin_at (Code.quiet_builtin _ (by decide +kernel)) entry_typeCall (wpAny_check_type_call_sub hC (mk_type b hC hi hb hus ?_))⟩
  refine codeAny_mono hq fun r s' z => ?_
  rcases r with e | (v | _ | _ | _) <;> exact z
end
end Lx
end
section
set_option linter.all false
set_option maxRecDepth 100000
set_option maxHeartbeats 4000000
/-! Own exceptions: made as values, raised without arguments, asked in a suite. -/
namespace Lx
open PySem PySem.Spec PyProof.Rows L2
section
variable {X : Cx} {CX : CXT} {pins : List (Addr × Obj)} {σ : L2.St} {H : Hp} {s : Shared} {Q : VK} {EK : XK} {C fI : Addr} {fd : FuncData} {ps : List Str} {sp : Sp} {us ws : List Value} {kw : List (Str × Value)} {vs : List V}
/-- C(..) as a value -/
theorem run_mk (q1 : PySem.W.excInitIn X.K C eB "Exception.__new__" = true) (iC : PySem.W.findIn X.K (.ref C) "__init__" = some (some (.ref fI))) (tI : PySem.W.typeIn X.K (.ref fI) = some (.type "function"))
    (Fi : FnOk X.prog X.w X.K X.mg X.base CX 1 fI fd ps sp) (hr : Room 2 X.A) (hx : Passes CX X EK) (hb : ∀ (s : Shared) (self : Value), X.K.In s.heap → BindsTo s fd ⟨self :: us, kw⟩ (ps.zip (self :: ws))) (I : Inv X pins σ H s) (r : Vals vs ws) (hus : us.length ≤ sizeLine)
    (h : ∀ a, H a = none → sp (.ref a :: vs) (upd H a (exo a C none)) (fun v H2 => v = .non ∧ Q (.ref a) H2) EK) : wpAny (model X.prog X.w) X.A (call (.ref C) us kw) (EP X pins σ Q) X.xe s := by
  obtain ⟨nm, N, qn, bs, bm, hdct, sn, sub, ab, col, dd, k0, k1, k2, k3, k5, hC, hT⟩ := PySem.W.excInit_of I.kIn q1
  obtain ⟨hp, g, dr, tk, os⟩ := s
  have hsz : hp.objs.size ≤ hp.objs.size + 1 := Nat.le_succ _
  have hq := h (hp.objs.size + 1) (I.hok.fresh hsz)
  have kk : ∀ b o, hp.get? b = some o → ((hp.push (PySem.W.kdv_tup us)).push (PySem.HandSPX.excO C hp.objs.size)).get? b = some o := fun b o z => Heap.get?_push_of_some _ (Heap.get?_push_of_some _ z)
  have hget : ((hp.push (PySem.W.kdv_tup us)).push (PySem.HandSPX.excO C hp.objs.size)).get? (hp.objs.size + 1) = some (PySem.HandSPX.excO C hp.objs.size) := by heap_get
  have I2 := I.laid (t' := tk) (a := hp.objs.size + 1) (o := exo (hp.objs.size + 1) C none) kk hsz (exo_ok hget)
  refine wpAny_call (mk_call ⟨F.excBase_Exception, hT⟩ hC (PySem.W.looks_findIn I.kIn iC) (fun self => PySem.W.bind_fn I.kIn self tI) hus
    (codeAny_mono (Fi.run _ X.stack _ _ ⟨Value.ref (hp.objs.size + 1) :: us, kw⟩ (.ref (hp.objs.size + 1) :: ws) (.ref (hp.objs.size + 1) :: vs) _ EK (hr.make C us kw) (I2.env0.make C us kw) (hb _ _ I2.kIn) (.cons rfl r) hq) fun r s' hq' => ?_))
  cases r with
  | error er => exact hx pins σ _ _ er s' I2 hq'
  | ok fl =>
    cases fl with
    | ret u =>
      obtain ⟨v, H', I3, rv, ev, q3⟩ := I2.after hq'
      subst ev
      exact ⟨rv, .ref (hp.objs.size + 1), H', I3, rfl, q3⟩
    | _ => exact False.elim hq'
/-- isinstance(e, c) where a suite holds e -/
def rIsS (K : PySem.W.Frag) (a : Addr) (cls : Value) (d : Option Addr) : List V → Hp → VK → Prop := fun xs H Q => ∃ (D : Addr) (c : V) (u : Value) (b : Bool), xs = [.ref a, c] ∧ ClsV c u ∧ cls = .ref D ∧ ExcC K D ∧
  (d = none ∨ ∃ dx fs, d = some dx ∧ H dx = some (.xd fs)) ∧ PySem.W.kitOne K (.ref D) u = some b ∧ Q (.bl b) H
theorem call_isS {a : Addr} {oe : Obj} {cls : Value} {d : Option Addr} {pn : List (Addr × Obj)} (hz : Zc cls d oe) (hf : ∃ vs, oe.data = .fields vs) : CallR (X.suite a ((a, oe) :: pn)) (.builtin "isinstance") (rIsS X.K a cls d) := by
  intro pins s σ H xs us Q I r h
  obtain ⟨D, c, u, b, rfl, k, ec, cl, hd, ek, q⟩ := h
  cases r with
  | cons rx rr =>
    cases rr with
    | cons rt rr =>
      cases rr
      cases rx
      have eu := k.eq rt
      subst eu; subst ec
      obtain ⟨hget, _⟩ := I.pin (a, oe) (List.mem_append.mpr (.inl List.mem_cons_self))
      have J : ∃ ox od, PySem.W.InstAt s.heap a ox D od := by
        obtain ⟨vs, hv⟩ := hf
        obtain ⟨h1, h2⟩ := hz
        have hn : PySem.W.notCls oe = true := by unfold PySem.W.notCls; rw [hv] <;> rfl
        rcases hd with rfl | ⟨dx, fs, rfl, hx⟩
        · exact ⟨oe, none, hget, h1, hn, by rw [h2] <;> trivial⟩
        · have hx' : ObjOk X.prog X.w H s.heap dx (.xd fs) := I.hok dx _ hx
          obtain ⟨mA, hns, _⟩ := hx'
          obtain ⟨od, ho, _⟩ := lookIn_ns hns
          exact ⟨oe, some od, hget, h1, hn, by rw [h2]; exact ho⟩
      exact PySem.W.kia_one (xkit cl) I.kIn J ek (fun z => nomatch z) fun tk => ⟨.bl b, H, I.kept (t' := tk) fun _ _ z => z, rfl, q⟩
end
/-- C(), C's own __init__ keeping sp, raised -/
def tMk0 (C : Addr) (sp : Sp) : L2.St → Hp → XK → Prop := fun σ H Q => ∀ a, H a = none → sp [.ref a] (upd H a (exo a C none)) (fun v H2 => v = .non ∧ H2 = upd H a (exo a C none) ∧ Q (.ref C) none H) (fun _ _ _ => False)
section
variable {X : Cx} {pos p : Pos}
theorem mk0_end {pins : List (Addr × Obj)} {σ : L2.St} {H1 : Hp} {Q : XK} {hp hp2 h2 : Heap} {g1 g2 : Array GenState} {d1 d2 : Drawn} {t1 t2 : Nat} {os1 os2 : OsState} {a C : Addr} (T : Raises X (.ref C)) (I1 : Inv X pins σ H1 ⟨hp, g1, d1, t1, os1⟩) (ha : hp.objs.size ≤ a)
    (k : ∀ b o, hp.get? b = some o → hp2.get? b = some o) (un : Un (frs X.stack) [] (upd H1 a (exo a C none)) (upd H1 a (exo a C none)) hp2 h2) (hok : HOk X.prog X.w (upd H1 a (exo a C none)) h2) (ho : os2 = os1) (hb : AllBare g2) (q : Q (.ref C) none H1) :
    MkP X pins σ Q (.ref a) ⟨h2, g2, d2, t2, os2⟩ := by
  obtain ⟨t0, hoe⟩ := exo_at hok upd_same
  have hn : H1 a = none := I1.hok.fresh ha
  obtain ⟨G, g1', g2'⟩ := restrict h2 fun b => decide (b ≠ a)
  have gk : ∀ b, b ≠ a → G.get? b = h2.get? b := fun b hb => g1' b (decide_eq_true hb)
  have ge : G.get? a = none := g2' a (by simp)
  have nA : ∀ {b : Addr} {o : Obj}, hp.get? b = some o → b ≠ a := fun z => Nat.ne_of_lt (Nat.lt_of_lt_of_le (Heap.lt_size z) ha)
  have up : ∀ {b : Addr}, b ≠ a → upd H1 a (exo a C none) b = H1 b := fun z => upd_ne z
  have nH : ∀ {b : Addr} {o : HO}, H1 b = some o → b ≠ a := fun z => ne_of_none z hn
  have U : Un (frs X.stack) [] H1 H1 hp G := ⟨
    fun b o z n hf hx => by rw [gk b (nA z)]; exact un.keep b o (k b o z) ((up (nA z)).trans n) hf hx,
    fun b o z n hf hx => by rw [gk b (nA z)]; exact un.slot b o (k b o z) ((up (nA z)).trans n) hf hx,
    fun b o z n hx => n, fun b o z hx => by rw [gk b (nA z)]; exact un.there b o (k b o z) hx, fun b xs z => z, fun b o v z => z,
    fun b ps z => ⟨#[], by rw [z]; simp⟩⟩
  have hok3 : HOk X.prog X.w H1 G := fun b o z => by
    have hba := nH z
    refine (hok b o ((up hba).trans z)).stay (fun c v hc y => ?_) (fun c hc => ?_) fun c xs hc => ?_
    · have hca : c ≠ a := by
        rcases hc with hc | hc
        · rw [hc]; exact hba
        · intro e; rw [e, upd_same] at hc; exact exo_own (Option.some.inj hc)
      rw [gk c hca]; exact y
    · rw [up fun e => by rw [e, upd_same] at hc; exact exo_own (Option.some.inj hc)] at hc; exact hc
    · rw [up fun e => by rw [e, upd_same] at hc; exact exo_tup (Option.some.inj hc)] at hc; exact hc
  have J : Inv X pins σ H1 ⟨G, g2, d2, t2, os2⟩ := I1.call' (ch := []) ho U hok3 hb (fun b z => absurd z (by simp))
  refine ⟨a, _, _, ⟨G, g2, d2, t2, os2⟩, H1, .ref C, none, rfl, J, fun b o z => ?_, ge, hoe, ⟨rfl, rfl⟩, rfl, rfl, hn, rfl, hb, T, q⟩
  by_cases hba : b = a
  · rw [hba, ge] at z; cases z
  · exact (gk b hba).symm.trans z
theorem pmk0 {CX : CXT} {x : Str} {C fI : Addr} {k : Nat} {fd : FuncData} {ps : List Str} {sp : Sp} (q1 : PySem.W.excInitIn X.K C eB "Exception.__new__" = true) (hT : Raises X (.ref C)) (kC : PySem.W.keepIn X.K (.ref C) = true)
    (iC : PySem.W.findIn X.K (.ref C) "__init__" = some (some (.ref fI))) (tI : PySem.W.typeIn X.K (.ref fI) = some (.type "function")) (Fi : FnOk X.prog X.w X.K X.mg X.base CX k fI fd ps sp) (hr : Room (k + 1) X.A) (hb : Binds X.K fd ps []) (hx : Passes CX X (fun _ _ _ => False))
    (hg : Gl X x) (hm : X.mg x = some (.ref C)) (hdb : (x == ("__debug__" : Str)) = false) : PMk X (.Call (.Name x p) [] [] pos) (tMk0 C sp) := by
  intro pins s σ H Q I h
  refine wpAny_Call_Name_kw (ld_glob I hg hm (PySem.W.callWith_K0 I.kIn kC ?_) hdb)
  show wpAny _ _ (call (.ref C) []) _ _ _
  obtain ⟨nm, N, qn, bs, bm, hdct, sn, sub, ab, col, dd, k0, k1, k2, k3, k5, hC, hTT⟩ := PySem.W.excInit_of I.kIn q1
  obtain ⟨hp, g, dr, tk, os⟩ := s
  have hsz : hp.objs.size ≤ hp.objs.size + 1 := Nat.le_succ _
  have hq := h (hp.objs.size + 1) (I.hok.fresh hsz)
  have kk : ∀ b o, hp.get? b = some o → ((hp.push (PySem.W.kdv_tup [])).push (PySem.HandSPX.excO C hp.objs.size)).get? b = some o := fun b o z => Heap.get?_push_of_some _ (Heap.get?_push_of_some _ z)
  have hget : ((hp.push (PySem.W.kdv_tup [])).push (PySem.HandSPX.excO C hp.objs.size)).get? (hp.objs.size + 1) = some (PySem.HandSPX.excO C hp.objs.size) := by heap_get
  have I2 := I.laid (t' := tk) (a := hp.objs.size + 1) (o := exo (hp.objs.size + 1) C none) kk hsz (exo_ok hget)
  have hl : ([Value.ref (hp.objs.size + 1)] ++ []).length = ps.length := (Fi.len _ _ _ _ hq)
  have bi := hb ⟨(hp.push (PySem.W.kdv_tup [])).push (PySem.HandSPX.excO C hp.objs.size), g, dr, tk, os⟩ [Value.ref (hp.objs.size + 1)] I2.kIn hl
  rw [List.append_nil] at bi
  refine wpAny_call (mk_call ⟨F.excBase_Exception, hTT⟩ hC (PySem.W.looks_findIn I.kIn iC) (fun self => PySem.W.bind_fn I.kIn self tI) (Nat.zero_le _)
    (codeAny_mono (Fi.run _ X.stack _ _ ⟨[Value.ref (hp.objs.size + 1)], []⟩ [Value.ref (hp.objs.size + 1)] [V.ref (hp.objs.size + 1)] _ (fun _ _ _ => False) (hr.make C [] []) (I2.env0.make C [] []) bi (.cons rfl .nil) hq) fun r s' hq' => ?_))
  cases r with
  | error er => exact hx pins σ _ _ er s' I2 hq'
  | ok fl =>
    cases fl with
    | ret u =>
      obtain ⟨v, H2, os2, bare2, un2, hok2, rv, ev, eH, q2⟩ := hq'
      subst ev; subst eH
      obtain ⟨h2, g2, d2, t2, os'⟩ := s'
      exact ⟨rv, mk0_end hT I hsz kk un2 hok2 os2 bare2 q2⟩
    | _ => exact False.elim hq'
end
end Lx
end
section
set_option linter.all false
set_option maxRecDepth 100000
set_option maxHeartbeats 2000000
/-! Own exceptions in the small language. -/
namespace Lk
open PySem PySem.Spec PyProof.Rows L2
/-- what __init__(self, f) promises -/
def spI (C : Addr) (f : Str) : Sp := fun vs H Q E => ∃ a y, vs = [.ref a, y] ∧ H a = some (exo a C none) ∧ ∀ dx, H dx = none → dx ≠ a → Q .non (upd (upd H dx (exd dx [(f, y)])) a (exo a C (some dx)))
/-- the class c, which keeps f, stands at C -/
structure OwnX (P : Program) (w : World) (K : KF) (mg : Str → Option Value) (base : Heap) (c f : Str) (C : Addr) : Prop where
  cls : Lx.ExC K C f
  ga : He.ga K c = C
  at_ : mg c = some (.ref C)
  init : ∃ fI fd, FnOk P w K mg base (L2.CX P w) 1 fI fd ["self", f] (spI C f) ∧ PySem.W.findIn K (.ref C) "__init__" = some (some (.ref fI)) ∧ PySem.W.typeIn K (.ref fI) = some (.type "function") ∧ Binds K fd ["self", f] [] ∧
    ∀ (s : Shared) (self u : Value), K.In s.heap → BindsTo s fd ⟨[self], [(f, u)]⟩ [(("self" : Str), self), (f, u)]
/-- what __init__(self) promises -/
def spI0 (C : Addr) : Sp := fun vs H Q E => ∃ a, vs = [.ref a] ∧ H a = some (exo a C none) ∧ Q .non H
/-- the class c, which keeps nothing, stands at C -/
structure OwnX0 (P : Program) (w : World) (K : KF) (mg : Str → Option Value) (base : Heap) (c : Str) (C : Addr) : Prop where
  q1 : PySem.W.excInitIn K C Lx.eB "Exception.__new__" = true
  exC : PySem.W.subIn K (.ref C) (.type "BaseException") = some true
  ty : PySem.W.typeIn K (.ref C) = some (.type "type")
  kC : PySem.W.keepIn K (.ref C) = true
  ga : He.ga K c = C
  at_ : mg c = some (.ref C)
  init : ∃ fI fd, FnOk P w K mg base (L2.CX P w) 1 fI fd ["self"] (spI0 C) ∧ PySem.W.findIn K (.ref C) "__init__" = some (some (.ref fI)) ∧ PySem.W.typeIn K (.ref fI) = some (.type "function") ∧ Binds K fd ["self"] []
/-- whether an exception of the own class c is one of the class t -/
def IxOk (K : KF) (mg : Str → Option Value) (c t : Str) (b : Bool) : Prop := ∃ (u : Value) (v : V), (mg t = some u ∨ (mg t = none ∧ bootBuiltins t = some u)) ∧ RelV v u ∧ ClsV v u ∧ ExcC K (He.ga K c) ∧ PySem.W.kitOne K (.ref (He.ga K c)) u = some b ∧
  PySem.W.exmOne K (.ref (He.ga K c)) u = some b
/-- an exception of the class at C that keeps d -/
def XAt (w : World) (K : KF) (f : Str) (C : Addr) (d : D) (e : Value) (od : Option Addr) (F H : Hp) : Prop := e = .ref C ∧ ∃ dx v, od = some dx ∧ H dx = some (.xd [(f, v)]) ∧ Rp w K F v d
/-- how exceptions stand -/
def xcOf (w : World) (K : KF) (mg : Str → Option Value) (cl : Str → Option Str) (c0 : Str → Bool) : XC := fun c d e od F H => (∃ f C, cl c = some f ∧ mg c = some (.ref C) ∧ XAt w K f C d e od F H) ∨
  (cl c = none ∧ c0 c = true ∧ ∃ C, mg c = some (.ref C) ∧ e = .ref C ∧ od = none ∧ d = .none)
structure OwnAt (P : Program) (w : World) (K : KF) (mg : Str → Option Value) (base : Heap) (k : Nat) (xc : XC) (tb : Tb) : Prop where
  ex : ∀ c f, tb.cl c = some f → 2 ≤ k ∧ ∃ C, OwnX P w K mg base c f C ∧ ∀ d e od F H, xc c d e od F H ↔ XAt w K f C d e od F H
  ex0 : ∀ c, tb.c0 c = true → 2 ≤ k ∧ ∃ C, OwnX0 P w K mg base c C ∧ ∀ d e od F H, xc c d e od F H ↔ (e = .ref C ∧ od = none ∧ d = .none)
  ix : ∀ c t b, tb.ix c t = some b → IxOk K mg c t b ∧ ∀ d e od F H, xc c d e od F H → e = .ref (He.ga K c) ∧ (od = none ∨ ∃ dx fs, od = some dx ∧ H dx = some (.xd fs))
section
variable {X : Cx} {sc : Scope}
/-- `__init__` keeps its promise -/
theorem init_ok {P : Program} {w : World} {K : KF} {mg : Str → Option Value} {base : Heap} {x q f : Str} {st : Stmt} {fI C : Addr} {fd : FuncData} (Fu : Fun K x q st fI fd) (S : FnScope ["self", f] ["self", f] (defScope st)) (T : Lx.ExC K C f)
    (hb : ∃ q1 q2 q3 q4, defBody st = [.Assign [.Attribute (.Name "self" q1) f q2] (.Name f q3) q4]) (l1 : (defScope st).names.lookup ("self" : Str) = some .local) (l2 : (defScope st).names.lookup f = some .local) (d1 : (f == ("__debug__" : Str)) = false) (d2 : (f == ("__classdict__" : Str)) = false) :
    FnOk P w K mg base (L2.CX P w) 1 fI fd ["self", f] (spI C f) := by
  obtain ⟨q1, q2, q3, q4, hb⟩ := hb
  refine Fu.okX S (fun vs H Q E ⟨a, y, e, _⟩ => by rw [e]; rfl) fun cdv A outer s H vs Q E hr ⟨a, y, ev, ha, hq⟩ => ?_
  subst ev
  rw [hb]
  refine ⟨_, pss_one (Lx.ps_ost1 (pe_var (i := 0) rfl (.inl l1)) (pe_var (i := 1) rfl (.inl l2) d1 d2)), ?_⟩
  exact ⟨y, rfl, .ref a, rfl, a, C, rfl, T, ha, fun dx n ne => hq dx n ne⟩
theorem init0_ok {P : Program} {w : World} {K : KF} {mg : Str → Option Value} {base : Heap} {x q : Str} {st : Stmt} {fI C : Addr} {fd : FuncData} (Fu : Fun K x q st fI fd) (S : FnScope ["self"] ["self"] (defScope st)) (hb : ∃ q1, defBody st = [.Pass q1]) :
    FnOk P w K mg base (L2.CX P w) 1 fI fd ["self"] (spI0 C) := by
  obtain ⟨q1, hb⟩ := hb
  refine Fu.okX S (fun vs H Q E ⟨a, e, _⟩ => by rw [e]; rfl) fun cdv A outer s H vs Q E hr ⟨a, ev, ha, hq⟩ => ?_
  subst ev
  rw [hb]
  exact ⟨_, pss_one ps_pass, hq⟩
end
end Lk
end
section
set_option linter.all false
set_option maxRecDepth 100000
set_option maxHeartbeats 2000000
/-! What the model makes of an expression is what the small language tells. -/
namespace Lk
open PySem PySem.Spec PyProof.Rows L2
/-- where a def's body runs -/
structure Bd (X : Cx) (CX : CXT) (k : Nat) (xc : XC) (EK : XK) (tb : Tb) : Prop where
  cx : CX = L2.CX X.prog X.w
  nodup : X.N.Nodup
  calm : X.calm = true
  pass : Passes CX X EK
  room : Room k X.A
  blt : ∀ b, biHave b = true → X.mg (biName b) = none
  isi : X.mg "isinstance" = none
  rng : X.mg "range" = none
  zip : X.mg "zip" = none
  enm : X.mg "enumerate" = none
  tys : ∀ t ∈ (["int", "bool", "str", "list", "tuple"] : List Str), X.mg t = none
  fns : ∀ x fn, tb.fn x = some fn → FOk X CX k xc x fn
  gls : ∀ x d, tb.gl x = some d → ∃ u v, X.mg x = some u ∧ RelV v u ∧ Rp X.w X.K (fun _ => none) v d
  tk : Takes X (fun cls d _ H => EK cls d H)
  own : OwnAt X.prog X.w X.K X.mg X.base k xc tb
theorem Room.u65 {k : Nat} {A : Around} (r : Room k A) : A.units + 65 < cLine := by have := r.un; omega
def LocOk (X : Cx) (x : Str) : Prop := Loc X.env.scope x ∧ (X.fn x = true ∨ X.env.scope.names.lookup x = some .local)
def ScOk (X : Cx) (sc : Scope) : Prop := (∀ x, visB sc x = true → Vis X.env.scope x ∧ (x == ("__debug__" : Str)) = false ∧ (x == ("__classdict__" : Str)) = false) ∧ (∀ x, glB sc x = true → Gl X x ∧ (x == ("__debug__" : Str)) = false ∧ x ≠ "__name__") ∧
  (∀ x, locB sc x = true → LocOk X x) ∧ ∀ x, (sc.names.lookup x = some .cell ∨ sc.names.lookup x = some .free) → X.env.scope.names.lookup x = some .cell ∨ X.env.scope.names.lookup x = some .free
section
variable (X : Cx) (CX : CXT) (k : Nat) (xc : XC) (EK : XK) (tb : Tb) (sp : Option Addr)
def okE (e : Expr) (p : P) : Prop := ∀ ⦃E : En⦄ ⦃σ : L2.St⦄ ⦃F H : Hp⦄ ⦃n : Int⦄ ⦃fp : Nat → List Addr⦄ ⦃ro : Ro R⦄ ⦃Q : VK⦄, EnvRel X.w X.K sp F H E σ fp → Ok sp F H n → evE tb p E n = some ro → WX xc sp F H EK ro →
  (∀ r n', ro = .ok r n' → ∀ v F' H', PostE X.w X.K sp F H r n' v F' H' → Q v H') → wpE X e σ H Q
def okA (es : List Expr) (p : P) : Prop := ∀ ⦃E : En⦄ ⦃σ : L2.St⦄ ⦃F H : Hp⦄ ⦃n : Int⦄ ⦃fp : Nat → List Addr⦄ ⦃ro : Ro (List R)⦄ ⦃Q : List V → Hp → Prop⦄, EnvRel X.w X.K sp F H E σ fp → Ok sp F H n → evA tb p E n = some ro → WX xc sp F H EK ro →
  (∀ r n', ro = .ok r n' → ∀ v F' H', PostA X.w X.K sp F H r n' v F' H' → Q v H') → wpA X es σ H Q
def okK (kws : List Keyword) (p : P) : Prop := ∀ ⦃E : En⦄ ⦃σ : L2.St⦄ ⦃F H : Hp⦄ ⦃n : Int⦄ ⦃fp : Nat → List Addr⦄ ⦃ro : Ro (List R)⦄ ⦃Q : List V → Hp → Prop⦄, EnvRel X.w X.K sp F H E σ fp → Ok sp F H n → evA tb p E n = some ro → WX xc sp F H EK ro →
  (∀ r n', ro = .ok r n' → ∀ v F' H', PostA X.w X.K sp F H r n' v F' H' → Q v H') → wpK X kws σ H Q
def okT (e : Expr) (p : P) : Prop := ∀ ⦃E : En⦄ ⦃σ : L2.St⦄ ⦃F H : Hp⦄ ⦃n : Int⦄ ⦃fp : Nat → List Addr⦄ ⦃ro : Ro Bool⦄ ⦃Q : Bool → Hp → Prop⦄, EnvRel X.w X.K sp F H E σ fp → Ok sp F H n → evT tb p E n = some ro → WX xc sp F H EK ro →
  (∀ c n', ro = .ok c n' → ∀ F' H', Ext sp F H F' H' → Ok sp F' H' n' → Q c H') → wpT X e σ H Q
def okBT (q : Bool) (e : Expr) (p : P) : Prop := ∀ ⦃E : En⦄ ⦃σ : L2.St⦄ ⦃F H : Hp⦄ ⦃n : Int⦄ ⦃fp : Nat → List Addr⦄ ⦃ro : Ro Bool⦄ ⦃Q : Bool → Hp → Prop⦄, EnvRel X.w X.K sp F H E σ fp → Ok sp F H n → evBT tb q p E n = some ro → WX xc sp F H EK ro →
  (∀ c n', ro = .ok c n' → ∀ F' H', Ext sp F H F' H' → Ok sp F' H' n' → Q c H') → wpW X e σ H Q
def okB (q : Bool) (e : Expr) (p : P) : Prop := ∀ ⦃E : En⦄ ⦃σ : L2.St⦄ ⦃F H : Hp⦄ ⦃n : Int⦄ ⦃fp : Nat → List Addr⦄ ⦃ro : Ro R⦄ ⦃Q : VK⦄, EnvRel X.w X.K sp F H E σ fp → Ok sp F H n → evB tb q p E n = some ro → WX xc sp F H EK ro →
  (∀ r n', ro = .ok r n' → ∀ v F' H', PostE X.w X.K sp F H r n' v F' H' → Q v H') → wpE X e σ H Q
def okO (e : Option Expr) (p : P) : Prop := ∀ ⦃E : En⦄ ⦃σ : L2.St⦄ ⦃F H : Hp⦄ ⦃n : Int⦄ ⦃fp : Nat → List Addr⦄ ⦃ro : Ro (Option Int)⦄ ⦃Q : Option Int → Hp → Prop⦄, EnvRel X.w X.K sp F H E σ fp → Ok sp F H n → evO tb p E n = some ro → WX xc sp F H EK ro →
  (∀ r n', ro = .ok r n' → ∀ F' H', Ext sp F H F' H' → Ok sp F' H' n' → Q r H') → wpO X e σ H Q
end
def opOf (q : Bool) : BoolOp := if q then .And else .Or
structure SAll (X : Cx) (CX : CXT) (k : Nat) (xc : XC) (EK : XK) (tb : Tb) (sp : Option Addr) (sc : Scope) (p : P) : Prop where
  e : ∀ e, mtE X.N p sc e = true → okE X xc EK tb sp e p
  a : ∀ es, mtA X.N p sc es = true → okA X xc EK tb sp es p
  ka : ∀ kws, mtA X.N p sc (kwExprs kws) = true → okK X xc EK tb sp kws p
  t : ∀ e, mtT X.N p sc e = true → okT X xc EK tb sp e p
  bt : ∀ q es pos, mtTs X.N p sc es = true → es ≠ [] → okBT X xc EK tb sp q (.BoolOp (opOf q) es pos) p
  b : ∀ q es pos, mtA X.N p sc es = true → es ≠ [] → okB X xc EK tb sp q (.BoolOp (opOf q) es pos) p
  o : ∀ e, mtO X.N p sc e = true → okO X xc EK tb sp e p
/-- how many expressions stand in the row -/
def plen : P → Nat
  | .cons _ as => plen as + 1
  | _ => 0
theorem evA_len {tb : Tb} {E : En} : ∀ {p : P} {n n' : Int} {rs : List R}, evA tb p E n = some (.ok rs n') → rs.length = plen p := by
  intro p
  induction p with
  | no => intro n n' rs h; simp only [evA] at h; cases h; rfl
  | cons a as _ ih =>
    intro n n' rs h
    simp only [evA] at h
    rcases bind_some h with ⟨r, n1, _, h1⟩ | ⟨_, _, _, _, z⟩
    · rcases bind_some h1 with ⟨rs', n2, e2, h2⟩ | ⟨_, _, _, _, z⟩
      · cases h2
        rw [List.length_cons, ih e2]
        rfl
      · cases z
    · cases z
  | _ => intro n n' rs h; simp only [evA] at h; cases h
theorem mtA_len {N : List Str} {sc : Scope} : ∀ {p : P} {es : List Expr}, mtA N p sc es = true → plen p = es.length := by
  intro p
  induction p with
  | no => intro es h; simp only [mtA, List.isEmpty_iff] at h; subst h; rfl
  | cons a as _ ih =>
    intro es h
    cases es with
    | nil => simp [mtA] at h
    | cons e r =>
      simp only [mtA, Bool.and_eq_true] at h
      rw [List.length_cons, ← ih h.2]
      rfl
  | _ => intro es h; simp [mtA] at h
section
variable {X : Cx} {CX : CXT} {k : Nat} {xc : XC} {EK : XK} {tb : Tb} {sp : Option Addr} {E : En} {σ : L2.St} {F H : Hp} {n : Int} {fp : Nat → List Addr} {α β : Type}
/-- an expression, then the rest -/
theorem seqE {e : Expr} {p : P} {f : R → Int → M β} {ro : Ro β} {Q : VK} (ha : okE X xc EK tb sp e p) (env : EnvRel X.w X.K sp F H E σ fp) (ok : Ok sp F H n) (h : M.bind (evE tb p E n) f = some ro) (wx : WX xc sp F H EK ro)
    (next : ∀ r n1, f r n1 = some ro → ∀ v F1 H1, PostE X.w X.K sp F H r n1 v F1 H1 → Q v H1) : wpE X e σ H Q := by
  rcases bind_some h with ⟨r, n1, e1, h1⟩ | ⟨c, d, n1, e1, rfl⟩
  · exact ha env ok e1 (fun c d n z => by cases z) fun r' n' z => by cases z; exact next r n1 h1
  · exact ha env ok e1 (fun c' d' n' z => by cases z; exact wx _ _ _ rfl) fun r' n' z => by cases z
theorem seqA {es : List Expr} {p : P} {f : List R → Int → M β} {ro : Ro β} {Q : List V → Hp → Prop} (ha : okA X xc EK tb sp es p) (env : EnvRel X.w X.K sp F H E σ fp) (ok : Ok sp F H n) (h : M.bind (evA tb p E n) f = some ro) (wx : WX xc sp F H EK ro)
    (next : ∀ r n1, f r n1 = some ro → ∀ v F1 H1, PostA X.w X.K sp F H r n1 v F1 H1 → Q v H1) : wpA X es σ H Q := by
  rcases bind_some h with ⟨r, n1, e1, h1⟩ | ⟨c, d, n1, e1, rfl⟩
  · exact ha env ok e1 (fun c d n z => by cases z) fun r' n' z => by cases z; exact next r n1 h1
  · exact ha env ok e1 (fun c' d' n' z => by cases z; exact wx _ _ _ rfl) fun r' n' z => by cases z
theorem seqA2 {es : List Expr} {p : P} {f : List R → Int → M β} {ro : Ro β} {Q : List V → Hp → Prop} (ha : okA X xc EK tb sp es p) (env : EnvRel X.w X.K sp F H E σ fp) (ok : Ok sp F H n) (h : M.bind (evA tb p E n) f = some ro) (wx : WX xc sp F H EK ro)
    (next : ∀ r n1, evA tb p E n = some (.ok r n1) → f r n1 = some ro → ∀ v F1 H1, PostA X.w X.K sp F H r n1 v F1 H1 → Q v H1) : wpA X es σ H Q := by
  rcases bind_some h with ⟨r, n1, e1, h1⟩ | ⟨c, d, n1, e1, rfl⟩
  · exact ha env ok e1 (fun c d n z => by cases z) fun r' n' z => by cases z; exact next r n1 e1 h1
  · exact ha env ok e1 (fun c' d' n' z => by cases z; exact wx _ _ _ rfl) fun r' n' z => by cases z
theorem seqK {kws : List Keyword} {p : P} {f : List R → Int → M β} {ro : Ro β} {Q : List V → Hp → Prop} (ha : okK X xc EK tb sp kws p) (env : EnvRel X.w X.K sp F H E σ fp) (ok : Ok sp F H n) (h : M.bind (evA tb p E n) f = some ro) (wx : WX xc sp F H EK ro)
    (next : ∀ r n1, f r n1 = some ro → ∀ v F1 H1, PostA X.w X.K sp F H r n1 v F1 H1 → Q v H1) : wpK X kws σ H Q := by
  rcases bind_some h with ⟨r, n1, e1, h1⟩ | ⟨c, d, n1, e1, rfl⟩
  · exact ha env ok e1 (fun c d n z => by cases z) fun r' n' z => by cases z; exact next r n1 h1
  · exact ha env ok e1 (fun c' d' n' z => by cases z; exact wx _ _ _ rfl) fun r' n' z => by cases z
theorem seqT {e : Expr} {p : P} {f : Bool → Int → M β} {ro : Ro β} {Q : Bool → Hp → Prop} (ha : okT X xc EK tb sp e p) (env : EnvRel X.w X.K sp F H E σ fp) (ok : Ok sp F H n) (h : M.bind (evT tb p E n) f = some ro) (wx : WX xc sp F H EK ro)
    (next : ∀ r n1, f r n1 = some ro → ∀ F1 H1, Ext sp F H F1 H1 → Ok sp F1 H1 n1 → Q r H1) : wpT X e σ H Q := by
  rcases bind_some h with ⟨r, n1, e1, h1⟩ | ⟨c, d, n1, e1, rfl⟩
  · exact ha env ok e1 (fun c d n z => by cases z) fun r' n' z => by cases z; exact next r n1 h1
  · exact ha env ok e1 (fun c' d' n' z => by cases z; exact wx _ _ _ rfl) fun r' n' z => by cases z
theorem seqO {e : Option Expr} {p : P} {f : Option Int → Int → M β} {ro : Ro β} {Q : Option Int → Hp → Prop} (ha : okO X xc EK tb sp e p) (env : EnvRel X.w X.K sp F H E σ fp) (ok : Ok sp F H n) (h : M.bind (evO tb p E n) f = some ro) (wx : WX xc sp F H EK ro)
    (next : ∀ r n1, f r n1 = some ro → ∀ F1 H1, Ext sp F H F1 H1 → Ok sp F1 H1 n1 → Q r H1) : wpO X e σ H Q := by
  rcases bind_some h with ⟨r, n1, e1, h1⟩ | ⟨c, d, n1, e1, rfl⟩
  · exact ha env ok e1 (fun c d n z => by cases z) fun r' n' z => by cases z; exact next r n1 h1
  · exact ha env ok e1 (fun c' d' n' z => by cases z; exact wx _ _ _ rfl) fun r' n' z => by cases z
/-! ### piece by piece -/
variable (B : Bd X CX k xc EK tb)
include B
theorem s_var {i : Nat} {x : Str} {pos : Pos} (hN : X.N[i]? = some x) (hv : Vis X.env.scope x ∧ (x == ("__debug__" : Str)) = false ∧ (x == ("__classdict__" : Str)) = false) : okE X xc EK tb sp (.Name x pos) (.var i) := by
  intro E σ F H n fp ro Q env ok h wx q
  unfold evE at h
  split at h
  · rename_i d e
    cases h
    obtain ⟨v, e1, r⟩ := env.rel _ _ e
    generalize hA : fp i = A at r
    cases r with
    | im r => exact wpE_of (pe_var hN hv.1 hv.2.1 hv.2.2) ⟨_, e1, q _ _ rfl _ _ _ (post_im ok r)⟩
  · rename_i t e
    cases h
    obtain ⟨v, e1, r⟩ := env.rel _ _ e
    have ho := env.out i
    generalize hA : fp i = A at r ho
    cases r with
    | mu r nd => exact wpE_of (pe_var hN hv.1 hv.2.1 hv.2.2) ⟨_, e1, q _ _ rfl _ _ _ (post_bw ok r fun a ha => (ho a ha).2.2)⟩
  · rename_i e
    cases h
    obtain ⟨v, e1, r⟩ := env.rel _ _ e
    generalize hA : fp i = A at r
    cases r with
    | sp hs => exact wpE_of (pe_var hN hv.1 hv.2.1 hv.2.2) ⟨_, e1, q _ _ rfl _ _ _ ⟨Ext.refl sp F H, ok, [], .sp hs, fun a z => nomatch z⟩⟩
  · cases h
theorem s_lit {d : D} {e : Expr} (hl : litB d e = true) : okE X xc EK tb sp e (.lit d) := by
  intro E σ F H n fp ro Q env ok h wx q
  simp only [evE] at h
  cases h
  unfold litB at hl
  split at hl
  · exact wpE_of pe_non (q _ _ rfl _ _ _ (post_im ok .non))
  · rw [beq_iff_eq] at hl; subst hl
    exact wpE_of pe_bl (q _ _ rfl _ _ _ (post_im ok (.bl _)))
  · rw [beq_iff_eq] at hl; subst hl
    exact wpE_of pe_int (q _ _ rfl _ _ _ (post_im ok (.int _)))
  · rw [beq_iff_eq] at hl; subst hl
    exact wpE_of pe_str (q _ _ rfl _ _ _ (post_im ok (.str _)))
  · cases hl
theorem s_glob {x : Str} {pos : Pos} (hg : Gl X x ∧ (x == ("__debug__" : Str)) = false ∧ x ≠ "__name__") : okE X xc EK tb sp (.Name x pos) (.glob x) := by
  intro E σ F H n fp ro Q env ok h wx q
  simp only [evE, Option.map_eq_some_iff] at h
  obtain ⟨d, e, rfl⟩ := h
  obtain ⟨u, v, hm, r, rp⟩ := B.gls x d e
  exact wpE_of (pe_glob hg.1 hm r hg.2.1) (q _ _ rfl _ _ _ (post_im ok (rp.mono fun a o z => by cases z)))
theorem s_bin {op : BOp} {a b : P} {l r : Expr} {pos : Pos} (ha : okE X xc EK tb sp l a) (hb : okE X xc EK tb sp r b) : okE X xc EK tb sp (.BinOp l (bop op) r pos) (.bin op a b) := by
  intro E σ F H n fp ro Q env ok h wx q
  simp only [evE] at h
  refine wpE_of (pe_op semO_op pe_wp pe_wp) (seqE ha env ok h wx fun x n1 h1 v F1 H1 p1 => seqE hb (env.ext p1.1) p1.2.1 h1 (wx.ext p1.1) fun y n2 h2 u F2 H2 p2 => ?_)
  obtain ⟨z, h3, rfl⟩ := of_some h2
  obtain ⟨e1, k1, A, r1, f1⟩ := p1
  obtain ⟨e2, k2, A2, r2, f2⟩ := p2
  exact opBin_ok k2 (r1.ext e2) r2 h3 fun v' F' H' p => q _ _ rfl _ _ _ (PostE.refl (e1.trans e2) p)
theorem s_neg {a : P} {l : Expr} {pos : Pos} (ha : okE X xc EK tb sp l a) : okE X xc EK tb sp (.UnaryOp .USub l pos) (.neg a) := by
  intro E σ F H n fp ro Q env ok h wx q
  simp only [evE] at h
  refine wpE_of (pe_un un_neg pe_wp) (seqE ha env ok h wx fun x n1 h1 v F1 H1 p1 => ?_)
  obtain ⟨z, h3, rfl⟩ := of_some h1
  rw [Option.map_eq_some_iff] at h3
  obtain ⟨i, h4, rfl⟩ := h3
  obtain ⟨e1, k1, A, r1, f1⟩ := p1
  exact ⟨i, r1.int k1 (opInt_some h4), q _ _ rfl _ _ _ (PostE.refl e1 (post_int k1 _))⟩
theorem c_isN {op : COp} {a : P} {l : Expr} (ha : okE X xc EK tb sp l a) {E : En} {σ : L2.St} {F H : Hp} {n : Int} {fp : Nat → List Addr} {ro : Ro R} {Q : VK} (env : EnvRel X.w X.K sp F H E σ fp) (ok : Ok sp F H n)
    (h : evE tb (.cmp op a (.lit .none)) E n = some ro) (wx : WX xc sp F H EK ro) (q : ∀ r n', ro = .ok r n' → ∀ v F' H', PostE X.w X.K sp F H r n' v F' H' → Q v H') : tOp (semO X (compareOp (cop op))) (wpE X l) (tC .non) σ H Q := by
  simp only [evE] at h
  refine (seqE ha env ok h wx fun x n1 h1 v F1 H1 p1 => ?_)
  obtain ⟨z, h3, rfl⟩ := of_some h1
  rw [Option.map_eq_some_iff] at h3
  obtain ⟨c, h4, rfl⟩ := h3
  obtain ⟨e1, k1, A, r1, f1⟩ := p1
  exact opCmp_ok (Room.u65 B.room) k1 r1 (.im .non) h4 (fun _ => rfl) (q _ _ rfl _ _ _ (PostE.refl e1 (post_bl k1 _)))
omit B in
theorem lit_none {r : Expr} (hr : litB .none r = true) : ∃ j p, r = .Constant .none j p := by
  unfold litB at hr
  split at hr <;> first | exact ⟨_, _, rfl⟩ | (cases ‹PyData.none = _›) | cases hr
theorem s_isN {op : COp} {a : P} {l r : Expr} {pos : Pos} (ha : okE X xc EK tb sp l a) (hm : behindInMarks (cop op) r = false) (hr : litB .none r = true) :
    okE X xc EK tb sp (.Compare l [cop op] [r] pos) (.cmp op a (.lit .none)) := by
  intro E σ F H n fp ro Q env ok h wx q
  obtain ⟨j, p, rfl⟩ := lit_none hr
  exact wpE_of (pe_cmpR semO_op pe_wp pe_non hm) (c_isN B ha env ok h wx q)
theorem c_cmp {op : COp} {a b : P} {l r : Expr} (ha : okE X xc EK tb sp l a) (hb : okE X xc EK tb sp r b) (hN : isNs op = false) {E : En} {σ : L2.St} {F H : Hp} {n : Int} {fp : Nat → List Addr} {ro : Ro R} {Q : VK} (env : EnvRel X.w X.K sp F H E σ fp) (ok : Ok sp F H n)
    (h : evE tb (.cmp op a b) E n = some ro) (wx : WX xc sp F H EK ro) (q : ∀ r n', ro = .ok r n' → ∀ v F' H', PostE X.w X.K sp F H r n' v F' H' → Q v H') : tOp (semO X (compareOp (cop op))) (wpE X l) (wpE X r) σ H Q := by
  simp only [evE] at h
  refine (seqE ha env ok h wx fun x n1 h1 v F1 H1 p1 => seqE hb (env.ext p1.1) p1.2.1 h1 (wx.ext p1.1) fun y n2 h2 u F2 H2 p2 => ?_)
  obtain ⟨z, h3, rfl⟩ := of_some h2
  rw [Option.map_eq_some_iff] at h3
  obtain ⟨c, h4, rfl⟩ := h3
  obtain ⟨e1, k1, A, r1, f1⟩ := p1
  obtain ⟨e2, k2, A2, r2, f2⟩ := p2
  exact opCmp_ok (Room.u65 B.room) k2 (r1.ext e2) r2 h4 (fun z => by rcases z with rfl | rfl <;> cases hN) (q _ _ rfl _ _ _ (PostE.refl (e1.trans e2) (post_bl k2 _)))
theorem s_cmp {op : COp} {a b : P} {l r : Expr} {pos : Pos} (ha : okE X xc EK tb sp l a) (hb : okE X xc EK tb sp r b) (hm : behindInMarks (cop op) r = false) (hN : isNs op = false) :
    okE X xc EK tb sp (.Compare l [cop op] [r] pos) (.cmp op a b) := by
  intro E σ F H n fp ro Q env ok h wx q
  exact wpE_of (pe_cmpR semO_op pe_wp pe_wp hm) (c_cmp B ha hb hN env ok h wx q)
theorem c_cmp2 {o1 o2 : COp} {a b c : P} {l r z : Expr} (ha : okE X xc EK tb sp l a) (hb : okE X xc EK tb sp r b) (hc : okE X xc EK tb sp z c) (hN : isNs o1 = false) (hN2 : isNs o2 = false) {E : En} {σ : L2.St} {F H : Hp} {n : Int} {fp : Nat → List Addr} {ro : Ro R} {Q : VK} (env : EnvRel X.w X.K sp F H E σ fp) (ok : Ok sp F H n)
    (h : evE tb (.cmp2 o1 o2 a b c) E n = some ro) (wx : WX xc sp F H EK ro) (q : ∀ r n', ro = .ok r n' → ∀ v F' H', PostE X.w X.K sp F H r n' v F' H' → Q v H') : tChain (semO X (compareOp (cop o1))) (semO X (compareOp (cop o2))) (wpE X l) (wpE X r) (wpE X z) σ H Q := by
  simp only [evE] at h
  refine (seqE ha env ok h wx fun x n1 h1 v F1 H1 p1 => seqE hb (env.ext p1.1) p1.2.1 h1 (wx.ext p1.1) fun y n2 h2 u F2 H2 p2 => ?_)
  rcases bind_some h2 with ⟨kk, n3, e3, h3⟩ | ⟨_, _, _, e3, _⟩
  rotate_left
  · obtain ⟨_, _, z⟩ := of_some e3; cases z
  obtain ⟨kk', h4, z⟩ := of_some e3
  cases z
  obtain ⟨e1, k1, A, r1, f1⟩ := p1
  obtain ⟨e2, k2, A2, r2, f2⟩ := p2
  refine opCmp_ok (Room.u65 B.room) k2 (r1.ext e2) r2 h4 (fun z => by rcases z with rfl | rfl <;> cases hN) ⟨kk, rfl, ?_⟩
  have e12 := e1.trans e2
  cases kk with
  | false =>
    rw [if_neg Bool.false_ne_true] at h3 ⊢
    cases h3
    exact q _ _ rfl _ _ _ (PostE.refl e12 (post_bl k2 _))
  | true =>
    rw [if_pos rfl] at h3 ⊢
    refine seqE hc (env.ext e12) k2 h3 (wx.ext e12) fun y3 n3 h5 u3 F3 H3 p3 => ?_
    obtain ⟨z, h6, rfl⟩ := of_some h5
    rw [Option.map_eq_some_iff] at h6
    obtain ⟨c, h7, rfl⟩ := h6
    obtain ⟨e3, k3, A3, r3, f3⟩ := p3
    exact opCmp_ok (Room.u65 B.room) k3 (r2.ext e3) r3 h7 (fun z => by rcases z with rfl | rfl <;> cases hN2) (q _ _ rfl _ _ _ (PostE.refl (e12.trans e3) (post_bl k3 _)))
theorem s_cmp2 {o1 o2 : COp} {a b c : P} {l r z : Expr} {pos : Pos} (ha : okE X xc EK tb sp l a) (hb : okE X xc EK tb sp r b) (hc : okE X xc EK tb sp z c) (hm : lastMarks [cop o1, cop o2] [r, z] = false) (hN : isNs o1 = false) (hN2 : isNs o2 = false) :
    okE X xc EK tb sp (.Compare l [cop o1, cop o2] [r, z] pos) (.cmp2 o1 o2 a b c) := by
  intro E σ F H n fp ro Q env ok h wx q
  exact wpE_of (pe_chain semO_op semO_op pe_wp pe_wp pe_wp hm) (c_cmp2 B ha hb hc hN hN2 env ok h wx q)
theorem s_nott {a : P} {l : Expr} {pos : Pos} (ha : okE X xc EK tb sp l a) : okE X xc EK tb sp (.UnaryOp .Not l pos) (.nott (.tv a)) := by
  intro E σ F H n fp ro Q env ok h wx q
  simp only [evE, evT] at h
  have t : PE X (.UnaryOp .Not l pos) (fun σ H Q => wpE X l σ H fun x H1 => ∃ c, TruV X.K x H1 c ∧ Q (.bl (!c)) H1) := by
    refine ⟨fun pins s σ H Q I h => ?_⟩
    refine UnaryOp_ (thn (pe_wp.run pins s σ H _ I h) fun v s1 ⟨x, H1, I1, r1, c, tr, q1⟩ => ?_)
    refine not_of (thn (tru_ok pins s1 σ H1 x v (fun b H2 => Q (.bl (!b)) H2) I1 r1 ⟨c, tr, q1⟩) fun b s2 ⟨H2, I2, q2⟩ => ?_)
    exact ⟨.bl (!b), H2, I2, rfl, q2⟩
  refine wpE_of t ?_
  rcases bind_some h with ⟨c, n1, e1, h1⟩ | ⟨c, d, n1, e1, rfl⟩
  · cases h1
    refine seqE ha env ok e1 (fun c d n z => by cases z) fun r n2 h2 v F1 H1 p1 => ?_
    obtain ⟨z, h3, hz⟩ := of_some h2
    cases hz
    rw [Option.bind_eq_some_iff] at h3
    obtain ⟨d, h4, h5⟩ := h3
    obtain ⟨e1, k1, A, r1, f1⟩ := p1
    exact ⟨c, truth_tru h5 (r1.rpH k1 h4), q _ _ rfl _ _ _ (PostE.refl e1 (post_bl k1 _))⟩
  · refine seqE ha env ok e1 (fun c' d' n' z => by cases z; exact wx _ _ _ rfl) fun r n2 h2 v F1 H1 p1 => ?_
    obtain ⟨z, h3, hz⟩ := of_some h2
    cases hz
theorem s_ife {c a b : P} {t x y : Expr} {pos : Pos} (hc : okT X xc EK tb sp t c) (ha : okE X xc EK tb sp x a) (hb : okE X xc EK tb sp y b) : okE X xc EK tb sp (.IfExp t x y pos) (.ife c a b) := by
  intro E σ F H n fp ro Q env ok h wx q
  simp only [evE] at h
  refine wpE_of (pe_ifExp pt_wp pe_wp pe_wp) (seqT hc env ok h wx fun kk n1 h1 F1 H1 e1 k1 => ?_)
  cases kk with
  | true =>
    rw [if_pos rfl] at h1 ⊢
    exact ha (env.ext e1) k1 h1 (wx.ext e1) fun r n' z v F' H' p => q r n' z v F' H' (PostE.refl e1 p)
  | false =>
    rw [if_neg Bool.false_ne_true] at h1 ⊢
    exact hb (env.ext e1) k1 h1 (wx.ext e1) fun r n' z v F' H' p => q r n' z v F' H' (PostE.refl e1 p)
theorem s_tup {as : P} {es : List Expr} {j} {pos : Pos} (ha : okA X xc EK tb sp es as) (hl : ∀ {E n rs n'}, evA tb as E n = some (.ok rs n') → rs.length ≤ 1000) : okE X xc EK tb sp (.Tuple es j pos) (.tup as) := by
  intro E σ F H n fp ro Q env ok h wx q
  simp only [evE] at h
  have hlen : ∀ rs n', evA tb as E n = some (.ok rs n') → rs.length ≤ 1000 := fun rs n' z => hl z
  refine wpE_of (pe_tup pa_wp) ?_
  rcases bind_some h with ⟨rs, n1, e1, h1⟩ | ⟨c, d, n1, e1, rfl⟩
  · refine ha env ok e1 (fun c d n z => by cases z) fun r' n' z vs F1 H1 p1 => ?_
    cases z
    obtain ⟨e1', k1, A, r1, f1⟩ := p1
    obtain ⟨z, h3, rfl⟩ := of_some h1
    rw [Option.map_eq_some_iff] at h3
    obtain ⟨ds, h4, rfl⟩ := h3
    have hA := r1.there
    have k2 := fz_ok k1 hA
    have e2 := fz_ext e1' hA f1
    refine ⟨Nat.le_trans (by rw [r1.length]; exact hlen _ _ e1) (by rw [sizeLine_eq]; decide), fun p hp => ?_⟩
    exact q _ _ rfl _ _ _ (PostE.refl e2 (post_tup k2 hp (r1.fix k1 h4)))
  · exact ha env ok e1 (fun c' d' n' z => by cases z; exact wx _ _ _ rfl) fun r' n' z => by cases z
theorem s_lst {as : P} {es : List Expr} {pos : Pos} (ha : okA X xc EK tb sp es as) (hl : ∀ {E n rs n'}, evA tb as E n = some (.ok rs n') → rs.length ≤ 1000) : okE X xc EK tb sp (.List es pos) (.lst as) := by
  intro E σ F H n fp ro Q env ok h wx q
  simp only [evE] at h
  have hlen : ∀ rs n', evA tb as E n = some (.ok rs n') → rs.length ≤ 1000 := fun rs n' z => hl z
  refine wpE_of (pe_lst pa_wp) ?_
  rcases bind_some h with ⟨rs, n1, e1, h1⟩ | ⟨c, d, n1, e1, rfl⟩
  · refine ha env ok e1 (fun c d n z => by cases z) fun r' n' z vs F1 H1 p1 => ?_
    cases z
    obtain ⟨e1', k1, A, r1, f1⟩ := p1
    obtain ⟨z, h3, rfl⟩ := of_some h1
    rw [Option.map_eq_some_iff] at h3
    obtain ⟨ds, h4, rfl⟩ := h3
    have hA := r1.there
    have k2 := fz_ok k1 hA
    have e2 := fz_ext e1' hA f1
    refine ⟨Nat.le_trans (by rw [r1.length]; exact hlen _ _ e1) (by rw [sizeLine_eq]; decide), fun p hp => ?_⟩
    exact q _ _ rfl _ _ _ (PostE.refl e2 (post_li k2 hp (r1.fix k1 h4)))
  · exact ha env ok e1 (fun c' d' n' z => by cases z; exact wx _ _ _ rfl) fun r' n' z => by cases z
theorem s_idx {a b : P} {l r : Expr} {pos : Pos} (hp : plainB r = true) (ha : okE X xc EK tb sp l a) (hb : okE X xc EK tb sp r b) : okE X xc EK tb sp (.Subscript l r pos) (.idx a b) := by
  intro E σ F H n fp ro Q env ok h wx q
  simp only [evE] at h
  refine wpE_of (pe_ix semI_op pe_wp pe_wp (plain_ix hp)) (seqE ha env ok h wx fun x n1 h1 v F1 H1 p1 => seqE hb (env.ext p1.1) p1.2.1 h1 (wx.ext p1.1) fun y n2 h2 u F2 H2 p2 => ?_)
  obtain ⟨z, h3, rfl⟩ := of_some h2
  obtain ⟨e1, k1, A, r1, f1⟩ := p1
  obtain ⟨e2, k2, A2, r2, f2⟩ := p2
  exact opIdxN_ok (Room.u65 B.room) k2 (r1.ext e2) r2 h3 fun v' F' H' p => q _ _ rfl _ _ _ (PostE.refl (e1.trans e2) p)
theorem s_slc {a lo hi : P} {l : Expr} {x y : Option Expr} {p2 pos : Pos} (ha : okE X xc EK tb sp l a) (hlo : okO X xc EK tb sp x lo) (hhi : okO X xc EK tb sp y hi) : okE X xc EK tb sp (.Subscript l (.Slice x y none p2) pos) (.slc a lo hi) := by
  intro E σ F H n fp ro Q env ok h wx q
  simp only [evE] at h
  refine wpE_of (pe_slice semS_op pe_wp po_wp po_wp) (seqE ha env ok h wx fun x n1 h1 v F1 H1 p1 => seqO hlo (env.ext p1.1) p1.2.1 h1 (wx.ext p1.1) fun y n2 h2 F2 H2 e2 k2 =>
    seqO hhi (env.ext (p1.1.trans e2)) k2 h2 (wx.ext (p1.1.trans e2)) fun z n3 h3 F3 H3 e3 k3 => ?_)
  obtain ⟨z, h4, rfl⟩ := of_some h3
  obtain ⟨e1, k1, A, r1, f1⟩ := p1
  exact opSlc_ok k3 (r1.ext (e2.trans e3)) h4 fun v' F' H' p => q _ _ rfl _ _ _ (PostE.refl ((e1.trans e2).trans e3) p)
theorem s_rev {a : P} {l : Expr} {j} {p1 p2 p3 pos : Pos} (ha : okE X xc EK tb sp l a) : okE X xc EK tb sp (.Subscript l (.Slice none none (some (.UnaryOp .USub (.Constant (.int 1) j p1) p2)) p3) pos) (.rev a) := by
  intro E σ F H n fp ro Q env ok h wx q
  simp only [evE] at h
  refine wpE_of (pe_revL pe_wp) (seqE ha env ok h wx fun x n1 h1 v F1 H1 p1 => ?_)
  obtain ⟨z, h3, rfl⟩ := of_some h1
  obtain ⟨e1, k1, A, r1, f1⟩ := p1
  unfold opRev at h3
  split at h3
  · rename_i xs e
    split at h3
    · rename_i hc
      cases h3
      obtain ⟨pa, vs, rfl, g1, _, g2⟩ := r1.lst k1 e
      exact ⟨pa, vs, rfl, g1, fun p hp => q _ _ rfl _ _ _ (PostE.refl e1 (post_li k1 hp (g2 hc).reverse))⟩
    · cases h3
  · cases h3
omit B in
theorem five_of {y : Str} (hy : y ∈ five) : (∃ T, bootBuiltins y = some (.type T)) ∧ (y == ("__debug__" : Str)) = false ∧ y ≠ "__name__" := by
  simp only [five, List.mem_cons, List.not_mem_nil, or_false] at hy
  rcases hy with rfl | rfl | rfl | rfl | rfl <;> exact ⟨⟨_, rfl⟩, by decide, by decide⟩
theorem pe_ty {y : Str} {T : String} {pos : Pos} (hg : Gl X y) (hy : y ∈ five) (hT : bootBuiltins y = some (.type T)) : PE X (.Name y pos) (tC (.ty T)) :=
  pe_bltn (v := .ty T) hg (B.tys y hy) hT rfl (five_of hy).2.2 (five_of hy).2.1
theorem pa_tys : ∀ {es : List Expr} {ts : List Str} {Ts : List String}, nameL es = some ts → TyL ts Ts → (∀ y ∈ ts, Gl X y) → PA X es (fun σ H Q => Q (Ts.map V.ty) H)
  | [], ts, Ts, h, t, _ => by
    cases h
    cases t
    exact pa_nil
  | e :: es, ts, Ts, h, t, hg => by
    unfold nameL at h
    split at h
    · rename_i x xs e1 e2
      cases h
      obtain ⟨p, rfl⟩ := asName_some e1
      cases t with
      | cons h1 t1 => exact pa_cons (pe_ty B (hg _ (List.mem_cons_self ..)) h1.2 h1.1) (pa_tys e2 t1 fun y hy => hg y (List.mem_cons_of_mem _ hy)) (star_plain rfl)
    · cases h
omit B in
theorem rp_exc {w : World} {K : KF} {F : Hp} {v : V} {c : Str} {d : Lk.D} (h : Rp w K F v d) (e : excOf d = some c) : ∃ a o, v = .ref a ∧ Lx.ExR F a (He.ga K c) o := by
  cases h with
  | exo h1 h2 r => cases e; exact ⟨_, some (_, _), rfl, h1, h2⟩
  | exn h1 => cases e; exact ⟨_, none, rfl, h1⟩
  | dct h1 h2 =>
    unfold excOf at e
    split at e
    · rename_i eq
      cases eq
      cases h2 with
      | cons hk _ _ => cases hk with
        | tup a _ _ => cases a
    · cases e
  | _ => cases e
omit B in
theorem rp_fld {w : World} {K : KF} {F : Hp} {v : V} {f : Str} {d e : Lk.D} {tb : Tb} (h : Rp w K F v d) (he : excF tb f d = some e) : ∃ a c dx u, v = .ref a ∧ tb.cl c = some f ∧ Lx.ExR F a (He.ga K c) (some (dx, [(f, u)])) ∧ Rp w K F u e := by
  unfold excF at he
  split at he
  · rename_i c g x
    split at he
    · rename_i hc
      obtain ⟨rfl, hc⟩ := hc
      cases he
      cases h with
      | exo h1 h2 r => exact ⟨_, c, _, _, rfl, hc, ⟨h1, h2⟩, r⟩
      | dct h1 h2 => cases h2 with
        | cons hk _ _ => cases hk with
          | tup a _ _ => cases a
    · cases he
  · cases he
omit B in
theorem rpk_none {w : World} {K : KF} {F : Hp} {k : KE} : ¬ RpK w K F k .none := fun h => by
  cases h with
  | tup a _ _ => cases a
omit B in
theorem ow_fld {w : World} {K : KF} {F H : Hp} {v : V} {A : List Addr} {f : Str} {t : OT} {d e : Lk.D} {tb : Tb} (h : Ow w K F H v t A) (hd : t.dat = some d) (he : excF tb f d = some e) : False := by
  unfold excF at he
  split at he
  · rename_i c g x
    cases h with
    | li _ _ => cases hd
    | di h1 h2 =>
      cases hd
      cases h2 with
      | cons hk _ _ => exact rpk_none hk
    | dl h1 h2 =>
      cases h2 with
      | nil => cases hd
      | cons hk _ _ _ =>
        simp only [OT.dat, List.map_cons, Option.some.injEq, PyData.dict.injEq, List.cons.injEq, Prod.mk.injEq] at hd
        rw [hd.1.1] at hk; exact rpk_none hk
    | dd h1 h2 =>
      cases h2 with
      | nil => cases hd
      | cons hk _ _ _ =>
        simp only [OT.dat, List.map_cons, Option.some.injEq, PyData.dict.injEq, List.cons.injEq, Prod.mk.injEq] at hd
        rw [hd.1.1] at hk; exact rpk_none hk
    | se _ => cases hd
  · cases he
omit B in
theorem call_isU {X : Cx} : CallR X (.builtin "isinstance") (fun xs H Q => rIsi X.K xs H Q ∨ Lx.rIsX X.K xs H Q) := fun pins s σ H xs us Q I r h => h.elim (fun h => call_isi pins s σ H xs us Q I r h) fun h => Lx.call_isX pins s σ H xs us Q I r h
/-- e.f of an own exception -/
theorem s_fld {a : P} {f : Str} {o : Expr} {pos : Pos} (ho : okE X xc EK tb sp o a) (hb : baseB o = true) : okE X xc EK tb sp (.Attribute o f pos) (.fld a f) := by
  intro E σ F H n fp ro Q env ok h wx q
  simp only [evE] at h
  refine wpE_of (Lx.pe_fld pe_wp (base_eq hb)) (seqE ho env ok h wx fun u n1 h1 v F1 H1 p1 => ?_)
  obtain ⟨z, h2, rfl⟩ := of_some h1
  rw [Option.bind_eq_some_iff] at h2
  obtain ⟨d, h3, h4⟩ := h2
  rw [Option.map_eq_some_iff] at h4
  obtain ⟨e, h5, rfl⟩ := h4
  obtain ⟨e1, k1, A, r1, f1⟩ := p1
  -- read where it stands
  have fin : ∀ {G : Hp}, Rp X.w X.K G v d → (∀ {a u}, Rd G a u → isFrz u = false → Rd H1 a u) → (∀ y, Rp X.w X.K G y e → PostE X.w X.K sp F1 H1 (part u e) n1 y F1 H1) → Lx.tFld X.K f (fun _ H Q => Q v H) σ H1 Q := fun {G} rg hG hp => by
    obtain ⟨a', c, dx, y, rfl, hc, hx, ry⟩ := rp_fld rg h5
    obtain ⟨_, C, O, _⟩ := B.own.ex c f hc
    have hC := O.ga
    subst hC
    exact ⟨a', _, dx, [(f, y)], y, rfl, O.cls.xf, O.cls.no, ⟨hG hx.1 rfl, hG hx.2 rfl⟩, by simp [List.lookup], q _ _ rfl _ _ _ (PostE.refl e1 (hp y ry))⟩
  cases r1 with
  | im r => cases h3; exact fin r (fun z hz => k1.sub.rd hz z) fun y ry => post_part k1 (fun _ => ry) (ry.lift k1.hm)
  | bo r => cases h3; exact fin r (fun z _ => hm_sub.rd z) fun y ry => post_part k1 (fun z => by cases z) ry
  | fr o _ _ => exact (ow_fld o h3 h5).elim
  | bw o _ => exact (ow_fld o h3 h5).elim
  | sp _ => cases h3
theorem s_isin {a : P} {ts : List Str} {x t : Expr} {p pos : Pos} (ha : okE X xc EK tb sp x a) (hx : plainB x = true) (hg : Gl X "isinstance")
    (ht : (∃ y q, t = .Name y q ∧ ts = [y] ∧ Gl X y ∧ (y == ("__debug__" : Str)) = false ∧ y ≠ "__name__") ∨ (∃ es j q, t = .Tuple es j q ∧ nameL es = some ts ∧ 2 ≤ ts.length ∧ ts.length ≤ 1000 ∧ ∀ y ∈ ts, Gl X y ∧ y ∈ five)) :
    okE X xc EK tb sp (.Call (.Name "isinstance" p) [x, t] [] pos) (.isin a ts) := by
  intro E σ F H n fp ro Q env ok h wx q
  simp only [evE] at h
  have st : starEach [x, t] X.env = (false, eval x X.env) :: starEach [t] X.env := star_plain hx
  rcases ht with ⟨y, qp, rfl, rfl, hy⟩ | ⟨es, j, qp, rfl, hn, h2, hz, hts⟩
  · refine wpE_of (pe_callB call_isU hg B.isi rfl (pa_cons pe_wp (pa_cons pe_wp pa_nil (star_plain rfl)) st) (by decide) (by decide) st (back_plain (by rfl))) ?_
    refine seqE ha env ok h wx fun r n1 h1 v F1 H1 p1 => ?_
    obtain ⟨z, h3, rfl⟩ := of_some h1
    rw [Option.map_eq_some_iff] at h3
    obtain ⟨b, h4, rfl⟩ := h3
    rw [Option.bind_eq_some_iff] at h4
    obtain ⟨d, h5, h6⟩ := h4
    obtain ⟨e1, k1, A, r1, f1⟩ := p1
    unfold isTysX at h6
    split at h6
    · rename_i c hc
      obtain ⟨⟨u, w, hu, ru, cv, cx, hk, _⟩, _⟩ := B.own.ix c y b h6
      obtain ⟨a', o, rfl, hx'⟩ := rp_exc (r1.rpH k1 h5) hc
      refine wpE_of (t := tC w) ?_ (.inr ⟨a', _, o, w, u, b, rfl, cv, hx', cx, hk, q _ _ rfl _ _ _ (PostE.refl e1 (post_bl k1 _))⟩)
      rcases hu with hu | ⟨hu, hb⟩
      · exact pe_glob hy.1 hu ru hy.2.1
      · exact pe_bltn hy.1 hu hb ru hy.2.2 hy.2.1
    · unfold isTys at h6
      split at h6
      · rename_i c c' h7 h8
        cases h8
        cases h6
        obtain ⟨h0, T, hT, kk, m1⟩ := isTy_kit (K := X.K) h7
        refine wpE_of (pe_ty B hy.1 m1 hT) (.inl ⟨v, .ty T, tyS d, .type T, c, rfl, .ty T, tyX_of (r1.rpH k1 h5) h0, kk, ?_⟩)
        rw [Bool.or_false] at q
        exact q _ _ rfl _ _ _ (PostE.refl e1 (post_bl k1 _))
      · cases h6
  · have hTs : ∃ Ts, TyL ts Ts := by
      clear hn h2 hz h q
      induction ts with
      | nil => exact ⟨[], .nil⟩
      | cons t ts ih =>
        obtain ⟨Ts, g⟩ := ih fun y hy => hts y (List.mem_cons_of_mem _ hy)
        obtain ⟨⟨T, hT⟩, _⟩ := five_of (hts t (List.mem_cons_self ..)).2
        exact ⟨T :: Ts, .cons ⟨hT, (hts t (List.mem_cons_self ..)).2⟩ g⟩
    obtain ⟨Ts, hTs⟩ := hTs
    have hlT : ts.length = Ts.length := Paired.length hTs
    refine wpE_of (pe_callB call_isiT hg B.isi rfl (pa_cons pe_wp (pa_cons (pe_tup (pa_tys B hn hTs fun y hy => (hts y hy).1)) pa_nil (star_plain rfl)) st) (by decide) (by decide) st (back_plain (by rfl))) ?_
    refine seqE ha env ok h wx fun r n1 h1 v F1 H1 p1 => ?_
    obtain ⟨z, h3, rfl⟩ := of_some h1
    rw [Option.map_eq_some_iff] at h3
    obtain ⟨b, h4, rfl⟩ := h3
    rw [Option.bind_eq_some_iff] at h4
    obtain ⟨d, h5, h6⟩ := h4
    obtain ⟨e1, k1, A, r1, f1⟩ := p1
    refine ⟨by rw [List.length_map, ← hlT]; exact Nat.le_trans hz (by rw [sizeLine_eq]; decide), fun pa hp => ?_⟩
    unfold isTysX at h6
    split at h6
    · rename_i c hc
      split at h6
      · exact absurd h2 (by simp)
      · cases h6
    obtain ⟨h0, Ts', g1, kk⟩ := isTys_kit (K := X.K) h6
    have hE : Ts' = Ts := TyL.uniq g1 hTs
    subst hE
    have h0' : isDct d = false := by
      rcases h0 with rfl | h0
      · exact absurd h2 (by decide)
      · exact h0
    have hF := k1.fne hp
    refine ⟨v, pa, _, tyS d, _, b, rfl, upd_same, hTs.cls, tyX_of ((r1.rpH k1 h5).mono fun a o e => by rw [upd_ne (ne_of_none e hp)]; exact e) h0', kk, ?_⟩
    have e2 : Ext sp F1 H1 (upd F1 pa (.tup (Ts'.map V.ty))) (upd H1 pa (.tup (Ts'.map V.ty))) := Ext.imm hp hF
    exact q _ _ rfl _ _ _ (PostE.refl (e1.trans e2) (post_bl (k1.imm hp rfl) _))
/-- len(..), int(..) .. -/
theorem s_bi {b : Bi} {as : P} {e : Expr} {es : List Expr} {p pos : Pos} (ha : okA X xc EK tb sp (e :: es) as) (hpl : (e :: es).all plainB = true) (hv : biHave b = true) (hg : Gl X (biName b)) :
    okE X xc EK tb sp (.Call (.Name (biName b) p) (e :: es) [] pos) (.bi b as) := by
  intro E σ F H n fp ro Q env ok h wx q
  simp only [evE] at h
  have h1 : plainB e = true := by rw [List.all_cons, Bool.and_eq_true] at hpl; exact hpl.1
  have h2 : es.all plainB = true := by rw [List.all_cons, Bool.and_eq_true] at hpl; exact hpl.2
  have core : ∀ σ H, wpA X (e :: es) σ H (fun vs H1 => semC X (biVal b) vs H1 Q) → wpE X (.Call (.Name (biName b) p) (e :: es) [] pos) σ H Q := by
    intro σ H hh
    have hm := B.blt b hv
    cases b <;> first
      | exact wpE_of (pe_callB semC_op hg hm rfl pa_wp (by decide) (by decide) (star_plain h1) (back_plain h2)) hh
      | exact wpE_of (pe_callTy semC_op hg hm rfl pa_wp (by decide) (by decide) (star_plain h1) (back_plain h2)) hh
      | cases hv
  refine core σ H (seqA ha env ok h wx fun rs n1 h3 vs F1 H1 p1 => ?_)
  obtain ⟨z, h4, rfl⟩ := of_some h3
  obtain ⟨e1, k1, A, r1, f1⟩ := p1
  exact bi_ok (Room.u65 B.room) hv B.calm k1 r1 h4 fun v' F' H' p => q _ _ rfl _ _ _ (PostE.refl e1 p)
omit B in
theorem strs_vals {w : World} {K : KF} {F : Hp} : ∀ {xs : List D} {ys : List Str} {vs : List V}, strsOf xs = some ys → RpA w K F vs xs → vs = ys.map V.str
  | [], _, _, h, .nil => by cases h; rfl
  | .str x :: r, ys, _, h, .cons a b => by
    simp only [strsOf, Option.map_eq_some_iff] at h
    obtain ⟨zs, hz, rfl⟩ := h
    cases a
    rw [strs_vals hz b]; rfl
  | .none :: _, _, _, h, _ => by cases h
  | .bool _ :: _, _, _, h, _ => by cases h
  | .int _ :: _, _, _, h, _ => by cases h
  | .list _ :: _, _, _, h, _ => by cases h
  | .tuple _ :: _, _, _, h, _ => by cases h
  | .dict _ :: _, _, _, h, _ => by cases h
omit B in
theorem strs_rp {w : World} {K : KF} {F : Hp} : ∀ (ys : List Str), RpA w K F (ys.map V.str) (ys.map PyData.str)
  | [] => .nil
  | x :: r => .cons (.str x) (strs_rp r)
omit B in
theorem opStr_dat {r : R} {x : Str} (h : opStr r = some x) : r.dat = some (.str x) := by
  unfold opStr at h
  split at h
  · cases h; assumption
  · cases h
omit B in
theorem RRel.str {w : World} {K : KF} {v : V} {r : R} {A : List Addr} {x : Str} {F H : Hp} {n : Int} (h : RRel w K sp F H v r A) (k : Ok sp F H n) (e : r.dat = some (.str x)) : v = .str x := by
  have z := h.rp k e
  cases z; rfl
omit B in
/-- text.join(..), .split(..) .. -/
theorem s_mth {m : Mt} {a b : P} {o x : Expr} {apos pos : Pos} (ho : okE X xc EK tb sp o a) (ha : okE X xc EK tb sp x b) (hpl : plainB x = true) (hb : baseB o = true) (hl : (apos.endLine == pos.line) = true) :
    okE X xc EK tb sp (.Call (.Attribute o (mtName m) apos) [x] [] pos) (.mth m a b) := by
  intro E σ F H n fp ro Q env ok h wx q
  simp only [evE] at h
  have go : ∀ (r : V → List V → Hp → VK → Prop), (tM1 r (wpE X o) (wpE X x) σ H Q → wpE X (.Call (.Attribute o (mtName m) apos) [x] [] pos) σ H Q) →
      (∀ s y z v' A' F1 H1 n1, Ok sp F1 H1 n1 → RRel X.w X.K sp F1 H1 v' y A' → opMth m s y = some z → (∀ v F' H', PostE X.w X.K sp F1 H1 z n1 v F' H' → Q v H') → r (.str s) [v'] H1 Q) →
      wpE X (.Call (.Attribute o (mtName m) apos) [x] [] pos) σ H Q := fun r h1 h2 => by
    refine h1 (seqE ho env ok h wx fun u n1 h3 v F1 H1 p1 => ?_)
    rcases bind_some h3 with ⟨s, n2, e2, h4⟩ | ⟨c, d, n2, e2, rfl⟩
    · obtain ⟨s', e3, e4⟩ := of_some e2
      cases e4
      have ev : v = .str s := by
        obtain ⟨_, k1, A, r1, _⟩ := p1
        exact r1.str k1 (opStr_dat e3)
      subst ev
      refine ⟨⟨s, rfl⟩, seqE ha (env.ext p1.1) p1.2.1 h4 (wx.ext p1.1) fun y n2 h5 v' F2 H2 p2 => ?_⟩
      obtain ⟨z, h6, rfl⟩ := of_some h5
      obtain ⟨e2, k2, A', r2, f2⟩ := p2
      exact h2 s y z v' A' F2 H2 n2 k2 r2 h6 fun v F' H' p => q _ _ rfl _ _ _ (PostE.refl (p1.1.trans e2) p)
    · obtain ⟨s', e3, e4⟩ := of_some e2
      cases e4
  have sl : cap + 2 ≤ sizeLine := by rw [sizeLine_eq]; decide
  cases m with
  | join =>
    refine go _ (wpE_of (pe_join pe_wp pe_wp (star_plain hpl) (base_eq hb) hl)) fun s y z v' A' F1 H1 n1 k r h q => ?_
    simp only [opMth] at h
    split at h
    · rename_i xs e
      rw [Option.bind_eq_some_iff] at h
      obtain ⟨ys, hy, h⟩ := h
      split at h
      · rename_i hz
        cases h
        obtain ⟨p, vs, rfl, h1, h2, h3⟩ := r.lst k e
        obtain rfl := strs_vals hy h2
        exact ⟨s, p, ys, rfl, rfl, .inl h1, hz, q _ _ _ (post_im k (.str _))⟩
      · cases h
    · cases h
  | split =>
    refine go _ (wpE_of (pe_split pe_wp pe_wp (star_plain hpl) (base_eq hb) hl)) fun s y z v' A' F1 H1 n1 k r h q => ?_
    simp only [opMth, Option.bind_eq_some_iff] at h
    obtain ⟨t, ht, h⟩ := h
    split at h
    · rename_i hz
      cases h
      obtain rfl := r.str k (opStr_dat ht)
      exact ⟨s, t, rfl, rfl, hz.1, by have := hz.2; omega, fun p hp => q _ _ _ (post_li k hp (strs_rp _))⟩
    · cases h
  | starts =>
    refine go _ (wpE_of (pe_m1 PySem.F.slot_str_startswith rfl mt_startswith pe_wp pe_wp (star_plain hpl) (base_eq hb) hl)) fun s y z v' A' F1 H1 n1 k r h q => ?_
    simp only [opMth, Option.map_eq_some_iff] at h
    obtain ⟨t, ht, rfl⟩ := h
    obtain rfl := r.str k (opStr_dat ht)
    exact ⟨s, t, rfl, rfl, q _ _ _ (post_bl k _)⟩
  | strip =>
    refine go _ (wpE_of (pe_m1 PySem.F.slot_str_removeprefix rfl mt_removeprefix pe_wp pe_wp (star_plain hpl) (base_eq hb) hl)) fun s y z v' A' F1 H1 n1 k r h q => ?_
    simp only [opMth, Option.bind_eq_some_iff] at h
    obtain ⟨t, ht, h⟩ := h
    split at h
    · rename_i hz
      cases h
      obtain rfl := r.str k (opStr_dat ht)
      exact ⟨s, t, rfl, rfl, by omega, q _ _ _ (post_im k (.str _))⟩
    · cases h
/-- text.isdecimal() -/
theorem s_isd {a : P} {o : Expr} {apos pos : Pos} (ho : okE X xc EK tb sp o a) (hb : baseB o = true) (hl : (apos.endLine == pos.line) = true) :
    okE X xc EK tb sp (.Call (.Attribute o "isdecimal" apos) [] [] pos) (.isd a) := by
  intro E σ F H n fp ro Q env ok h wx q
  simp only [evE] at h
  refine wpE_of (pe_m0 PySem.F.slot_str_isdecimal rfl mt_isdecimal pe_wp (base_eq hb) hl) (seqE ho env ok h wx fun u n1 h1 v F1 H1 p1 => ?_)
  obtain ⟨z, h2, rfl⟩ := of_some h1
  rw [Option.map_eq_some_iff] at h2
  obtain ⟨s, h3, rfl⟩ := h2
  obtain ⟨e1, k1, A, r1, f1⟩ := p1
  have ev := r1.str k1 (opStr_dat h3)
  exact ⟨⟨s, ev⟩, s, ev, rfl, trivial, q _ _ rfl _ _ _ (PostE.refl e1 (post_bl k1 _))⟩
/-- a def's call by place -/
theorem s_call {f : Str} {as : P} {e : Expr} {es : List Expr} {ks : List Str} {p pos : Pos} (ha : okA X xc EK tb sp (e :: es) as) (hpl : (e :: es).all plainB = true) (hg : Gl X f ∧ (f == ("__debug__" : Str)) = false ∧ f ≠ "__name__") :
    okE X xc EK tb sp (.Call (.Name f p) (e :: es) [] pos) (.call f as ks) := by
  intro E σ F H n fp ro Q env ok h wx q
  simp only [evE] at h
  have h1 : plainB e = true := by rw [List.all_cons, Bool.and_eq_true] at hpl; exact hpl.1
  have h2 : es.all plainB = true := by rw [List.all_cons, Bool.and_eq_true] at hpl; exact hpl.2
  split at h
  · rename_i fn hfn
    obtain ⟨f', F', hm, hk⟩ := (B.fns f fn hfn).ex
    split at h
    · refine wpE_of (pe_callA F' B.room hg.1 hm hk B.pass pa_wp hg.2.1 (star_plain h1) (back_plain h2)) ?_
      refine seqA ha env ok h wx fun rs n1 h3 vs F1 H1 p1 => ?_
      exact opCall_ok p1 h3 wx q
    · cases h
  · cases h
/-- a call without arguments -/
theorem s_call0 {f : Str} {p pos : Pos} (hg : Gl X f ∧ (f == ("__debug__" : Str)) = false ∧ f ≠ "__name__") : okE X xc EK tb sp (.Call (.Name f p) [] [] pos) (.call f .no []) := by
  intro E σ F H n fp ro Q env ok h wx q
  simp only [evE, evA] at h
  split at h
  · rename_i fn hfn
    obtain ⟨f', F', hm, hk⟩ := (B.fns f fn hfn).ex
    simp only [true_or, if_true] at h
    have h : opCall fn [] n = some ro := h
    refine wpE_of (pe_callA0 F' B.room hg.1 hm hk B.pass hg.2.1) ?_
    exact opCall_ok ⟨Ext.refl _ _ _, ok, [], .nil, fun a z => nomatch z⟩ h wx q
  · cases h
omit B in
theorem kw_all {env : Env} {pos : Pos} {ks : List Str} : ∀ {kws : List Keyword}, kwNames kws = ks.map some → (backToKw pos (keywordEach kws env)).all (·.1.isSome) = true ∧ (backToKw pos (keywordEach kws env)).filterMap (·.1) = ks ∧ (backToKw pos (keywordEach kws env)).any (·.1.isNone) = false := by
  intro kws
  induction kws generalizing ks with
  | nil =>
    intro h
    cases ks with
    | nil => exact ⟨rfl, rfl, rfl⟩
    | cons k ks => cases h
  | cons kw kws ih =>
    obtain ⟨nm, e, kp⟩ := kw
    intro h
    cases ks with
    | nil => cases h
    | cons k ks =>
      simp only [kwNames, List.map_cons, List.cons.injEq] at h
      obtain ⟨rfl, h⟩ := h
      obtain ⟨g1, g2, g3⟩ := ih h
      refine ⟨?_, ?_, ?_⟩
      · show (true && (backToKw pos (keywordEach kws env)).all (·.1.isSome)) = true
        rw [g1]; rfl
      · show k :: (backToKw pos (keywordEach kws env)).filterMap (·.1) = k :: ks
        rw [g2]
      · show (false || (backToKw pos (keywordEach kws env)).any (·.1.isNone)) = false
        rw [g3]; rfl
/-- a def's call by names -/
theorem s_callK {f : Str} {as : P} {kws : List Keyword} {ks : List Str} {p pos : Pos} (ha : okK X xc EK tb sp kws as) (hks : kwNames kws = ks.map some) (hne : ks ≠ []) (hg : Gl X f ∧ (f == ("__debug__" : Str)) = false ∧ f ≠ "__name__") :
    okE X xc EK tb sp (.Call (.Name f p) [] kws pos) (.call f as ks) := by
  intro E σ F H n fp ro Q env ok h wx q
  simp only [evE] at h
  split at h
  · rename_i fn hfn
    obtain ⟨f', F', hm, hk⟩ := (B.fns f fn hfn).ex
    split at h
    · rename_i hps
      have hps : ks = fn.ps := hps.resolve_left hne
      subst hps
      intro pins s I
      refine wpAny_Call_Name_kw (ld_glob I hg.1 hm ?_ hg.2.1)
      obtain ⟨g1, g2, g3⟩ := kw_all (env := X.env) (pos := pos) hks
      refine PySem.W.callWith_KW0 (h₀ := X.base) I.ok.mod.kin hk g1 (thn (seqK ha env ok h wx (fun rs n1 h3 vs F1 H1 p1 => opCall_ok p1 h3 wx q) pos pins s I) fun ws s2 ⟨zs, H2, I2, rz, q2⟩ => ⟨I2.kIn, ?_⟩) ?_
      · rw [g2]
        exact F'.runK ⟨rfl, rfl, rfl, rfl, rfl⟩ B.room B.pass I2 rz q2
      · rw [g3, Bool.or_false]
        rfl
    · cases h
  · cases h
/-! ### tests -/
omit B in
theorem plain_true {e : Expr} (h1 : (asBool e).isNone = true) (h2 : (asUn e).isNone = true) (h3 : (asIf e).isNone = true) (h4 : (asCmp e).isNone = true) {env : Env} : ∀ whole, isTrue e env whole = (do let v ← whole; standAt e.pos; holding [v] (truthy v)) := by
  intro whole
  cases e <;> first | rfl | exact absurd h1 Bool.false_ne_true | exact absurd h2 Bool.false_ne_true | exact absurd h3 Bool.false_ne_true | exact absurd h4 Bool.false_ne_true
theorem s_tv {a : P} {e : Expr} (ha : okE X xc EK tb sp e a) (he : ∀ whole, isTrue e X.env whole = (do let v ← whole; standAt e.pos; holding [v] (truthy v))) : okT X xc EK tb sp e (.tv a) := by
  intro E σ F H n fp ro Q env ok h wx q
  simp only [evT] at h
  refine wpT_of (pt_truth pe_wp he) (seqE ha env ok h wx fun r n1 h1 v F1 H1 p1 => ?_)
  obtain ⟨c, h3, rfl⟩ := of_some h1
  rw [Option.bind_eq_some_iff] at h3
  obtain ⟨d, h4, h5⟩ := h3
  obtain ⟨e1, k1, A, r1, f1⟩ := p1
  exact ⟨c, truth_tru h5 (r1.rpH k1 h4), q _ _ rfl _ _ e1 k1⟩
omit B in
/-- a comparison as a test: by its value -/
theorem tvB {a : P} {ro : Ro Bool} {Q : Bool → Hp → Prop} (hb : ∀ {r n'}, evE tb a E n = some (.ok r n') → ∃ c, r = .im (.bool c)) (h : evT tb (.tv a) E n = some ro) (wx : WX xc sp F H EK ro)
    (q : ∀ c n', ro = .ok c n' → ∀ F' H', Ext sp F H F' H' → Ok sp F' H' n' → Q c H') :
    ∃ ro', evE tb a E n = some ro' ∧ WX xc sp F H EK ro' ∧ ∀ r n', ro' = .ok r n' → ∀ v F' H', PostE X.w X.K sp F H r n' v F' H' → ∃ c, v = .bl c ∧ Q c H' := by
  simp only [evT] at h
  rcases bind_some h with ⟨r, n1, e1, h1⟩ | ⟨c, d, n1, e1, rfl⟩
  · obtain ⟨c, rfl⟩ := hb e1
    obtain ⟨c', h3, rfl⟩ := of_some h1
    cases h3
    refine ⟨_, e1, (fun c d n z => by cases z), fun r' n' z v F1 H1 p1 => ?_⟩
    cases z
    obtain ⟨e1, k1, A, r1, f1⟩ := p1
    exact ⟨c, r1.bool k1 rfl, q _ _ rfl _ _ e1 k1⟩
  · exact ⟨_, e1, (fun c' d' n' z => by cases z; exact wx _ _ _ rfl), fun r' n' z => by cases z⟩
omit B in
theorem cmp_bl {op : COp} {a b : P} {r : R} {n' : Int} (h : evE tb (.cmp op a b) E n = some (.ok r n')) : ∃ c, r = .im (.bool c) := by
  simp only [evE] at h
  rcases bind_some h with ⟨x, n1, e1, h1⟩ | ⟨_, _, _, _, z⟩
  · rcases bind_some h1 with ⟨y, n2, e2, h2⟩ | ⟨_, _, _, _, z⟩
    · obtain ⟨z, h3, e⟩ := of_some h2
      rw [Option.map_eq_some_iff] at h3
      obtain ⟨c, h4, rfl⟩ := h3
      cases e
      exact ⟨c, rfl⟩
    · cases z
  · cases z
omit B in
theorem cmp2_bl {o1 o2 : COp} {a b c : P} {r : R} {n' : Int} (h : evE tb (.cmp2 o1 o2 a b c) E n = some (.ok r n')) : ∃ c, r = .im (.bool c) := by
  simp only [evE] at h
  rcases bind_some h with ⟨x, n1, e1, h1⟩ | ⟨_, _, _, _, z⟩
  rotate_left
  · cases z
  rcases bind_some h1 with ⟨y, n2, e2, h2⟩ | ⟨_, _, _, _, z⟩
  rotate_left
  · cases z
  rcases bind_some h2 with ⟨kk, n3, e3, h3⟩ | ⟨_, _, _, _, z⟩
  rotate_left
  · cases z
  cases kk with
  | false =>
    rw [if_neg Bool.false_ne_true] at h3
    cases h3
    exact ⟨_, rfl⟩
  | true =>
    rw [if_pos rfl] at h3
    rcases bind_some h3 with ⟨w, n4, e4, h4⟩ | ⟨_, _, _, _, z⟩
    · obtain ⟨z, h5, e⟩ := of_some h4
      rw [Option.map_eq_some_iff] at h5
      obtain ⟨c, h6, rfl⟩ := h5
      cases e
      exact ⟨c, rfl⟩
    · cases z
theorem s_tisN {op : COp} {a : P} {l r : Expr} {pos : Pos} (ha : okE X xc EK tb sp l a) (hm : behindInMarks (cop op) r = false) (hr : litB .none r = true) :
    okT X xc EK tb sp (.Compare l [cop op] [r] pos) (.tv (.cmp op a (.lit .none))) := by
  intro E σ F H n fp ro Q env ok h wx q
  obtain ⟨j, p, rfl⟩ := lit_none hr
  obtain ⟨ro', h', wx', q'⟩ := tvB (X := X) cmp_bl h wx q
  exact wpT_of (pt_cmpR semO_op pe_wp pe_non hm) (c_isN B ha env ok h' wx' q')
theorem s_tcmp {op : COp} {a b : P} {l r : Expr} {pos : Pos} (ha : okE X xc EK tb sp l a) (hb : okE X xc EK tb sp r b) (hm : behindInMarks (cop op) r = false) (hN : isNs op = false) :
    okT X xc EK tb sp (.Compare l [cop op] [r] pos) (.tv (.cmp op a b)) := by
  intro E σ F H n fp ro Q env ok h wx q
  obtain ⟨ro', h', wx', q'⟩ := tvB (X := X) cmp_bl h wx q
  exact wpT_of (pt_cmpR semO_op pe_wp pe_wp hm) (c_cmp B ha hb hN env ok h' wx' q')
theorem s_tcmp2 {o1 o2 : COp} {a b c : P} {l r z : Expr} {pos : Pos} (ha : okE X xc EK tb sp l a) (hb : okE X xc EK tb sp r b) (hc : okE X xc EK tb sp z c) (hm : lastMarks [cop o1, cop o2] [r, z] = false) (hN : isNs o1 = false) (hN2 : isNs o2 = false) :
    okT X xc EK tb sp (.Compare l [cop o1, cop o2] [r, z] pos) (.tv (.cmp2 o1 o2 a b c)) := by
  intro E σ F H n fp ro Q env ok h wx q
  obtain ⟨ro', h', wx', q'⟩ := tvB (X := X) cmp2_bl h wx q
  exact wpT_of (pt_chain semO_op semO_op pe_wp pe_wp pe_wp hm) (c_cmp2 B ha hb hc hN hN2 env ok h' wx' q')
theorem s_tnot {a : P} {l : Expr} {pos : Pos} (ha : okT X xc EK tb sp l a) : okT X xc EK tb sp (.UnaryOp .Not l pos) (.nott a) := by
  intro E σ F H n fp ro Q env ok h wx q
  simp only [evT] at h
  refine wpT_of (pt_not pt_wp) (seqT ha env ok h wx fun c n1 h1 F1 H1 e1 k1 => ?_)
  cases h1
  exact q _ _ rfl _ _ e1 k1
omit B in
theorem evBT_cons {q : Bool} {a as : P} (h : as ≠ .no) : evBT tb q (.cons a as) E n = (evT tb a E n).bind fun c n => if c = q then evBT tb q as E n else some (.ok c n) := by
  cases as <;> first | exact absurd rfl h | rfl
omit B in
theorem evB_cons {q : Bool} {a as : P} (h : as ≠ .no) : evB tb q (.cons a as) E n = (evE tb a E n).bind fun r n => match r with
    | .im (.bool c) => if c = q then evB tb q as E n else some (.ok (.im (.bool c)) n)
    | _ => none := by
  cases as <;> first | exact absurd rfl h | rfl
theorem s_bt1 {q : Bool} {a : P} {e : Expr} {pos : Pos} (ha : okT X xc EK tb sp e a) : okBT X xc EK tb sp q (.BoolOp (opOf q) [e] pos) (.cons a .no) := by
  intro E σ F H n fp ro Q env ok h wx qq
  simp only [evBT] at h
  have g := ha env ok h wx qq
  cases q with
  | true => exact wpW_of (pw_and1 pt_wp) g
  | false => exact wpW_of (pw_or1 pt_wp) g
theorem s_bt {q : Bool} {a as : P} {e e' : Expr} {es : List Expr} {pos : Pos} (hn : as ≠ .no) (ha : okT X xc EK tb sp e a) (hb : okBT X xc EK tb sp q (.BoolOp (opOf q) (e' :: es) pos) as) : okBT X xc EK tb sp q (.BoolOp (opOf q) (e :: e' :: es) pos) (.cons a as) := by
  intro E σ F H n fp ro Q env ok h wx qq
  rw [evBT_cons hn] at h
  cases q with
  | true =>
    refine wpW_of (pw_and pt_wp pw_wp) (seqT ha env ok h wx fun c n1 h1 F1 H1 e1 k1 => ?_)
    cases c with
    | true =>
      rw [if_pos rfl] at h1 ⊢
      exact hb (env.ext e1) k1 h1 (wx.ext e1) fun r n' z F' H' e2 k2 => qq r n' z F' H' (e1.trans e2) k2
    | false =>
      rw [if_neg Bool.false_ne_true] at h1 ⊢
      cases h1
      exact qq _ _ rfl _ _ e1 k1
  | false =>
    refine wpW_of (pw_or pt_wp pw_wp) (seqT ha env ok h wx fun c n1 h1 F1 H1 e1 k1 => ?_)
    cases c with
    | true =>
      rw [if_neg (fun z => nomatch z)] at h1
      rw [if_pos rfl]
      cases h1
      exact qq _ _ rfl _ _ e1 k1
    | false =>
      rw [if_pos rfl] at h1
      rw [if_neg Bool.false_ne_true]
      exact hb (env.ext e1) k1 h1 (wx.ext e1) fun r n' z F' H' e2 k2 => qq r n' z F' H' (e1.trans e2) k2
theorem s_b1 {q : Bool} {a : P} {e : Expr} {pos : Pos} (ha : okE X xc EK tb sp e a) : okB X xc EK tb sp q (.BoolOp (opOf q) [e] pos) (.cons a .no) := by
  intro E σ F H n fp ro Q env ok h wx qq
  simp only [evB] at h
  exact wpE_of (pe_one pe_wp) (ha env ok h wx qq)
theorem s_b {q : Bool} {a as : P} {e e' : Expr} {es : List Expr} {pos : Pos} (hn : as ≠ .no) (ha : okE X xc EK tb sp e a) (hb : okB X xc EK tb sp q (.BoolOp (opOf q) (e' :: es) pos) as) : okB X xc EK tb sp q (.BoolOp (opOf q) (e :: e' :: es) pos) (.cons a as) := by
  intro E σ F H n fp ro Q env ok h wx qq
  rw [evB_cons hn] at h
  cases q with
  | true =>
    refine wpE_of (pe_and pe_wp pe_wp) (seqE ha env ok h wx fun r n1 h1 v F1 H1 p1 => ?_)
    obtain ⟨e1, k1, A, r1, f1⟩ := p1
    split at h1
    · rename_i c
      refine ⟨c, r1.bool k1 rfl, ?_⟩
      cases c with
      | true =>
        rw [if_pos rfl] at h1 ⊢
        exact hb (env.ext e1) k1 h1 (wx.ext e1) fun r n' z v F' H' p => qq r n' z v F' H' (PostE.refl e1 p)
      | false =>
        rw [if_neg Bool.false_ne_true] at h1 ⊢
        cases h1
        exact qq _ _ rfl _ _ _ (PostE.refl e1 (post_bl k1 _))
    · cases h1
  | false =>
    refine wpE_of (pe_or pe_wp pe_wp) (seqE ha env ok h wx fun r n1 h1 v F1 H1 p1 => ?_)
    obtain ⟨e1, k1, A, r1, f1⟩ := p1
    split at h1
    · rename_i c
      refine ⟨c, r1.bool k1 rfl, ?_⟩
      cases c with
      | true =>
        rw [if_neg (fun z => nomatch z)] at h1
        rw [if_pos rfl]
        cases h1
        exact qq _ _ rfl _ _ _ (PostE.refl e1 (post_bl k1 _))
      | false =>
        rw [if_pos rfl] at h1
        rw [if_neg Bool.false_ne_true]
        exact hb (env.ext e1) k1 h1 (wx.ext e1) fun r n' z v F' H' p => qq r n' z v F' H' (PostE.refl e1 p)
    · cases h1
/-! ### rows of expressions -/
theorem s_anil : okA X xc EK tb sp [] .no := by
  intro E σ F H n fp ro Q env ok h wx q
  simp only [evA] at h
  cases h
  exact wpA_of pa_nil (q _ _ rfl _ _ _ ⟨Ext.refl sp F H, ok, [], .nil, fun a z => nomatch z⟩)
theorem s_acons {a as : P} {e : Expr} {es : List Expr} (hp : plainB e = true) (ha : okE X xc EK tb sp e a) (hb : okA X xc EK tb sp es as) : okA X xc EK tb sp (e :: es) (.cons a as) := by
  intro E σ F H n fp ro Q env ok h wx q
  simp only [evA] at h
  refine wpA_of (pa_cons pe_wp pa_wp (star_plain hp)) (seqE ha env ok h wx fun r n1 h1 v F1 H1 p1 => seqA hb (env.ext p1.1) p1.2.1 h1 (wx.ext p1.1) fun rs n2 h2 vs F2 H2 p2 => ?_)
  cases h2
  exact q _ _ rfl _ _ _ (p1.cons p2)
theorem s_knil : okK X xc EK tb sp [] .no := by
  intro E σ F H n fp ro Q env ok h wx q
  simp only [evA] at h
  cases h
  exact wpK_of pk_nil (q _ _ rfl _ _ _ ⟨Ext.refl sp F H, ok, [], .nil, fun a z => nomatch z⟩)
theorem s_kcons {a as : P} {nm : Option Str} {e : Expr} {kp : Pos} {kws : List Keyword} (ha : okE X xc EK tb sp e a) (hb : okK X xc EK tb sp kws as) : okK X xc EK tb sp (⟨nm, e, kp⟩ :: kws) (.cons a as) := by
  intro E σ F H n fp ro Q env ok h wx q
  simp only [evA] at h
  refine wpK_of (pk_cons pe_wp pk_wp) (seqE ha env ok h wx fun r n1 h1 v F1 H1 p1 => seqK hb (env.ext p1.1) p1.2.1 h1 (wx.ext p1.1) fun rs n2 h2 vs F2 H2 p2 => ?_)
  cases h2
  exact q _ _ rfl _ _ _ (p1.cons p2)
theorem s_onone : okO X xc EK tb sp none .no := by
  intro E σ F H n fp ro Q env ok h wx q
  simp only [evO] at h
  cases h
  exact wpO_of po_none (q _ _ rfl _ _ (Ext.refl sp F H) ok)
theorem s_osome {a : P} {e : Expr} (ha : okE X xc EK tb sp e a) : okO X xc EK tb sp (some e) (.cons a .no) := by
  intro E σ F H n fp ro Q env ok h wx q
  simp only [evO] at h
  refine wpO_of (po_some pe_wp) (seqE ha env ok h wx fun r n1 h1 v F1 H1 p1 => ?_)
  obtain ⟨z, h3, rfl⟩ := of_some h1
  rw [Option.map_eq_some_iff] at h3
  obtain ⟨i, h4, rfl⟩ := h3
  obtain ⟨e1, k1, A, r1, f1⟩ := p1
  exact ⟨i, r1.int k1 (opInt_some h4), q _ _ rfl _ _ e1 k1⟩
end
end Lk
end
section
set_option linter.all false
set_option maxRecDepth 100000
set_option maxHeartbeats 2000000
/-! Comprehensions of any number of clauses. -/
namespace Lk
open PySem PySem.Spec PyProof.Rows L2
def mkC (k : CK) (e1 e2 : Expr) (gens : List Comprehension) (scope : Scope) (pos : Pos) : Expr := match k with
  | .li => .ListComp e1 gens scope pos
  | .se => .SetComp e1 gens scope pos
  | .di => .DictComp e1 e2 gens scope pos
/-- what stands behind the last clause's tests -/
def emitC (k : CK) (e1 e2 : Expr) (acc : Value) (env : Env) : Sem Unit := match k with
  | .li => do let _ ← call (.builtin "list.append") [acc, ← eval e1 env]
  | .se => do let v ← eval e1 env; standAt e1.pos; let _ ← call (.builtin "set.add") [acc, v]
  | .di => do
    let kv ← eval e1 env
    let vv ← holding [kv] (eval e2 env)
    match acc with
    | .ref d => do
      standAt { e1.pos with endLine := e2.pos.endLine, endCol := e2.pos.endCol }
      holding [kv, vv] (dictSet d kv vv)
    | _ => unsupported "internal:dictcomp"
section
variable {k : CK} {e1 e2 : Expr} {gens : List Comprehension} {scope : Scope} {pos : Pos} {d : Nat} {it acc : Value} {env : Env} {t i t' i' : Expr} {ifs ifs' : List Expr}
theorem turnI (hd : gens[d]? = some ⟨t, i, ifs, 0⟩) (hg : gens[d + 1]? = none) :
    compTurn (mkC k e1 e2 gens scope pos) d it acc env = (do
      standAt i.pos
      match ← pyNext it with
      | none => pure (.done .next)
      | some v =>
        letOwnedTupleGo t it v
        assign t env v
        let mut ok := true
        for c in ifs do
          if ok then ok ← isTrue c env (eval c env)
        if ok then
          emitC k e1 e2 acc env
        again (.compLoop (mkC k e1 e2 gens scope pos) d it acc env)) := by
  cases k <;> (unfold compTurn mkC; simp only [hd, hg]; rfl)
theorem turnO (hd : gens[d]? = some ⟨t, i, ifs, 0⟩) (hg : gens[d + 1]? = some ⟨t', i', ifs', 0⟩) :
    compTurn (mkC k e1 e2 gens scope pos) d it acc env = (do
      standAt i.pos
      match ← pyNext it with
      | none => pure (.done .next)
      | some v =>
        letOwnedTupleGo t it v
        assign t env v
        let mut ok := true
        for c in ifs do
          if ok then ok ← isTrue c env (eval c env)
        if ok then
          let x ← eval i' env
          standAt i'.pos
          let x ← foldedSetIterable i' env x
          let _ ← runOwn (.compStart (mkC k e1 e2 gens scope pos) (d + 1) (← holding [x] (pyIter x)) acc env) env
        again (.compLoop (mkC k e1 e2 gens scope pos) d it acc env)) := by
  cases k <;> (unfold compTurn mkC; simp only [hd, hg]; rfl)
end
section
variable {prog : Program} {w : World} {A : Around} {R : Result → Shared → Prop} {s : Shared} {k : CK} {e1 e2 : Expr} {gens : List Comprehension} {scope : Scope} {pos : Pos} {d : Nat} {it acc : Value} {env : Env} {t i : Expr} {ifs : List Expr}
/-- what stands behind a clause's tests: the next clause's loop, or the item -/
def InW (prog : Program) (w : World) (A : Around) (k : CK) (e1 e2 : Expr) (gens : List Comprehension) (scope : Scope) (pos : Pos) (env : Env) (d : Nat) (acc : Value) (Q : Shared → Prop) (s : Shared) : Prop := match gens[d + 1]? with
  | some g' => (∀ x, foldedSetIterable g'.iter env x = pure x) ∧ wpAny (model prog w) A (eval g'.iter env) (fun x s4 => wpAny (model prog w) A (pyIter x) (fun it1 s5 =>
      codeAny (model prog w) A (.compStart (mkC k e1 e2 gens scope pos) (d + 1) it1 acc env) (fun r s' => match r with
        | .ok _ => Q s'
        | .error _ => False) s5) (fun _ _ => False) s4) (fun _ _ => False) s
  | none => wpAny (model prog w) A (emitC k e1 e2 acc env) (fun _ s' => Q s') (fun _ _ => False) s
theorem compLoopG (hd : gens[d]? = some ⟨t, i, ifs, 0⟩) (ha : ∀ g', gens[d + 1]? = some g' → g'.is_async = 0) (I : Nat → Shared → Prop)
    (turn : ∀ n s, I n s → wpAny (model prog w) A (pyNext it) (fun r s₁ => match r with
      | none => R (.ok .next) s₁
      | some v => wpAny (model prog w) A (letOwnedTupleGo t it v) (fun _ s₁' => wpAny (model prog w) A (assign t env v) (fun _ s₂ =>
          wpAny (model prog w) A (forIn ifs true fun c r => if r = true then do let ok ← isTrue c env (eval c env); pure (ForInStep.yield ok) else pure (ForInStep.yield r)) (fun ok s₃ =>
            if ok = true then InW prog w A k e1 e2 gens scope pos env d acc (fun s₄ => ∃ m, m < n ∧ I m s₄) s₃
            else ∃ m, m < n ∧ I m s₃) (fun _ _ => False) s₂) (fun _ _ => False) s₁') (fun _ _ => False) s₁) (fun _ _ => False) s)
    (n : Nat) (h : I n s) :
    codeAny (model prog w) A (.compLoop (mkC k e1 e2 gens scope pos) d it acc env) R s := by
  refine codeAny_loop (by cases k <;> rfl) I (fun n s hI => ?_) n h
  have key : wpAny (model prog w) A ((compTurn (mkC k e1 e2 gens scope pos) d it acc env).onRaise (fun x => do noteFrame x env; theTreesLotGoes x)) (fun fin s' => match fin with
      | .done f => R (.ok f) s'
      | .again c' => c' = .compLoop (mkC k e1 e2 gens scope pos) d it acc env ∧ ∃ m, m < n ∧ I m s') (fun e s' => R (.error e) s') s := by
    refine wpAny_noted ?_
    cases hg : gens[d + 1]? with
    | none =>
      rw [turnI hd hg]
      refine wpAny_bind (wpAny_standAt (wpAny_bind (wpAny_mono (turn n s hI) (fun r s₁ h₁ => ?_) fun _ _ z => z.elim)))
      cases r with
      | none => exact wpAny_pure h₁
      | some v =>
        refine wpAny_bind (wpAny_mono h₁ (fun _ s₁' h₁' => ?_) fun _ _ z => z.elim)
        refine wpAny_bind (wpAny_mono h₁' (fun _ s₂ h₂ => wpAny_bind (wpAny_mono h₂ (fun ok s₃ h₃ => ?_) fun _ _ z => z.elim)) fun _ _ z => z.elim)
        cases ok with
        | false => exact wpAny_pure ⟨rfl, h₃⟩
        | true =>
          have h₃' : InW prog w A k e1 e2 gens scope pos env d acc (fun s₄ => ∃ m, m < n ∧ I m s₄) s₃ := h₃
          unfold InW at h₃'
          rw [hg] at h₃'
          exact wpAny_bind (wpAny_mono h₃' (fun _ s₄ h₄ => wpAny_pure ⟨rfl, h₄⟩) fun _ _ z => z.elim)
    | some g' =>
      obtain ⟨t', i', ifs', as⟩ := g'
      have e := ha _ hg
      simp only at e
      subst e
      rw [turnO hd hg]
      refine wpAny_bind (wpAny_standAt (wpAny_bind (wpAny_mono (turn n s hI) (fun r s₁ h₁ => ?_) fun _ _ z => z.elim)))
      cases r with
      | none => exact wpAny_pure h₁
      | some v =>
        refine wpAny_bind (wpAny_mono h₁ (fun _ s₁' h₁' => ?_) fun _ _ z => z.elim)
        refine wpAny_bind (wpAny_mono h₁' (fun _ s₂ h₂ => wpAny_bind (wpAny_mono h₂ (fun ok s₃ h₃ => ?_) fun _ _ z => z.elim)) fun _ _ z => z.elim)
        cases ok with
        | false => exact wpAny_pure ⟨rfl, h₃⟩
        | true =>
          have h₃' : InW prog w A k e1 e2 gens scope pos env d acc (fun s₄ => ∃ m, m < n ∧ I m s₄) s₃ := h₃
          unfold InW at h₃'
          rw [hg] at h₃'
          obtain ⟨hs, h₃'⟩ := h₃'
          refine wpAny_bind (wpAny_mono h₃' (fun x s₄ h₄ => ?_) fun _ _ z => z.elim)
          refine wpAny_bind (wpAny_standAt (wpAny_bind (wpAny_of_eq (hs x) (wpAny_bind (wpAny_holding (wpAny_mono h₄ (fun it1 s₅ h₅ => ?_) fun _ _ z => z.elim))))))
          refine wpAny_bind (wpAny_runOwn ?_)
          rw [Around.mark_none]
          refine codeAny_mono h₅ fun r s' hr => ?_
          cases r with
          | ok f =>
            first
              | exact wpAny_pure ⟨rfl, hr⟩
              | exact wpAny_bind (wpAny_pure (wpAny_pure ⟨rfl, hr⟩))
          | error e => exact hr.elim
  cases k <;> exact key
/-- a clause's start -/
theorem compStartG (hd : gens[d]? = some ⟨t, i, ifs, 0⟩) (h0 : codeAny (model prog w) A (.compLoop (mkC k e1 e2 gens scope pos) d it acc env) R s)
    (h : wpAny (model prog w) A (pyIter it) (fun it' s' => codeAny (model prog w) A (.compLoop (mkC k e1 e2 gens scope pos) d it' acc env) R s') (fun _ _ => False) s) :
    codeAny (model prog w) A (.compStart (mkC k e1 e2 gens scope pos) d it acc env) R s := by
  refine codeAny_of_tree ?_
  have hcl : clausesOf (mkC k e1 e2 gens scope pos) = gens := by cases k <;> rfl
  have hq : (Code.compLoop (mkC k e1 e2 gens scope pos) d it acc env).quiet = true := by cases k <;> rfl
  have key : wpAny (model prog w) A ((compStart (mkC k e1 e2 gens scope pos) d it acc env).onRaise (fun x => do noteFrame x env; standAt theWindowsPlace)) (fun fin s' => match fin with
      | .done f => R (.ok f) s'
      | .again c' => c'.quiet = true ∧ codeAny (model prog w) A c' R s') (fun e s' => R (.error e) s') s := by
    refine wpAny_notedAt ?_
    unfold compStart
    rw [hcl, hd]
    show wpAny _ _ (ask >>= _) _ _ s
    refine wpAny_bind (wpAny_askSetting (wpAny_ite ?_))
    split
    · first
        | exact wpAny_bind (wpAny_pure (wpAny_pure (And.intro hq h0)))
        | exact wpAny_pure (And.intro hq h0)
    · have h' := h
      first
        | exact wpAny_bind (wpAny_rule (wpAny_bind (wpAny_standAt (wpAny_bind (wpAny_mono h (fun it' s' h' => wpAny_pure (And.intro (by cases k <;> rfl) h')) fun _ _ z => z.elim)))))
        | (refine wpAny_bind (wpAny_rule ?_); show wpAny _ _ (standAt i.pos >>= _) _ _ s; exact wpAny_bind (wpAny_standAt (wpAny_bind (wpAny_mono h (fun it' s' h' => wpAny_pure (And.intro (by cases k <;> rfl) h')) fun _ _ z => z.elim))))
  cases k <;> exact key
end
theorem InW_mono {prog : Program} {w : World} {A : Around} {s : Shared} {k : CK} {e1 e2 : Expr} {gens : List Comprehension} {scope : Scope} {pos : Pos} {d : Nat} {acc : Value} {env : Env} {Q Q' : Shared → Prop}
    (h : InW prog w A k e1 e2 gens scope pos env d acc Q s) (hq : ∀ s', Q s' → Q' s') : InW prog w A k e1 e2 gens scope pos env d acc Q' s := by
  unfold InW at h ⊢
  split
  · rename_i g' hg
    rw [hg] at h
    refine ⟨h.1, thn h.2 fun x s4 h4 => thn h4 fun it s5 h5 => codeAny_mono h5 fun r s' hr => ?_⟩
    cases r with
    | ok f => exact hq _ hr
    | error e => exact hr.elim
  · rename_i hg
    rw [hg] at h
    exact thn h fun _ s' h' => hq _ h'
/-! ### with the hand layer's invariant -/
abbrev TIn := L2.St → Hp → (Hp → Prop) → Prop
/-- what stands behind a clause's tests, read: vs are forgotten -/
structure PIn (X : Cx) (k : CK) (e1 e2 : Expr) (gens : List Comprehension) (scope : Scope) (pos : Pos) (d : Nat) (D : Addr) (vs : List Nat) (t : TIn) : Prop where
  run : ∀ (pins : List (Addr × Obj)) (s : Shared) (σ : L2.St) (H : Hp) (Q : Hp → Prop), Inv X pins σ H s → t σ H Q →
    InW X.prog X.w X.A k e1 e2 gens scope pos X.env d (.ref D) (fun s' => ∃ H', Inv X pins (wipe σ vs) H' s' ∧ Q H') s
def tNext (wi : TI) (g : TG) (tt : TT) (t : TIn) (vs : List Nat) : TIn := fun σ H Q => wi σ H fun J H1 => ∃ W : Nat → Nat → Hp → Prop, (∃ m, W 0 m H1) ∧ ∀ i m H, W i m H →
  (J.stop i H ∧ Q H) ∨ (J.go i H ∧ ∃ Nx : Hp → Prop, (∀ H', Nx H' → ∃ m', m' < m ∧ W (i + 1) m' H') ∧ ∀ x H', J.yld i H x H' → g x (wipe σ vs) H' fun σ2 H2 => wipe σ2 vs = wipe σ vs ∧ tt σ2 H2 fun b H3 =>
    if b = true then t σ2 H3 Nx else Nx H3)
section
variable {X : Cx} {k : CK} {e1 e2 : Expr} {gens : List Comprehension} {scope : Scope} {pos : Pos} {d : Nat} {D : Addr} {tg iter : Expr} {ifs : List Expr} {wi : TI} {g : TG} {tt : TT} {t : TIn} {vs vs' : List Nat}
theorem pin_next (hc : X.calm = true) (hx : X.xe = fun _ _ => False) (hd : gens[d + 1]? = some ⟨tg, iter, ifs, 0⟩) (ha : ∀ g', gens[d + 2]? = some g' → g'.is_async = 0) (hi : PI X tg iter wi) (hg : PG X tg g) (ht : PTs X ifs tt)
    (hs : ∀ x, foldedSetIterable iter X.env x = pure x) (hin : PIn X k e1 e2 gens scope pos (d + 1) D vs' t) (hv : ∀ i ∈ vs', i ∈ vs) : PIn X k e1 e2 gens scope pos d D vs (tNext wi g tt t vs) := by
  refine ⟨fun pins s σ H Q I h => ?_⟩
  unfold InW
  rw [hd]
  refine ⟨hs, ?_⟩
  have r0 := hi.run pins s σ H _ I h
  rw [hx] at r0
  refine thnF r0 fun xv s1 h1 => thnF h1 fun itv s2 h2 => ?_
  obtain ⟨it, fp, tn, J, H2, e, I2, T, st2, f2, W, ⟨m0, w0⟩, turn⟩ := h2
  subst e
  have stat : ∀ {H' : Hp}, (∀ b ∈ fp, H' b = none) → ∀ b ∈ fp, FpOk X pins H' b := fun hn b hb => ⟨hn b hb, (f2 b hb).2⟩
  have loop : codeAny (model X.prog X.w) X.A (.compLoop (mkC k e1 e2 gens scope pos) (d + 1) (.ref it) (.ref D) X.env)
      (fun r s' => match r with
        | .ok _ => ∃ H', Inv X pins (wipe σ vs) H' s' ∧ Q H'
        | .error _ => False) s2 := by
    refine compLoopG hd ha (fun n s' => ∃ i H', Inv X pins (wipe σ vs) H' s' ∧ tn i s'.heap ∧ (∀ b ∈ fp, H' b = none) ∧ W i n H') ?_ m0 ⟨0, H2, I2.weak (wipe_length _ _) (fun j v e => (wipe_some e).1), st2, fun b hb => (f2 b hb).1, w0⟩
    rintro n s5 ⟨i, H5, I5, st5, n5, w5⟩
    rcases turn i n H5 w5 with ⟨stop, qq⟩ | ⟨go, Nx, hNx, step⟩
    · refine thnF (T.done X rfl rfl rfl hc i pins s5 _ H5 (fun _ _ => False) I5 (stat n5) st5 stop) fun r s6 ⟨hr, I6⟩ => ?_
      subst hr
      exact ⟨H5, I6, qq⟩
    · refine thnF (T.item X rfl rfl rfl hc i pins s5 _ H5 (fun _ _ => False) I5 (stat n5) st5 go) fun r s6 ⟨u, hr, h6⟩ => ?_
      subst hr
      refine thnF h6 fun _ s7 ⟨x, H7, I7, r7, y7, st7, n7⟩ => ?_
      have I7' := I7.pinned (stat n7) (T.obj _ _ st7)
      have g7 := hg.run _ s7 _ H7 x u _ I7' r7 (step x H7 y7)
      rw [hx] at g7
      refine thnF g7 fun _ s8 ⟨σ8, H8, I8, hw8, q8⟩ => ?_
      have t8 := ht.run _ s8 σ8 H8 _ I8 q8
      rw [hx] at t8
      refine thnF t8 fun b s9 ⟨H9, I9, q9⟩ => ?_
      have fin : ∀ {σ9 : L2.St} {s' : Shared} {H' : Hp}, Inv X (pins ++ pinsAt fp s7.heap) σ9 H' s' → (wipe σ vs).length = σ9.length → (∀ (j : Nat) v, (wipe σ vs)[j]? = some (some v) → σ9[j]? = some (some v)) → Nx H' →
          ∃ m, m < n ∧ ∃ i H', Inv X pins (wipe σ vs) H' s' ∧ tn i s'.heap ∧ (∀ b ∈ fp, H' b = none) ∧ W i m H' := fun {σ9 s' H'} I' hl hk nx => by
        obtain ⟨m', hm, w'⟩ := hNx H' nx
        have pin' : ∀ b ∈ fp, ∀ o, s7.heap.get? b = some o → s'.heap.get? b = some o ∧ H' b = none := fun b hb o e =>
          let z := I'.pin (b, o) (List.mem_append_right _ (List.mem_append_right _ (mem_pinsAt hb e)))
          ⟨z.1, z.2.1⟩
        refine ⟨m', hm, i + 1, H', (I'.unpinned (pins := pins)).weak hl hk, T.keep _ _ _ st7 fun b hb o e => (pin' b hb o e).1, fun b hb => ?_, w'⟩
        obtain ⟨o, e, _⟩ := T.obj _ _ st7 b hb
        exact (pin' b hb o e).2
      cases b with
      | false =>
        simp only [Bool.false_eq_true, if_false] at q9 ⊢
        refine fin I9 (by rw [← hw8, wipe_length]) (fun j v e => ?_) q9
        rw [← hw8] at e
        exact (wipe_some e).1
      | true =>
        simp only [if_true] at q9 ⊢
        have q10 := hin.run _ s9 σ8 H9 _ I9 q9
        have fin2 : ∀ s', (∃ H', Inv X (pins ++ pinsAt fp s7.heap) (wipe σ8 vs') H' s' ∧ Nx H') → ∃ m, m < n ∧ ∃ i H', Inv X pins (wipe σ vs) H' s' ∧ tn i s'.heap ∧ (∀ b ∈ fp, H' b = none) ∧ W i m H' := fun s' ⟨H', I', nx⟩ => by
          refine fin I' (by rw [← hw8, wipe_length, wipe_length]) (fun j v e => ?_) nx
          rw [← hw8] at e
          obtain ⟨e1, e2⟩ := wipe_some e
          rw [wipe_out fun z => e2 (hv j z)]
          exact e1
        exact InW_mono q10 fin2
  exact compStartG hd loop (T.self X.A 0 _ _ _ st2 loop)
/-- an item of a list -/
theorem pin_list {te : TE} (hx : X.xe = fun _ _ => False) (hd : gens[d + 1]? = none) (he : PE X e1 te) : PIn X .li e1 e2 gens scope pos d D [] (fun σ H Q => te σ H fun y H4 => ∃ acc, H4 D = some (.lst acc) ∧ acc.length < sizeLine ∧ Q (upd H4 D (.lst (acc ++ [y])))) := by
  refine ⟨fun pins s σ H Q I h => ?_⟩
  unfold InW
  rw [hd]
  have r0 := he.run pins s σ H _ I h
  rw [hx] at r0
  show wpAny _ _ (do let _ ← call (.builtin "list.append") [.ref D, ← eval e1 X.env]) _ _ s
  refine wpAny_bind (thnF r0 fun u s1 ⟨y, H1, I1, r1, acc, hD, hz, q⟩ => wpAny_bind (app_ok I1 hD hz r1 fun s2 I2 => wpAny_pure ⟨_, I2, q⟩))
end
/-! ### what a comprehension begins with -/
def newA : CK → Sem Value
  | .li => newList []
  | .se => newSet (.type "set")
  | .di => newDict
def newO (w : World) : CK → Obj
  | .li => { cls := .type "list", data := .seq ([] : List Value).toArray }
  | .se => { cls := .type "set", dict := none, data := .set #[] 0 (.fresh 0 0 (!w.params.followText "set-order")) }
  | .di => { cls := .type "dict", data := .dict #[] }
def newH (w : World) (D : Addr) : CK → HO
  | .li => .lst []
  | .se => SN w D []
  | .di => .dK []
theorem new_ok {P : Program} {w : World} {A : Around} {E : Value → Shared → Prop} {s : Shared} {ck : CK} {Q : Value → Shared → Prop} (h : Q (.ref s.heap.objs.size) { s with heap := s.heap.push (newO w ck) }) : wpAny (model P w) A (newA ck) Q E s := by
  cases ck with
  | li => exact wpAny_newObj_type h (by show 0 ≤ sizeLine; decide)
  | di => exact wpAny_newObj_type h
  | se => exact PpSet.newSet_ok h
theorem sn_new {w : World} {P : Program} {H : Hp} {h : Heap} {a : Addr} {L : List (NestedKey × Addr)} {es : Array (Int × Value)} {ep : Nat} {t : SetTable} (R : SetN w h a L es ep t) : ObjOk P w H h a (SN w a L) := by
  obtain ⟨o, ho, hx, hd⟩ := R.ob
  refine ⟨⟨es, ep, t, ⟨o, ho, hx, hd⟩, R.rows, R.tab, R.nd, R.plain, R.led, R.room⟩, ⟨o, ho⟩, fun h1 h2 p k => ?_⟩
  obtain ⟨es, ep, t, ⟨o, ho, hx, hd⟩, g1, g2, g3, g4, g5, g6⟩ : ∃ (es : Array (Int × Value)) (ep : Nat) (t : SetTable), _ := p
  exact ⟨es, ep, t, ⟨o, k o ho, hx, hd⟩, g1, g2, g3, g4, g5, g6⟩
theorem set_fresh {w : World} {h : Heap} {a : Addr} (ho : h.get? a = some { cls := .type "set", dict := none, data := .set #[] 0 (.fresh 0 0 (!w.params.followText "set-order")) }) : SetN w h a [] #[] 0 (.fresh 0 0 (!w.params.followText "set-order")) where
  ob := ⟨_, ho, ⟨rfl, rfl, rfl⟩, rfl⟩
  rows := rfl
  tab := ⟨List.Pairwise.nil, rfl, rfl, .inl rfl, fun x z => (nomatch z), fun i _ _ z => by simp at z⟩
  nd := List.nodup_nil
  key := fun p z => nomatch z
  plain := rfl
  led := by
    show _ ∨ (!w.params.followText "set-order") = true
    cases w.params.followText "set-order" <;> simp
  room := by
    show 0 * 5 < 7 * 3
    decide
theorem new_laid {P : Program} {w : World} {H : Hp} {h : Heap} {ck : CK} (big : sysModules < h.objs.size) : ObjOk P w (upd H h.objs.size (newH w h.objs.size ck)) (h.push (newO w ck)) h.objs.size (newH w h.objs.size ck) := by
  cases ck with
  | li => exact ⟨Nat.zero_le _, [], 0, .nil, Heap.get?_push_size _ rfl⟩
  | di => exact dk_empty h big
  | se => exact sn_new (set_fresh (Heap.get?_push_size _ rfl))
theorem KeyL.perm1 {w : World} {K : KF} {F : Hp} : ∀ {L L' : List (NestedKey × Addr)}, L'.Perm L → ∀ {ds : List D}, KeyL w K F L ds → ∃ ds', ds'.Perm ds ∧ KeyL w K F L' ds' := by
  intro L L' p
  induction p with
  | nil => intro ds h; exact ⟨ds, .refl _, h⟩
  | cons x _ ih =>
    intro ds h
    cases h with
    | cons a b c =>
      obtain ⟨ds', p', h'⟩ := ih c
      exact ⟨_ :: ds', p'.cons _, .cons a b h'⟩
  | swap x y l =>
    intro ds h
    cases h with
    | cons a b c => cases c with
      | cons a' b' c' => exact ⟨_ :: _ :: _, .swap _ _ _, .cons a' b' (.cons a b c')⟩
  | trans _ _ ih1 ih2 =>
    intro ds h
    obtain ⟨d1, p1, h1⟩ := ih2 h
    obtain ⟨d2, p2, h2⟩ := ih1 h1
    exact ⟨d2, p2.trans p1, h2⟩
theorem KeyL.perm {w : World} {K : KF} {F : Hp} {L L' : List (NestedKey × Addr)} {ds : List D} (h : KeyL w K F L ds) (p : L'.Perm L) : ∃ ds', ds'.Perm ds ∧ KeyL w K F L' ds' := KeyL.perm1 p h
theorem set_type {w : World} {s : Shared} {a : Addr} {L : List (NestedKey × Addr)} {es : Array (Int × Value)} {ep : Nat} {t : SetTable} (R : SetN w s.heap a L es ep t) : s.TypeIs (.ref a) "set" := let ⟨o, ho, hx, _⟩ := R.ob; ⟨o, ho, hx.1⟩
section
variable {X : Cx} {e1 e2 : Expr} {gens : List Comprehension} {scope : Scope} {pos : Pos} {d : Nat} {D : Addr}
/-- a member put into a set -/
theorem set_add {pins : List (Addr × Obj)} {σ : L2.St} {H : Hp} {s : Shared} {E : Value → Shared → Prop} {L : List (NestedKey × Addr)} {ds : List Lk.D} {k : NestedKey} {b : Addr} {dd : Lk.D} {Q : Value → Shared → Prop} (hu : X.A.units + 65 < cLine) (I : Inv X pins σ H s) (hD : H D = some (SN X.w D L)) (kl : KeyL X.w X.K H L ds)
    (rp : Rp X.w X.K H (.ref b) dd) (hk : nk dd = some k) (hd : k.depth ≤ 8) (hn : numK k = true) (hz : L.length + 1 < 4915)
    (q : ∀ L' s', (k ∈ L.map (·.1) → L' = L) → (k ∉ L.map (·.1) → L'.Perm ((k, b) :: L)) → Inv X pins σ (upd H D (SN X.w D L')) s' → Q .none s') : wpAny (model X.prog X.w) X.A (call (.builtin "set.add") [.ref D, .ref b]) Q E s := by
  obtain ⟨es, ep, t, R⟩ := set_get I hD kl
  have hx : KeyAt s.heap k b := ⟨Rp.key I rp rfl hk, hd, hn⟩
  refine wpAny_call_entry F.slot_set_add (set_type R) F.entry_set_add ?_ (F.args_set_add_2 _ _)
  unfold Builtin.«set.add» Builtin.Frozenset.oneOther
  simp only [List.isEmpty_nil, bind_assoc]
  unfold Builtin.Frozenset.addrOf setAdd
  refine wpAny_bind (wpAny_pure ?_)
  try dsimp only
  refine wpAny_bind (wpAny_pure ?_)
  try dsimp only
  refine wpAny_bind (wpAny_holding (wpAny_bind ((nestedKind X.prog X.w).pyHash (by show X.A.units + 1 + 8 < cLine; omega) hx.is ?_)))
  refine add_key (s := { s with toks := s.toks + (nestedKind X.prog X.w).draws k }) R hx (by show X.A.units + 1 + 8 < cLine; omega) hz fun bb h' L' es' ep' t' sb R' c1 c2 => ?_
  show wpAny _ _ (ret Value.none) _ _ _
  refine wpAny_pure ⟨_, rfl, q L' _ c1 c2 ?_⟩
  have he : ∃ u, h'.get? D = some u := let ⟨o, ho, _⟩ := R'.ob; ⟨o, ho⟩
  exact I.write (e := D) (t' := s.toks + (nestedKind X.prog X.w).draws k) (by rw [hD]; exact SN_mut) (.inl rfl) (fun c u hc hq => (sb.2 c hc).trans hq) he (sn_new R')
theorem pin_set {te : TE} (hx : X.xe = fun _ _ => False) (hu : X.A.units + 65 < cLine) (hd : gens[d + 1]? = none) (he : PE X e1 te) : PIn X .se e1 e2 gens scope pos d D [] (fun σ H Q => te σ H fun y H4 => ∃ L ds k b dd, H4 D = some (SN X.w D L) ∧ KeyL X.w X.K H4 L ds ∧ y = .ref b ∧ Rp X.w X.K H4 (.ref b) dd ∧
    nk dd = some k ∧ k.depth ≤ 8 ∧ numK k = true ∧ L.length + 1 < 4915 ∧ ∀ L', (k ∈ L.map (·.1) → L' = L) → (k ∉ L.map (·.1) → L'.Perm ((k, b) :: L)) → Q (upd H4 D (SN X.w D L'))) := by
  refine ⟨fun pins s σ H Q I h => ?_⟩
  unfold InW
  rw [hd]
  have r0 := he.run pins s σ H _ I h
  rw [hx] at r0
  show wpAny _ _ (do let v ← eval e1 X.env; standAt e1.pos; let _ ← call (.builtin "set.add") [.ref D, v]) _ _ s
  refine wpAny_bind (thnF r0 fun u s1 ⟨y, H1, I1, r1, L, ds, k, b, dd, g1, g2, g3, g4, g5, g6, g7, g8, q⟩ => ?_)
  subst g3
  cases r1
  exact wpAny_bind (wpAny_standAt (wpAny_bind (set_add hu I1 g1 g2 g4 g5 g6 g7 g8 fun L' s2 c1 c2 I2 => wpAny_pure ⟨_, I2, q L' c1 c2⟩)))
end
section
variable {X : Cx}
/-- the whole: the first clause's source stands in the def's own context -/
def tLcN (wi : TI) (g : TG) (tt : TT) (t : Addr → TIn) (vs : List Nat) (new : Addr → HO) : TE := fun σ H Q => wi σ H fun J H1 => ∀ D, H1 D = none → ∃ W : Nat → Nat → Hp → Prop, (∃ m, W 0 m (upd H1 D (new D))) ∧ ∀ i m H, W i m H →
  (J.stop i H ∧ Q (.ref D) H) ∨ (J.go i H ∧ ∃ Nx : Hp → Prop, (∀ H', Nx H' → ∃ m', m' < m ∧ W (i + 1) m' H') ∧ ∀ x H', J.yld i H x H' → g x (wipe σ vs) H' fun σ2 H2 => wipe σ2 vs = wipe σ vs ∧ tt σ2 H2 fun b H3 =>
    if b = true then t D σ2 H3 Nx else Nx H3)
theorem lcN_core {ck : CK} {pins : List (Addr × Obj)} {s : Shared} {σ : L2.St} {H : Hp} {Q : VK} {e1 e2 tg iter : Expr} {ifs : List Expr} {gs : List Comprehension} {scope : Scope} {own : List (Str × Nat)} {vs' : List Nat} {pos pos' : Pos} {wi : TI} {g : TG} {tt : TT} {t : Addr → TIn} {use : Option (Value → Sem Unit)} {Qf : Value → Shared → Prop}
    (hc : X.calm = true) (hN : X.N.Nodup) (I : Inv X pins σ H s) (hi : PI X tg iter wi) (ok : BlkOk X.N X.env.scope scope own) (ha : ∀ g', gs[0]? = some g' → g'.is_async = 0) (hv : ∀ i ∈ vs', i ∈ own.map (·.2))
    (hg : ∀ (s : Shared) (H : Hp) (C : Addr) (cl : List (Str × Addr)) (fp : List Addr), PG (X.blk s H scope (compEnvC scope cl C X.env) fp) tg g) (ht : ∀ (s : Shared) (H : Hp) (C : Addr) (cl : List (Str × Addr)) (fp : List Addr), PTs (X.blk s H scope (compEnvC scope cl C X.env) fp) ifs tt)
    (hin : ∀ (s : Shared) (H : Hp) (C : Addr) (cl : List (Str × Addr)) (fp : List Addr) (D : Addr), PIn (X.blk s H scope (compEnvC scope cl C X.env) fp) ck e1 e2 (⟨tg, iter, ifs, 0⟩ :: gs) scope pos 0 D vs' (t D)) (hs : ∀ x, foldedSetIterable iter X.env x = pure x)
    (h : tLcN wi g tt t (own.map (·.2)) (fun D => newH X.w D ck) σ H Q)
    (hRR : ∀ D C s' m H', Inv X pins σ H' s' → Q (.ref D) H' → s'.heap.Ns C m → FpOk X pins H' C → compPost (model X.prog X.w) X.A X.xe use Qf (.ref D) C (.ok .next) s') :
    wpAny (model X.prog X.w) X.A (comprehension (mkC ck e1 e2 (⟨tg, iter, ifs, 0⟩ :: gs) scope pos) scope X.env pos' (newA ck) false (eval iter X.env) use) Qf X.xe s := by
  have hfree : ∀ y ∈ scope.names, y.2 = .free → ∃ c, X.env.cells.lookup y.1 = some c := fun y hy e => by
    rcases ok.free y hy e with k | k
    · exact I.ok.has _ (.inl k)
    · exact I.ok.has _ (.inr k)
  refine wpAny_comprehension_free (use := use) (show clausesOf (mkC ck e1 e2 (⟨tg, iter, ifs, 0⟩ :: gs) scope pos) = ⟨tg, iter, ifs, 0⟩ :: gs from by cases ck <;> rfl) hs (closure_ok hfree) ok.kind (fun y hy e => by rw [ok.uniq y hy, e])
    (thn (hi.run pins s σ H _ I h) fun xv s1 hx => thn hx fun itv s2 h2 => ?_)
  obtain ⟨it, fp, tn, J, H2, e, I2, T, st2, f2, q⟩ := h2
  subst e
  refine new_ok (newEnv_comp ?_)
  generalize hD : s2.heap.objs.size = D
  have hDn : H2 D = none := I2.hok.fresh (Nat.le_of_eq hD)
  obtain ⟨W, ⟨m0, w0⟩, turn⟩ := q D hDn
  generalize hs3 : ({ s2 with heap := s2.heap.push (newO X.w ck) } : Shared) = s3
  have I3 : Inv X pins σ (upd H2 D (newH X.w D ck)) s3 := by
    rw [← hs3]
    refine I2.laid (t' := s2.toks) (fun b o e => Heap.get?_push_of_some _ e) (Nat.le_of_eq hD) ?_
    rw [← hD]
    exact new_laid I2.big
  have h3 : s3.heap = s2.heap.push (newO X.w ck) := by rw [← hs3]
  have sz : ∀ b ∈ fp, b < s2.heap.objs.size := fun b hb => by
    obtain ⟨o, e, _⟩ := T.obj _ _ st2 b hb
    exact Heap.lt_size e
  have f3 : ∀ b ∈ fp, FpOk X pins (upd H2 D (newH X.w D ck)) b ∧ b < s3.heap.objs.size := fun b hb => by
    have hlt := sz b hb
    refine ⟨⟨?_, (f2 b hb).2⟩, by rw [h3, Heap.size_push]; exact Nat.lt_succ_of_lt hlt⟩
    rw [upd_ne (by rw [← hD]; exact Nat.ne_of_lt hlt)]
    exact (f2 b hb).1
  have st3 : tn 0 s3.heap := T.keep _ _ _ st2 fun b _ o e => by rw [h3]; exact Heap.get?_push_of_some _ e
  have I4 := block_start I3 ok hN f3
  have pg := hg s3 (upd H2 D (newH X.w D ck)) s3.heap.objs.size (cellsFrom (s3.heap.objs.size + 1) scope.names (cloFrom X.env.cells scope.names [])) fp
  have pt := ht s3 (upd H2 D (newH X.w D ck)) s3.heap.objs.size (cellsFrom (s3.heap.objs.size + 1) scope.names (cloFrom X.env.cells scope.names [])) fp
  have pin := hin s3 (upd H2 D (newH X.w D ck)) s3.heap.objs.size (cellsFrom (s3.heap.objs.size + 1) scope.names (cloFrom X.env.cells scope.names [])) fp D
  show codeAny _ _ (.compStart (mkC ck e1 e2 (⟨tg, iter, ifs, 0⟩ :: gs) scope pos) 0 (.ref it) (.ref D) (compEnvC scope (cellsFrom (s3.heap.objs.size + 1) scope.names (cloFrom X.env.cells scope.names [])) s3.heap.objs.size X.env)) (compPost (model X.prog X.w) X.A X.xe use Qf (.ref D) s3.heap.objs.size) { s3 with heap := pushCells (s3.heap.push { cls := .type "dict", data := .dict #[] }) scope.names }
  have nfp : ∀ b ∈ fp, (upd H2 D (newH X.w D ck)) b = none := fun b hb => (f3 b hb).1.1
  generalize hce : compEnvC scope (cellsFrom (s3.heap.objs.size + 1) scope.names (cloFrom X.env.cells scope.names [])) s3.heap.objs.size X.env = ce at I4 pg pt pin ⊢
  have cL : ce.locals = s3.heap.objs.size := by subst hce; rfl
  generalize hH3 : upd H2 D (newH X.w D ck) = H3 at I3 I4 pg pt pin w0 nfp f3
  generalize hs4 : ({ s3 with heap := pushCells (s3.heap.push { cls := .type "dict", data := .dict #[] }) scope.names } : Shared) = s4 at I4 ⊢
  have st4 : tn 0 s4.heap := T.keep _ _ _ st3 fun b _ o e => by rw [← hs4]; exact pushCells_keeps _ _ _ _ (Heap.get?_push_of_some _ e)
  have stat : ∀ {σ' : L2.St} {H' : Hp} {s' : Shared}, Inv (X.blk s3 H3 scope ce fp) [] σ' H' s' → (∀ b ∈ fp, H' b = none) → ∀ b ∈ fp, FpOk (X.blk s3 H3 scope ce fp) [] H' b := fun {σ' H' s'} I' hn b hb =>
    ⟨hn b hb, (I'.ok.exf b hb).1, I'.ok.exfs b hb, .inl hb, fun x c e => (I'.ok.exf b hb).2 x c e, fun p hp => absurd (show p ∈ ([] : List (Addr × Obj)) ++ [] from hp) (by simp)⟩
  have loop : codeAny (model X.prog X.w) X.A (.compLoop (mkC ck e1 e2 (⟨tg, iter, ifs, 0⟩ :: gs) scope pos) 0 (.ref it) (.ref D) ce) (compPost (model X.prog X.w) X.A X.xe use Qf (.ref D) s3.heap.objs.size) s4 := by
    refine compLoopG (gens := ⟨tg, iter, ifs, 0⟩ :: gs) rfl ha (fun n s' => ∃ i H', Inv (X.blk s3 H3 scope ce fp) [] (wipe σ (own.map (·.2))) H' s' ∧ tn i s'.heap ∧ (∀ b ∈ fp, H' b = none) ∧ W i n H') ?_ m0 ⟨0, H3, I4, st4, nfp, w0⟩
    rintro n s5 ⟨i, H5, I5, st5, n5, w5⟩
    rcases turn i n H5 w5 with ⟨stop, qq⟩ | ⟨go, Nx, hNx, step⟩
    · have td := T.done (X.blk s3 H3 scope ce fp) rfl rfl rfl hc i [] s5 _ H5 (fun _ _ => False) I5 (stat I5 n5) st5 stop
      refine thnF td fun r s6 ⟨hr, I6⟩ => ?_
      subst hr
      have I7 : Inv X pins σ H5 s6 := I3.call' (ch := fp) I6.os I6.base I6.hok I6.bare fun b hb => ⟨(f3 b hb).1.2.2.2.1, (f3 b hb).1.2.1, (f3 b hb).1.2.2.2.2.1, (f3 b hb).1.2.2.2.2.2⟩
      have nC : H5 s3.heap.objs.size = none := by
        have z : H5 ce.locals = none := I6.free
        rw [cL] at z
        exact z
      obtain ⟨m, hn, _⟩ := I6.loc
      have hn : s6.heap.Ns ce.locals m := hn
      rw [cL] at hn
      exact hRR D s3.heap.objs.size s6 m H5 I7 qq hn (I3.fpOk (Nat.le_refl _) nC)
    · have ti := T.item (X.blk s3 H3 scope ce fp) rfl rfl rfl hc i [] s5 _ H5 (fun _ _ => False) I5 (stat I5 n5) st5 go
      refine thnF ti fun r s6 ⟨u, hr, h6⟩ => ?_
      subst hr
      refine thnF h6 fun _ s7 ⟨x, H7, I7, r7, y7, st7, n7⟩ => ?_
      have I7' := I7.pinned (stat I7 n7) (T.obj _ _ st7)
      refine thnF (pg.run _ s7 _ H7 x u _ I7' r7 (step x H7 y7)) fun _ s8 ⟨σ8, H8, I8, hw8, q8⟩ => ?_
      refine thnF (pt.run _ s8 σ8 H8 _ I8 q8) fun b s9 ⟨H9, I9, q9⟩ => ?_
      have fin : ∀ {σ9 : L2.St} {s' : Shared} {H' : Hp}, Inv (X.blk s3 H3 scope ce fp) ([] ++ pinsAt fp s7.heap) σ9 H' s' → (wipe σ (own.map (·.2))).length = σ9.length → (∀ (j : Nat) v, (wipe σ (own.map (·.2)))[j]? = some (some v) → σ9[j]? = some (some v)) → Nx H' →
          ∃ m, m < n ∧ ∃ i H', Inv (X.blk s3 H3 scope ce fp) [] (wipe σ (own.map (·.2))) H' s' ∧ tn i s'.heap ∧ (∀ b ∈ fp, H' b = none) ∧ W i m H' := fun {σ9 s' H'} I' hl hk nx => by
        obtain ⟨m', hm, w'⟩ := hNx H' nx
        have pin' : ∀ b ∈ fp, ∀ o, s7.heap.get? b = some o → s'.heap.get? b = some o ∧ H' b = none := fun b hb o e =>
          let z := I'.pin (b, o) (List.mem_append_right _ (List.mem_append_right _ (mem_pinsAt hb e)))
          ⟨z.1, z.2.1⟩
        refine ⟨m', hm, i + 1, H', (I'.unpinned (pins := [])).weak hl hk, T.keep _ _ _ st7 fun b hb o e => (pin' b hb o e).1, fun b hb => ?_, w'⟩
        obtain ⟨o, e, _⟩ := T.obj _ _ st7 b hb
        exact (pin' b hb o e).2
      cases b with
      | false =>
        simp only [Bool.false_eq_true, if_false] at q9 ⊢
        refine fin I9 (by rw [← hw8, wipe_length]) (fun j v e => ?_) q9
        rw [← hw8] at e
        exact (wipe_some e).1
      | true =>
        simp only [if_true] at q9 ⊢
        have q10 := pin.run _ s9 σ8 H9 _ I9 q9
        refine InW_mono q10 fun s' ⟨H', I', nx⟩ => ?_
        refine fin I' (by rw [← hw8, wipe_length, wipe_length]) (fun j v e => ?_) nx
        rw [← hw8] at e
        obtain ⟨e1, e2⟩ := wipe_some e
        rw [wipe_out fun z => e2 (hv j z)]
        exact e1
  refine compStartG (gens := ⟨tg, iter, ifs, 0⟩ :: gs) rfl loop ?_
  exact (T.self X.A 0 s4 _ _ st4 loop)
/-- as a value -/
theorem pe_lcN {ck : CK} {e1 e2 tg iter : Expr} {ifs : List Expr} {gs : List Comprehension} {scope : Scope} {own : List (Str × Nat)} {vs' : List Nat} {pos : Pos} {wi : TI} {g : TG} {tt : TT} {t : Addr → TIn} (hc : X.calm = true) (hN : X.N.Nodup) (hi : PI X tg iter wi) (ok : BlkOk X.N X.env.scope scope own) (ha : ∀ g', gs[0]? = some g' → g'.is_async = 0) (hv : ∀ i ∈ vs', i ∈ own.map (·.2))
    (hg : ∀ (s : Shared) (H : Hp) (C : Addr) (cl : List (Str × Addr)) (fp : List Addr), PG (X.blk s H scope (compEnvC scope cl C X.env) fp) tg g) (ht : ∀ (s : Shared) (H : Hp) (C : Addr) (cl : List (Str × Addr)) (fp : List Addr), PTs (X.blk s H scope (compEnvC scope cl C X.env) fp) ifs tt)
    (hin : ∀ (s : Shared) (H : Hp) (C : Addr) (cl : List (Str × Addr)) (fp : List Addr) (D : Addr), PIn (X.blk s H scope (compEnvC scope cl C X.env) fp) ck e1 e2 (⟨tg, iter, ifs, 0⟩ :: gs) scope pos 0 D vs' (t D)) (hs : ∀ x, foldedSetIterable iter X.env x = pure x) :
    PE X (mkC ck e1 e2 (⟨tg, iter, ifs, 0⟩ :: gs) scope pos) (tLcN wi g tt t (own.map (·.2)) (fun D => newH X.w D ck)) := by
  refine ⟨fun pins s σ H Q I h => ?_⟩
  have ev : eval (mkC ck e1 e2 (⟨tg, iter, ifs, 0⟩ :: gs) scope pos) X.env = comprehension (mkC ck e1 e2 (⟨tg, iter, ifs, 0⟩ :: gs) scope pos) scope X.env (firstIterPos (⟨tg, iter, ifs, 0⟩ :: gs) pos) (newA ck) false (eval iter X.env) := by
    cases ck <;> rfl
  rw [ev]
  refine lcN_core hc hN I hi ok ha hv hg ht hin hs h fun D C s' m H' I' q hn f => ⟨m, hn, fun h'' sb => ?_⟩
  obtain ⟨f0, f1, f2, f3, f4, f5⟩ := f
  exact ⟨.ref D, H', I'.turned (t' := s'.toks) (fun b o hb e => (sb.2 b hb).trans e) f0 f1 f3 f4 f5, rfl, q⟩
end
end Lk
end
section
set_option linter.all false
set_option maxRecDepth 100000
set_option maxHeartbeats 2000000
/-! Targets, and what a loop goes over. -/
namespace Lk
open PySem PySem.Spec PyProof.Rows L2
section
variable {X : Cx}
def wpG (X : Cx) (tg : Expr) : TG := fun v σ H Q => ∀ (pins : List (Addr × Obj)) (s : Shared) (u : Value), Inv X pins σ H s → RelV v u → wpAny (model X.prog X.w) X.A (assign tg X.env u) (fun _ s' => ∃ σ' H', Inv X pins σ' H' s' ∧ Q σ' H') X.xe s
theorem pg_wp {tg : Expr} : PG X tg (wpG X tg) := ⟨fun pins s σ H v u Q I r h => h pins s u I r⟩
theorem wpG_of {tg : Expr} {t : TG} {v : V} {σ : L2.St} {H : Hp} {Q : L2.St → Hp → Prop} (p : PG X tg t) (h : t v σ H Q) : wpG X tg v σ H Q := fun pins s u I r => p.run pins s σ H v u Q I r h
theorem setN_eq : ∀ {E E' : En} {i : Nat} {b : B}, setN E i b = some E' → i < E.length ∧ E' = E.set i (some b)
  | [], _, _, _, h => by cases h
  | x :: r, E', 0, b, h => by cases h; exact ⟨Nat.zero_lt_succ _, rfl⟩
  | x :: r, E', i + 1, b, h => by
    simp only [setN, Option.map_eq_some_iff] at h
    obtain ⟨E1, h1, rfl⟩ := h
    obtain ⟨h2, rfl⟩ := setN_eq h1
    exact ⟨Nat.succ_lt_succ h2, rfl⟩
variable {w : World} {K : KF} {sp : Option Addr} {E : En} {σ : L2.St} {F H : Hp} {n : Int} {fp : Nat → List Addr}
/-- a name is set -/
theorem EnvRel.set {i : Nat} {b : B} {v : V} {A : List Addr} (h : EnvRel w K sp F H E σ fp) (hi : i < E.length) (rb : BRel w K sp F H v b A) (hA : ∀ a ∈ A, F a = none ∧ H a ≠ none ∧ sp ≠ some a) (hd : ∀ j, j ≠ i → ∀ a ∈ A, a ∉ fp j) :
    EnvRel w K sp F H (E.set i (some b)) (σ.set i (some v)) (fun j => if j = i then A else fp j) where
  len := by rw [List.length_set, List.length_set]; exact h.len
  rel := fun j b' hb => by
    by_cases e : j = i
    · subst e
      rw [List.getElem?_set_self hi] at hb
      cases hb
      refine ⟨v, ?_, ?_⟩
      · rw [List.getElem?_set_self (by rw [h.len]; exact hi)]
      · rw [if_pos rfl]; exact rb
    · rw [List.getElem?_set_ne (Ne.symm e)] at hb
      obtain ⟨v', h1, h2⟩ := h.rel j b' hb
      refine ⟨v', ?_, ?_⟩
      · rw [List.getElem?_set_ne (Ne.symm e)]; exact h1
      · rw [if_neg e]; exact h2
  out := fun j a ha => by
    by_cases e : j = i
    · subst e; rw [if_pos rfl] at ha; exact hA a ha
    · rw [if_neg e] at ha; exact h.out j a ha
  dis := fun j k hjk a ha hk => by
    by_cases e : j = i
    · subst e
      rw [if_pos rfl] at ha
      rw [if_neg (Ne.symm hjk)] at hk
      exact hd k (Ne.symm hjk) a ha hk
    · rw [if_neg e] at ha
      by_cases e2 : k = i
      · subst e2
        rw [if_pos rfl] at hk
        exact hd j e a hk ha
      · rw [if_neg e2] at hk
        exact h.dis j k hjk a ha hk
theorem EnvRel.setIm {i : Nat} {d : D} {v : V} (h : EnvRel w K sp F H E σ fp) (hi : i < E.length) (r : Rp w K F v d) : EnvRel w K sp F H (E.set i (some (.im d))) (σ.set i (some v)) (fun j => if j = i then [] else fp j) :=
  h.set hi (.im r) (fun a z => nomatch z) (fun j _ a z => nomatch z)
theorem wipe_set {σ : L2.St} {i : Nat} {x : Option V} : ∀ {vs : List Nat}, i ∈ vs → wipe (σ.set i x) vs = wipe σ vs
  | [], h => nomatch h
  | v :: vs, h => by
    have g : ∀ (vs : List Nat) (σ : L2.St) (i : Nat) (x : Option V), (wipe (σ.set i x) vs).set i none = (wipe σ vs).set i none := by
      intro vs
      induction vs with
      | nil => intro σ i x; show (σ.set i x).set i none = _; rw [List.set_set]; rfl
      | cons v vs ih =>
        intro σ i x
        show ((wipe (σ.set i x) vs).set v none).set i none = ((wipe σ vs).set v none).set i none
        by_cases e : v = i
        · subst e; rw [ih]
        · rw [List.set_comm _ _ e, ih, List.set_comm _ _ (Ne.symm e)]
    show (wipe (σ.set i x) vs).set v none = (wipe σ vs).set v none
    by_cases e : i = v
    · subst e; exact g vs σ i x
    · rw [wipe_set ((List.mem_cons.mp h).resolve_left e)]
theorem wipe_idem {σ : L2.St} : ∀ {us vs : List Nat}, (∀ u ∈ us, u ∈ vs) → wipe (wipe σ us) vs = wipe σ vs
  | [], _, _ => rfl
  | u :: us, vs, h => by
    show wipe ((wipe σ us).set u none) vs = _
    rw [wipe_set (h u (List.mem_cons_self ..)), wipe_idem fun x hx => h x (List.mem_cons_of_mem _ hx)]
theorem wipeE_some {E : En} {i : Nat} {b : B} : ∀ {vs : List Nat}, (wipeE E vs)[i]? = some (some b) → E[i]? = some (some b) ∧ i ∉ vs
  | [], h => ⟨h, by simp⟩
  | v :: vs, h => by
    unfold wipeE at h
    by_cases hi : v = i
    · subst hi
      by_cases hv : v < (wipeE E vs).length
      · rw [List.getElem?_set_self hv] at h; cases h
      · rw [List.getElem?_eq_none (by simpa using hv)] at h; cases h
    · rw [List.getElem?_set_ne hi] at h
      obtain ⟨h1, h2⟩ := wipeE_some h
      exact ⟨h1, by simp only [List.mem_cons, not_or]; exact ⟨fun e => hi e.symm, h2⟩⟩
theorem wipeE_length (E : En) : ∀ vs : List Nat, (wipeE E vs).length = E.length
  | [] => rfl
  | v :: vs => by unfold wipeE; rw [List.length_set, wipeE_length E vs]
theorem EnvRel.wipe (h : EnvRel w K sp F H E σ fp) (vs : List Nat) : EnvRel w K sp F H (wipeE E vs) (L2.wipe σ vs) fp where
  len := by rw [wipe_length, wipeE_length]; exact h.len
  rel := fun i b hb => by
    obtain ⟨h1, h2⟩ := wipeE_some hb
    obtain ⟨v, e, r⟩ := h.rel i b h1
    exact ⟨v, by rw [wipe_out h2]; exact e, r⟩
  out := h.out
  dis := h.dis
/-- several names, from a row of things that don't change -/
theorem g_names {H2 : Hp} (hN : X.N.Nodup) {sc : Scope} (hsc : ∀ x, locB sc x = true → LocOk X x) : ∀ {is : List Nat} {es : List Expr} {vs : List V} {ds : List D} {E E' : En} {σ : L2.St} {fp : Nat → List Addr} {Q : L2.St → Hp → Prop},
    tgNames X.N sc is es = true → RpA w K F vs ds → setNs E is ds = some E' → EnvRel w K sp F H2 E σ fp →
    (∀ σ' fp', EnvRel w K sp F H2 E' σ' fp' → (∀ us, (∀ i ∈ is, i ∈ us) → L2.wipe σ' us = L2.wipe σ us) → (∀ i, ∀ a ∈ fp' i, a ∈ fp i) → Q σ' H) →
    ∃ t : TGs, PGs X es t ∧ t vs σ H Q ∧ (assignEach es X.env).length = es.length ∧ (assignEach es X.env).findIdx? (·.1) = none ∧ vs.length = es.length
  | [], [], vs, ds, E, E', σ, fp, Q, _, r, h, env, q => by
    cases ds with
    | nil =>
      cases r
      cases h
      exact ⟨_, pgs_nil, ⟨rfl, q σ fp env (fun us _ => rfl) fun _ _ h => h⟩, rfl, rfl, rfl⟩
    | cons d ds => cases h
  | i :: is, e :: es, vs, ds, E, E', σ, fp, Q, hm, r, h, env, q => by
    cases ds with
    | nil => cases h
    | cons d ds =>
      cases r with
      | @cons v vs _ _ r1 r2 =>
        unfold tgNames at hm
        rw [Bool.and_eq_true] at hm
        obtain ⟨hm1, hm2⟩ := hm
        split at hm1
        · rename_i x hx
          obtain ⟨p, rfl⟩ := asName_some hx
          rw [Bool.and_eq_true, beq_iff_eq] at hm1
          obtain ⟨hi, hl⟩ := hm1
          have ho := hsc x hl
          unfold setNs at h
          split at h
          · rename_i E1 h1
            obtain ⟨hlt, rfl⟩ := setN_eq h1
            obtain ⟨t, g1, g2, g3, g4, g5⟩ := g_names hN hsc hm2 r2 h (env.setIm hlt r1) (Q := Q) fun σ' fp' env' hw hsub => q σ' fp' env' (fun us hus => by
              rw [hw us fun j hj => hus j (List.mem_cons_of_mem _ hj), wipe_set (hus i (List.mem_cons_self ..))]) fun j a ha => by
              have z := hsub j a ha
              by_cases e : j = i
              · rw [if_pos e] at z; cases z
              · rw [if_neg e] at z; exact z
            refine ⟨_, pgs_cons (pg_name hN hi ho.1 ho.2) g1, ⟨v, vs, rfl, g2⟩, ?_, ?_, by rw [List.length_cons, List.length_cons, g5]⟩
            · show (assignEach es X.env).length + 1 = es.length + 1
              rw [g3]
            · show List.findIdx? (·.1) ((false, assign (.Name x p) X.env) :: assignEach es X.env) = none
              rw [List.findIdx?_cons, g4]
              rfl
          · cases h
        · cases hm1
  | [], e :: es, _, _, _, _, _, _, _, hm, _, _, _, _ => by cases hm
  | i :: is, [], _, _, _, _, _, _, _, hm, _, _, _, _ => by cases hm
theorem fzH_nil {F H : Hp} : fzH F H [] = F := by
  funext a
  exact fz_out (fun z => by cases z)
theorem g_ok {sp : Option Addr} {E E' : En} {σ : L2.St} {F H : Hp} {n : Int} {fp : Nat → List Addr} (hc : X.calm = true) (hN : X.N.Nodup) {sc : Scope} (hsc : ∀ x, locB sc x = true → LocOk X x) {tg : Tg} {e : Expr} {r : R} {v : V} {A : List Addr} {Q : L2.St → Hp → Prop}
    (hm : mtG X.N sc tg e = true) (env : EnvRel X.w X.K sp F H E σ fp) (k : Ok sp F H n) (rr : RRel X.w X.K sp F H v r A) (hd : ∀ j, ∀ a ∈ A, a ∉ fp j) (h : bindT E tg r = some E')
    (q : ∀ σ' fp', EnvRel X.w X.K sp F H E' σ' fp' → (∀ us, (∀ i ∈ tgVars tg, i ∈ us) → L2.wipe σ' us = L2.wipe σ us) → (∀ i, ∀ a ∈ fp' i, a ∈ fp i ∨ a ∈ A) → Q σ' H) : wpG X e v σ H Q := by
  have hz := fun {i : Nat} (us : List Nat) (hus : ∀ j ∈ [i], j ∈ us) => wipe_set (σ := σ) (x := some v) (hus i (List.mem_singleton.mpr rfl))
  have nm : ∀ {i x p}, X.N[i]? = some x → LocOk X x → ∀ {b : B} {A' : List Addr}, i < E.length → E' = E.set i (some b) → BRel X.w X.K sp F H v b A' → (∀ a ∈ A', F a = none ∧ H a ≠ none ∧ sp ≠ some a) → (∀ j, ∀ a ∈ A', a ∉ fp j) →
      (∀ σ' fp', EnvRel X.w X.K sp F H E' σ' fp' → (∀ us, (∀ j ∈ [i], j ∈ us) → L2.wipe σ' us = L2.wipe σ us) → (∀ i, ∀ a ∈ fp' i, a ∈ fp i ∨ a ∈ A') → Q σ' H) → wpG X (.Name x p) v σ H Q := by
    intro i x p hi ho b A' hlt hE rb hA hd' q
    subst hE
    refine wpG_of (pg_name hN hi ho.1 ho.2) (q _ _ (env.set hlt rb hA fun j _ => hd' j) (fun us hus => hz us hus) fun j a ha => ?_)
    have ha : a ∈ (if j = i then A' else fp j) := ha
    by_cases e : j = i
    · rw [if_pos e] at ha; exact .inr ha
    · rw [if_neg e] at ha; exact .inl ha
  unfold bindT at h
  split at h
  · rename_i i t
    obtain ⟨hlt, hE⟩ := setN_eq h
    unfold mtG at hm
    simp only at hm
    split at hm
    · rename_i x hx
      obtain ⟨p, rfl⟩ := asName_some hx
      rw [Bool.and_eq_true, beq_iff_eq] at hm
      have hA := rr.there
      cases rr with
      | fr ow _ nd => exact nm hm.1 (hsc _ hm.2) hlt hE (.mu ow nd) hA hd q
    · cases hm
  · rename_i i r hnf
    rw [Option.bind_eq_some_iff] at h
    obtain ⟨d, h1, h2⟩ := h
    obtain ⟨hlt, hE⟩ := setN_eq h2
    unfold mtG at hm
    simp only at hm
    split at hm
    · rename_i x hx
      obtain ⟨p, rfl⟩ := asName_some hx
      rw [Bool.and_eq_true, beq_iff_eq] at hm
      have rp := rr.fix k h1
      have hA : A = [] := by
        cases rr with
        | fr _ _ _ => exact absurd rfl (hnf _)
        | _ => rfl
      rw [hA, fzH_nil] at rp
      exact nm hm.1 (hsc _ hm.2) hlt hE (.im rp) (fun a z => nomatch z) (fun j a z => nomatch z) fun σ' fp' a b c => q σ' fp' a b fun i x hx => .inl ((c i x hx).resolve_right fun z => nomatch z)
    · cases hm
  · rename_i is r
    unfold mtG at hm
    simp only at hm
    split at hm
    · rename_i es hes
      obtain ⟨j, p, rfl⟩ := asTup_some hes
      split at h
      · rename_i ds e
        split at h
        · rename_i hk
          obtain ⟨a, vs, rfl, h1, _, g2⟩ := rr.tup k e
          obtain ⟨t, p1, p2, p3, p4, p5⟩ := g_names (H := H) hN hsc hm (g2 hk) h env (Q := Q) fun σ' fp' a b c => q σ' fp' a b fun i x hx => .inl (c i x hx)
          exact wpG_of (pg_tup hc p1 p3 p4) ⟨a, vs, rfl, k.sub.t h1, p5, p2⟩
        · cases h
      · rename_i ds e
        split at h
        · rename_i hk
          obtain ⟨a, vs, rfl, h1, _, g2⟩ := rr.lst k e
          obtain ⟨t, p1, p2, p3, p4, p5⟩ := g_names (H := H) hN hsc hm (g2 hk) h env (Q := Q) fun σ' fp' a b c => q σ' fp' a b fun i x hx => .inl (c i x hx)
          exact wpG_of (pg_lst hc p1 p3 p4) ⟨a, vs, rfl, h1, p5, p2⟩
        · cases h
      · cases h
    · cases hm
/-- a thing that does not change; the names are told over another heap -/
theorem g_im {sp : Option Addr} {E E' : En} {σ : L2.St} {F H H2 : Hp} {n : Int} {fp : Nat → List Addr} (hc : X.calm = true) (hN : X.N.Nodup) {sc : Scope} (hsc : ∀ x, locB sc x = true → LocOk X x) {tg : Tg} {e : Expr} {d : D} {v : V} {Q : L2.St → Hp → Prop}
    (hm : mtG X.N sc tg e = true) (env : EnvRel X.w X.K sp F H2 E σ fp) (k : Ok sp F H n) (rr : Rp X.w X.K F v d) (h : bindT E tg (.im d) = some E')
    (q : ∀ σ' fp', EnvRel X.w X.K sp F H2 E' σ' fp' → (∀ us, (∀ i ∈ tgVars tg, i ∈ us) → L2.wipe σ' us = L2.wipe σ us) → Q σ' H) : wpG X e v σ H Q := by
  cases tg with
  | nm i =>
    have h : (R.im d).fix.bind (fun d => setN E i (.im d)) = some E' := h
    obtain ⟨hlt, rfl⟩ := setN_eq (show setN E i (.im d) = some E' from h)
    unfold mtG at hm
    simp only at hm
    split at hm
    · rename_i x hx
      obtain ⟨p, rfl⟩ := asName_some hx
      rw [Bool.and_eq_true, beq_iff_eq] at hm
      have ho := hsc _ hm.2
      exact wpG_of (pg_name hN hm.1 ho.1 ho.2) (q _ _ (env.setIm hlt rr) fun us hus => wipe_set (hus i (List.mem_singleton.mpr rfl)))
    · cases hm
  | tp is =>
    unfold mtG at hm
    simp only at hm
    split at hm
    · rename_i es hes
      obtain ⟨j, p, rfl⟩ := asTup_some hes
      cases d with
      | tuple ds =>
        have h : setNs E is ds = some E' := h
        cases rr with
        | tup r1 r2 =>
          obtain ⟨t, p1, p2, p3, p4, p5⟩ := g_names (H := H) hN hsc hm r2 h env (Q := Q) fun σ' fp' a b c => q σ' fp' a b
          exact wpG_of (pg_tup hc p1 p3 p4) ⟨_, _, rfl, k.sub.t r1, p5, p2⟩
      | list ds =>
        have h : setNs E is ds = some E' := h
        cases rr with
        | lst r1 r2 =>
          obtain ⟨t, p1, p2, p3, p4, p5⟩ := g_names (H := H) hN hsc hm r2 h env (Q := Q) fun σ' fp' a b c => q σ' fp' a b
          exact wpG_of (pg_lst hc p1 p3 p4) ⟨_, _, rfl, k.sub.l r1, p5, p2⟩
      | _ => cases h
    · cases hm
end
end Lk
end
section
set_option linter.all false
set_option maxRecDepth 100000
set_option maxHeartbeats 2000000
/-! zip of two things, each a list or a tuple: k tells which (true: a list). -/
namespace Lz
open PySem
open PySem.Sem (wp)
def Isq (k : Bool) (h : Heap) (l : Addr) (us : Array Value) : Prop := match k with | true => h.IsList l us | false => h.IsTuple l us
def Ist (k : Bool) (h : Heap) (it l : Addr) (i : Nat) : Prop := match k with | true => h.IsListIter it l i | false => h.IsTupleIter it l i
def nm (k : Bool) : String := match k with | true => "list_iterator" | false => "tuple_iterator"
def itObj (k : Bool) (l : Addr) : Obj := { cls := .type (nm k), data := .fields #[.ref l, .int 0 0] }
theorem Isq.but {k : Bool} {h h' : Heap} {a b : Addr} {us} (x : Isq k h a us) (e : Heap.ExtBut b h h') (n : a ≠ b) : Isq k h' a us := by
  cases k
  · exact Heap.IsTuple.extBut x e n
  · exact Heap.IsList.extBut x e n
theorem Isq.more {k : Bool} {h : Heap} {a : Addr} {us} (x : Isq k h a us) (o : Obj) : Isq k (h.push o) a us := by
  cases k
  · exact Heap.IsTuple.push x o
  · exact Heap.IsList.push x o
theorem Ist.but {k : Bool} {h h' : Heap} {a b l : Addr} {i : Nat} (x : Ist k h a l i) (e : Heap.ExtBut b h h') (n : a ≠ b) : Ist k h' a l i := by
  cases k
  · exact Heap.IsTupleIter.extBut x e n
  · exact Heap.IsListIter.extBut x e n
theorem Ist.at {k : Bool} {h h' : Heap} {a l : Addr} {i : Nat} (x : Ist k h a l i) (e : ∀ o, h.get? a = some o → h'.get? a = some o) : Ist k h' a l i := by
  cases k
  · exact Heap.IsTupleIter.at x e
  · exact Heap.IsListIter.at x e
theorem Ist.obj {k : Bool} {h : Heap} {a l : Addr} {i : Nat} (x : Ist k h a l i) : ∃ o, h.get? a = some o ∧ o.data = .fields #[.ref l, .int i 0] := by
  cases k <;> (obtain ⟨o, e, _, d⟩ := x; exact ⟨o, e, d⟩)
theorem Ist.lt {k : Bool} {h : Heap} {a l : Addr} {i : Nat} (x : Ist k h a l i) : a < h.objs.size := let ⟨_, e, _⟩ := x.obj; Heap.lt_size e
section
variable {prog : Program} {w : World} {A : Around} {E : Value → Shared → Prop} {s : Shared} {k k' : Bool}
theorem nx_item {it l : Addr} {i : Nat} {us} {u : Value} {Q : Value → Shared → Prop} (hi : Ist k s.heap it l i) (hl : Isq k s.heap l us) (hu : us[i]? = some u)
    (hQ : ∀ h', Ist k h' it l (i + 1) → Heap.SameBut it s.heap h' → Q u { s with heap := h' }) : wpAny (model prog w) A (Builtin.SmallTypes.nextOf (.ref it)) Q E s := by
  cases k
  · exact RZ.nextOf_tuple_item hi hl hu hQ
  · exact wpAny_nextOf_list_item hi hl hu hQ
theorem nx_end {it l : Addr} {i : Nat} {us} {Q : Value → Shared → Prop} (hh : A.handled = none) (hi : Ist k s.heap it l i) (hl : Isq k s.heap l us) (hu : us[i]? = none)
    (hE : ∀ h' e, Heap.ExtBut it s.heap h' → (∃ o, h'.get? e = some o ∧ o.cls = .type "StopIteration") → E (.ref e) { s with heap := h' }) : wpAny (model prog w) A (Builtin.SmallTypes.nextOf (.ref it)) Q E s := by
  cases k
  · exact RZ.nextOf_tuple_end hh hi hl hu hE
  · exact wpAny_nextOf_list_end hh hi hl hu hE
theorem it_new {l : Addr} {us} {Q : Value → Shared → Prop} (hl : Isq k s.heap l us) (hQ : Q (.ref s.heap.objs.size) { s with heap := s.heap.push (itObj k l) }) : wpAny (model prog w) A (pyIter (.ref l)) Q E s := by
  cases k
  · exact wpAny_pyIter_tuple hl hQ
  · exact wpAny_pyIter_list hl hQ
theorem step_item {q ti to j j' l l' : Addr} {m m' : Nat} {us us' : Array Value} {u u' a b : Value} {Q : Value → Shared → Prop} (D : ZipApart q ti to j j' l l')
    (hq : IsZip s.heap q ti to .none) (hti : IsPair s.heap ti (.ref j) (.ref j')) (hto : IsPair s.heap to a b)
    (i1 : Ist k s.heap j l m) (i2 : Ist k' s.heap j' l' m') (g1 : Isq k s.heap l us) (g2 : Isq k' s.heap l' us') (e1 : us[m]? = some u) (e2 : us'[m']? = some u')
    (hQ : ∀ h', IsZip h' q ti to (rawInt s.heap.objs.size) → IsPair h' to u u' → Ist k h' j l (m + 1) → Ist k' h' j' l' (m' + 1) → IsPair h' s.heap.objs.size u u' → h'.objs.size = s.heap.objs.size + 1 →
      (∀ c o, c ≠ q → c ≠ to → c ≠ j → c ≠ j' → s.heap.get? c = some o → h'.get? c = some o) → Q (.ref s.heap.objs.size) { s with heap := h' }) :
    wpAny (model prog w) A (Builtin.«zip.__next__» ⟨[.ref q], []⟩) (fun fin s' => ∃ v, fin = .done (.ret v) ∧ Q v s') E s := by
  show wpAny _ _ (field (.ref q) 2 >>= _) _ _ _
  refine wpAny_bind (wpAny_field hq rfl (x := .bool false) rfl ?_)
  show wpAny _ _ (field (.ref q) 3 >>= _) _ _ _
  refine wpAny_bind (wpAny_field hq rfl (x := .ref ti) rfl (wpAny_bind (wpAny_seqItems hti rfl ?_)))
  show wpAny _ _ (Builtin.SmallTypes.ownedTupleIsFree (.ref q) >>= _) _ _ _
  refine wpAny_bind ?_
  unfold Builtin.SmallTypes.ownedTupleIsFree
  refine wpAny_bind (wpAny_field hq rfl (x := .none) rfl (wpAny_pure ?_))
  simp only [if_true]
  refine wpAny_bind (wpAny_rule (wpAny_bind (wpAny_field hq rfl (x := .ref to) rfl (wpAny_bind (wpAny_setField_rec hq (by simp) fun w1 (z1 : IsZip w1 q ti to .ellipsis) s1 => ?_)))))
  refine wpAny_bind ?_
  simp only [List.zipIdx_cons, List.zipIdx_nil, List.forIn_cons, List.forIn_nil]
  refine wpAny_bind (wpAny_bind (wpAny_onRaise ?_))
  show wpAny _ _ (Builtin.SmallTypes.nextOf (.ref j) >>= _) _ _ _
  refine wpAny_bind (nx_item (i1.but s1.extBut D.i1z) (g1.but s1.extBut D.l1z) e1 fun w2 y2 s2 => wpAny_pure ?_)
  have t2 : IsPair w2 to a b := s2.extBut _ _ D.TOi1 (s1.extBut _ _ D.TOz hto)
  refine wpAny_bind (wpAny_seqItems t2 rfl (wpAny_bind (wpAny_updateSeq_pair t2 fun w3 (t3 : IsPair w3 to u b) s3 => wpAny_bind (wpAny_letGo (wpAny_pure (wpAny_bind (wpAny_bind (wpAny_onRaise ?_))))))))
  show wpAny _ _ (Builtin.SmallTypes.nextOf (.ref j') >>= _) _ _ _
  refine wpAny_bind (nx_item (((i2.but s1.extBut D.i2z).but s2.extBut D.i12.symm).but s3.extBut D.TOi2.symm) (((g2.but s1.extBut D.l2z).but s2.extBut D.l2i1).but s3.extBut D.l2TO) e2 fun w4 y4 s4 => wpAny_pure ?_)
  have t4 : IsPair w4 to u b := s4.extBut _ _ D.TOi2 t3
  refine wpAny_bind (wpAny_seqItems t4 rfl (wpAny_bind (wpAny_updateSeq_pair t4 fun w5 (t5 : IsPair w5 to u u') s5 => wpAny_bind (wpAny_letGo (wpAny_pure (wpAny_pure (wpAny_bind (wpAny_seqItems t5 rfl (wpAny_bind (wpAny_newTuple ?_)))))))))) 
  have hn : w5.objs.size = s.heap.objs.size := by rw [s5.1, s4.1, s3.1, s2.1, s1.1]
  have z5 : IsZip w5 q ti to .ellipsis := s5.extBut _ _ D.TOz.symm (s4.extBut _ _ D.i2z.symm (s3.extBut _ _ D.TOz.symm (s2.extBut _ _ D.i1z.symm z1)))
  have keep : ∀ c o, c ≠ q → c ≠ to → c ≠ j → c ≠ j' → s.heap.get? c = some o → w5.get? c = some o := fun c o a1 a2 a3 a4 x => s5.extBut _ _ a2 (s4.extBut _ _ a4 (s3.extBut _ _ a2 (s2.extBut _ _ a3 (s1.extBut _ _ a1 x))))
  have y1 : Ist k w5 j l (m + 1) := ((y2.but s3.extBut D.TOi1.symm).but s4.extBut D.i12).but s5.extBut D.TOi1.symm
  have y5 : Ist k' w5 j' l' (m' + 1) := y4.but s5.extBut D.TOi2.symm
  have ql : q < w5.objs.size := Heap.lt_size z5
  show wpAny _ _ (Builtin.SmallTypes.ownedTupleHandOut (.ref q) (.ref w5.objs.size) >>= _) _ _ _
  refine wpAny_bind ?_
  unfold Builtin.SmallTypes.ownedTupleHandOut
  have z6 : IsZip (w5.push { cls := .type "tuple", data := .seq #[u, u'] }) q ti to .ellipsis := Heap.get?_push_of_some _ z5
  refine wpAny_bind (wpAny_setField_rec z6 (by simp) fun w7 (z7 : IsZip w7 q ti to (rawInt w5.objs.size)) s7 => wpAny_setField_rec z7 (by simp) fun w8 (z8 : IsZip w8 q ti to (rawInt w5.objs.size)) s8 => ?_)
  have up : ∀ c o, c ≠ q → w5.get? c = some o → w8.get? c = some o := fun c o c1 x => s8.extBut _ _ c1 (s7.extBut _ _ c1 (Heap.get?_push_of_some _ x))
  have p8 : IsPair w8 w5.objs.size u u' := s8.extBut _ _ (Nat.ne_of_gt ql) (s7.extBut _ _ (Nat.ne_of_gt ql) (Heap.get?_push_size _ rfl))
  have n8 : w8.objs.size = w5.objs.size + 1 := by rw [s8.1, s7.1, Heap.size_push]
  rw [hn] at z8 p8 n8
  refine wpAny_pure ⟨_, rfl, ?_⟩
  show Q (.ref w5.objs.size) _
  rw [hn]
  exact hQ w8 z8 (up _ _ D.TOz t5) (y1.at fun o => up _ o D.i1z) (y5.at fun o => up _ o D.i2z) p8 n8 fun c o c1 c2 c3 c4 x => up c o c1 (keep c o c1 c2 c3 c4 x)
theorem step_end {q ti to j j' l l' : Addr} {m m' : Nat} {us us' : Array Value} {a b : Value} {Q : Fin → Shared → Prop} (hh : A.handled = none) (D : ZipApart q ti to j j' l l')
    (hq : IsZip s.heap q ti to .none) (hti : IsPair s.heap ti (.ref j) (.ref j')) (hto : IsPair s.heap to a b)
    (i1 : Ist k s.heap j l m) (i2 : Ist k' s.heap j' l' m') (g1 : Isq k s.heap l us) (g2 : Isq k' s.heap l' us') (fin : us[m]? = none ∨ us'[m']? = none)
    (hE : ∀ h' e, (∀ c o, c ≠ q → c ≠ to → c ≠ j → c ≠ j' → s.heap.get? c = some o → h'.get? c = some o) → (∃ o, h'.get? e = some o ∧ o.cls = .type "StopIteration") → E (.ref e) { s with heap := h' }) :
    wpAny (model prog w) A (Builtin.«zip.__next__» ⟨[.ref q], []⟩) Q E s := by
  show wpAny _ _ (field (.ref q) 2 >>= _) _ _ _
  refine wpAny_bind (wpAny_field hq rfl (x := .bool false) rfl ?_)
  show wpAny _ _ (field (.ref q) 3 >>= _) _ _ _
  refine wpAny_bind (wpAny_field hq rfl (x := .ref ti) rfl (wpAny_bind (wpAny_seqItems hti rfl ?_)))
  show wpAny _ _ (Builtin.SmallTypes.ownedTupleIsFree (.ref q) >>= _) _ _ _
  refine wpAny_bind ?_
  unfold Builtin.SmallTypes.ownedTupleIsFree
  refine wpAny_bind (wpAny_field hq rfl (x := .none) rfl (wpAny_pure ?_))
  simp only [if_true]
  refine wpAny_bind (wpAny_rule (wpAny_bind (wpAny_field hq rfl (x := .ref to) rfl (wpAny_bind (wpAny_setField_rec hq (by simp) fun w1 (z1 : IsZip w1 q ti to .ellipsis) s1 => ?_)))))
  refine wpAny_bind ?_
  simp only [List.zipIdx_cons, List.zipIdx_nil, List.forIn_cons, List.forIn_nil]
  refine wpAny_bind (wpAny_bind (wpAny_onRaise ?_))
  show wpAny _ _ (Builtin.SmallTypes.nextOf (.ref j) >>= _) _ _ _
  cases e1 : us[m]? with
  | none =>
    refine wpAny_bind (nx_end hh (i1.but s1.extBut D.i1z) (g1.but s1.extBut D.l1z) e1 fun w2 e s2 ⟨oe, hoe, hce⟩ => ?_)
    have z2 : IsZip w2 q ti to .ellipsis := s2 _ _ D.i1z.symm z1
    have ne : e ≠ q := fun x => by subst x; rw [z2] at hoe; cases hoe; simp at hce
    refine wpAny_setField_rec z2 (by simp) fun w3 _ s3 => hE w3 e (fun c o c1 _ c3 _ x => s3.extBut _ _ c1 (s2 _ _ c3 (s1.extBut _ _ c1 x))) ⟨oe, s3.extBut _ _ ne hoe, hce⟩
  | some u =>
    have e2 : us'[m']? = none := fin.resolve_left (by rw [e1]; exact fun z => nomatch z)
    refine wpAny_bind (nx_item (i1.but s1.extBut D.i1z) (g1.but s1.extBut D.l1z) e1 fun w2 y2 s2 => wpAny_pure ?_)
    have t2 : IsPair w2 to a b := s2.extBut _ _ D.TOi1 (s1.extBut _ _ D.TOz hto)
    refine wpAny_bind (wpAny_seqItems t2 rfl (wpAny_bind (wpAny_updateSeq_pair t2 fun w3 _ s3 => wpAny_bind (wpAny_letGo (wpAny_pure (wpAny_bind (wpAny_bind (wpAny_onRaise ?_))))))))
    show wpAny _ _ (Builtin.SmallTypes.nextOf (.ref j') >>= _) _ _ _
    refine wpAny_bind (nx_end hh (((i2.but s1.extBut D.i2z).but s2.extBut D.i12.symm).but s3.extBut D.TOi2.symm) (((g2.but s1.extBut D.l2z).but s2.extBut D.l2i1).but s3.extBut D.l2TO) e2 fun w4 e s4 ⟨oe, hoe, hce⟩ => ?_)
    have z4 : IsZip w4 q ti to .ellipsis := s4 _ _ D.i2z.symm (s3.extBut _ _ D.TOz.symm (s2.extBut _ _ D.i1z.symm z1))
    have ne : e ≠ q := fun x => by subst x; rw [z4] at hoe; cases hoe; simp at hce
    refine wpAny_setField_rec z4 (by simp) fun w5 _ s5 => hE w5 e (fun c o c1 c2 c3 c4 x => s5.extBut _ _ c1 (s4 _ _ c4 (s3.extBut _ _ c2 (s2.extBut _ _ c3 (s1.extBut _ _ c1 x))))) ⟨oe, s5.extBut _ _ ne hoe, hce⟩
theorem py_item {q ti to j j' l l' : Addr} {m m' : Nat} {us us' : Array Value} {u u' a b : Value} {Q : Option Value → Shared → Prop} (D : ZipApart q ti to j j' l l')
    (hq : IsZip s.heap q ti to .none) (hti : IsPair s.heap ti (.ref j) (.ref j')) (hto : IsPair s.heap to a b)
    (i1 : Ist k s.heap j l m) (i2 : Ist k' s.heap j' l' m') (g1 : Isq k s.heap l us) (g2 : Isq k' s.heap l' us') (e1 : us[m]? = some u) (e2 : us'[m']? = some u')
    (hQ : ∀ h', IsZip h' q ti to (rawInt s.heap.objs.size) → IsPair h' to u u' → Ist k h' j l (m + 1) → Ist k' h' j' l' (m' + 1) → IsPair h' s.heap.objs.size u u' → h'.objs.size = s.heap.objs.size + 1 →
      (∀ c o, c ≠ q → c ≠ to → c ≠ j → c ≠ j' → s.heap.get? c = some o → h'.get? c = some o) → Q (some (.ref s.heap.objs.size)) { s with heap := h' }) :
    wpAny (model prog w) A (pyNext (.ref q)) Q E s := by
  have ty : s.TypeIs (.ref q) "zip" := ⟨_, hq, rfl⟩
  unfold pyNext
  exact wpAny_bind (wpAny_attempt (wpAny_callSpecial?_slot (name := Str.ofString "__next__") ty F.slot_zip_next (wpAny_call_entry F.slot_zip_next ty F.entry_zip_next
    (step_item D hq hti hto i1 i2 g1 g2 e1 e2 fun h' a1 a2 a3 a4 a5 a6 a7 => wpAny_pure (hQ h' a1 a2 a3 a4 a5 a6 a7)) (F.args_zip_next_1 _))))
theorem py_end {q ti to j j' l l' : Addr} {m m' : Nat} {us us' : Array Value} {a b : Value} {Q : Option Value → Shared → Prop} (hh : A.handled = none) (D : ZipApart q ti to j j' l l')
    (hq : IsZip s.heap q ti to .none) (hti : IsPair s.heap ti (.ref j) (.ref j')) (hto : IsPair s.heap to a b)
    (i1 : Ist k s.heap j l m) (i2 : Ist k' s.heap j' l' m') (g1 : Isq k s.heap l us) (g2 : Isq k' s.heap l' us') (fin : us[m]? = none ∨ us'[m']? = none)
    (hQ : ∀ h', (∀ c o, c ≠ q → c ≠ to → c ≠ j → c ≠ j' → s.heap.get? c = some o → h'.get? c = some o) → Q none { s with heap := h' }) : wpAny (model prog w) A (pyNext (.ref q)) Q E s := by
  have ty : s.TypeIs (.ref q) "zip" := ⟨_, hq, rfl⟩
  unfold pyNext
  refine wpAny_bind (wpAny_attempt (wpAny_callSpecial?_slot (name := Str.ofString "__next__") ty F.slot_zip_next (wpAny_call_entry F.slot_zip_next ty F.entry_zip_next
    (step_end hh D hq hti hto i1 i2 g1 g2 fin fun h' e hk ⟨o, ho, hc⟩ => ?_) (F.args_zip_next_1 _))))
  exact wpAny_bind (wpAny_isInstance (T := "StopIteration") (b := true) ⟨o, ho, hc⟩ isSubtype_stop (wpAny_pure (hQ _ hk)))
end
abbrev wz1 (k : Bool) (h : Heap) (l : Addr) : Heap := h.push (itObj k l)
abbrev wz2 (k k' : Bool) (h : Heap) (l l' : Addr) : Heap := (wz1 k h l).push (itObj k' l')
abbrev wz3 (k k' : Bool) (h : Heap) (l l' : Addr) : Heap := (wz2 k k' h l l').push { cls := .type "tuple", data := .seq #[.ref h.objs.size, .ref (wz1 k h l).objs.size] }
abbrev wz4 (k k' : Bool) (h : Heap) (l l' : Addr) : Heap := (wz3 k k' h l l').push { cls := .type "tuple", data := .seq #[.none, .none] }
abbrev wz5 (k k' : Bool) (h : Heap) (l l' : Addr) : Heap := (wz4 k k' h l l').push { cls := .type "zip", data := .fields #[.none, .bool false, .bool false, .ref (wz2 k k' h l l').objs.size, .ref (wz3 k k' h l l').objs.size] }
theorem made (k k' : Bool) (l l' : Addr) (us us' : Array Value) :
    Meets (Builtin.«zip.__new__» ⟨[.type "zip", .ref l, .ref l'], []⟩) (fun _ R s => Isq k s.heap l us ∧ Isq k' s.heap l' us' ∧ R (.ok (.ret (.ref (wz4 k k' s.heap l l').objs.size))) { s with heap := wz5 k k' s.heap l l' }) :=
  .of_wp fun prog w A R s ⟨q1, q2, r⟩ => by
    obtain ⟨hp, g, d, tk, os⟩ := s
    have hsub := sub_zip
    have c1 : Isq k (Shared.heap ⟨hp, g, d, tk, os⟩) l us := q1
    have c2 : Isq k' (Shared.heap ⟨hp.push (itObj k l), g, d, tk, os⟩) l' us' := q2.more _
    wp_walk using it_new c1, it_new c2
    exact ⟨_, rfl, r⟩
section
variable {prog : Program} {w : World} {A : Around} {E : Value → Shared → Prop} {s : Shared} {k k' : Bool}
theorem call_it {l l' : Addr} {us us' : Array Value} {Q : Value → Shared → Prop} (q1 : Isq k s.heap l us) (q2 : Isq k' s.heap l' us')
    (h : ∀ h', IsZip h' (s.heap.objs.size + 4) (s.heap.objs.size + 2) (s.heap.objs.size + 3) .none ∧ IsPair h' (s.heap.objs.size + 2) (.ref s.heap.objs.size) (.ref (s.heap.objs.size + 1)) ∧ IsPair h' (s.heap.objs.size + 3) .none .none ∧
      Ist k h' s.heap.objs.size l 0 ∧ Ist k' h' (s.heap.objs.size + 1) l' 0 ∧ h'.objs.size = s.heap.objs.size + 5 ∧ (∀ c o, s.heap.get? c = some o → h'.get? c = some o) → Q (.ref (s.heap.objs.size + 4)) { s with heap := h' }) :
    wpAny (model prog w) A (call (.type "zip") [.ref l, .ref l']) Q E s := by
  refine callType_new F.called_zip (by decide) (F.typeCall_zip_2 _ _) (F.newCall_zip_2 _ _) (fun obj => F.args_object_init_3 obj _ _) F.entry_zip_new (made k k' l l' us us') ⟨q1, q2, ?_⟩
  have n1 : (wz1 k s.heap l).objs.size = s.heap.objs.size + 1 := Heap.size_push ..
  have n2 : (wz2 k k' s.heap l l').objs.size = s.heap.objs.size + 2 := by rw [Heap.size_push, n1]
  have n3 : (wz3 k k' s.heap l l').objs.size = s.heap.objs.size + 3 := by rw [Heap.size_push, n2]
  have n4 : (wz4 k k' s.heap l l').objs.size = s.heap.objs.size + 4 := by rw [Heap.size_push, n3]
  have n5 : (wz5 k k' s.heap l l').objs.size = s.heap.objs.size + 5 := by rw [Heap.size_push, n4]
  have o5 : (wz5 k k' s.heap l l').get? (wz4 k k' s.heap l l').objs.size = some _ := Heap.get?_push_size _ rfl
  have o4 : (wz5 k k' s.heap l l').get? (wz3 k k' s.heap l l').objs.size = some _ := Heap.get?_push_of_some _ (Heap.get?_push_size _ rfl)
  have o3 : (wz5 k k' s.heap l l').get? (wz2 k k' s.heap l l').objs.size = some _ := Heap.get?_push_of_some _ (Heap.get?_push_of_some _ (Heap.get?_push_size _ rfl))
  have o2 : (wz5 k k' s.heap l l').get? (wz1 k s.heap l).objs.size = some (itObj k' l') := Heap.get?_push_of_some _ (Heap.get?_push_of_some _ (Heap.get?_push_of_some _ (Heap.get?_push_size _ rfl)))
  have o1 : (wz5 k k' s.heap l l').get? s.heap.objs.size = some (itObj k l) := Heap.get?_push_of_some _ (Heap.get?_push_of_some _ (Heap.get?_push_of_some _ (Heap.get?_push_of_some _ (Heap.get?_push_size _ rfl))))
  have st : ∀ (b : Bool) {h : Heap} {c a : Addr}, h.get? c = some (itObj b a) → Ist b h c a 0 := fun b => by cases b <;> exact fun e => ⟨_, e, rfl, rfl⟩
  show _ ∧ _
  rw [n2, n3, n4] at o5
  rw [n1, n2] at o3
  rw [n3] at o4
  rw [n1] at o2
  rw [n4]
  exact ⟨⟨_, o5, rfl⟩, h _ ⟨o5, o3, o4, st k o1, st k' o2, n5, fun c o x => Heap.get?_push_of_some _ (Heap.get?_push_of_some _ (Heap.get?_push_of_some _ (Heap.get?_push_of_some _ (Heap.get?_push_of_some _ x))))⟩⟩
end
end Lz
end
section
set_option linter.all false
set_option maxRecDepth 100000
set_option maxHeartbeats 2000000
namespace Lz
open PySem PySem.Spec PyProof.Rows L2
def Sqk (k : Bool) (K : PySem.W.Frag) (H : Hp) (a : Addr) (xs : List V) : Prop := match k with | true => SqL K H a xs | false => SqT K H a xs
section
variable {X : Cx} {pins : List (Addr × Obj)} {σ : L2.St} {H : Hp} {s : Shared} {k : Bool}
theorem sq_inv {a : Addr} {xs : List V} (I : Inv X pins σ H s) (h : Sqk k X.K H a xs) : ∃ its : List Value, Vals xs its ∧ Isq k s.heap a its.toArray ∧ a < s.heap.objs.size := by
  cases k
  · obtain ⟨its, rv, p, _⟩ := I.tuple h
    obtain ⟨o, ho, _⟩ := id p
    exact ⟨its, rv, p, Heap.lt_size ho⟩
  · obtain ⟨its, rv, p, _⟩ := I.list h
    exact ⟨its, rv, p.isList, p.lt⟩
theorem sq_one {a : Addr} {xs ys : List V} (I : Inv X pins σ H s) (h : Sqk k X.K H a xs) (h2 : Sqk k X.K H a ys) : xs = ys := by
  cases k
  · exact I.tuple_inj h h2
  · exact I.list_inj h h2
end
/-- both sources as they stand at each turn; the pair is new -/
def ItM (k k' : Bool) (K : PySem.W.Frag) (a b : Addr) : It :=
  ⟨fun i H => ∃ (xs ys : List V) (x y : V), Sqk k K H a xs ∧ Sqk k' K H b ys ∧ xs[i]? = some x ∧ ys[i]? = some y,
    fun i H v H' => ∃ c x y, v = .ref c ∧ H c = none ∧ H' = upd H c (.tup [x, y]) ∧ (∀ xs, Sqk k K H a xs → xs[i]? = some x) ∧ ∀ ys, Sqk k' K H b ys → ys[i]? = some y,
    fun i H => ∃ xs ys : List V, Sqk k K H a xs ∧ Sqk k' K H b ys ∧ (xs.length ≤ i ∨ ys.length ≤ i)⟩
theorem turnM (k k' : Bool) {P : Program} {w : World} {K : PySem.W.Frag} {elts : List Expr} {kk : Nat} {tpos : Pos} {a b q ti to j j' : Addr} (D : ZipApart q ti to j j' a b) :
    Turn P w K (.Tuple elts kk tpos) (ItM k k' K a b) [q, ti, to, j, j'] q (fun i h => IsZip h q ti to .none ∧ IsPair h ti (.ref j) (.ref j') ∧ (∃ x y, IsPair h to x y) ∧ Ist k h j a i ∧ Ist k' h j' b i) where
  mem := by simp
  obj := fun i h ⟨hq, hti, ⟨x, y, hto⟩, i1, i2⟩ c hc => by
    simp only [List.mem_cons, List.not_mem_nil, or_false] at hc
    obtain ⟨o1, e1, d1⟩ := i1.obj
    obtain ⟨o2, e2, d2⟩ := i2.obj
    rcases hc with rfl | rfl | rfl | rfl | rfl
    · exact ⟨_, hq, fun v z => nomatch z⟩
    · exact ⟨_, hti, fun v z => nomatch z⟩
    · exact ⟨_, hto, fun v z => nomatch z⟩
    · exact ⟨o1, e1, fun v z => by rw [d1] at z; cases z⟩
    · exact ⟨o2, e2, fun v z => by rw [d2] at z; cases z⟩
  keep := fun i h h' ⟨hq, hti, ⟨x, y, hto⟩, i1, i2⟩ kp => ⟨kp q (by simp) _ hq, kp ti (by simp) _ hti, ⟨x, y, kp to (by simp) _ hto⟩, i1.at fun o z => kp j (by simp) o z, i2.at fun o z => kp j' (by simp) o z⟩
  item := by
    intro X hP hw hK hc i pins s σ H E I hf ⟨hq, hti, ⟨x0, y0, hto⟩, i1, i2⟩ ⟨xs, ys, x, y, qx, qy, hx, hy⟩
    subst hP hw hK
    obtain ⟨us, rv, p, _⟩ := sq_inv I qx
    obtain ⟨us', rv', p', _⟩ := sq_inv I qy
    obtain ⟨u, hu, ru⟩ := rv.get hx
    obtain ⟨u', hu', ru'⟩ := rv'.get hy
    have ql : q < s.heap.objs.size := Heap.lt_size hq
    refine py_item D hq hti hto i1 i2 p p' (u := u) (u' := u') (by simpa using hu) (by simpa using hu') fun h' z' t' y1 y2 hT hsz hk => ⟨_, rfl, wpAny_letOwnedTupleGo_zip (s := { s with heap := h' }) z' fun h'' z'' sb => ?_⟩
    have nw : ObjOk X.prog X.w (upd H s.heap.objs.size (.tup [x, y])) h'' s.heap.objs.size (.tup [x, y]) :=
      ⟨show 2 ≤ sizeLine by decide, [u, u'], .cons ru (.cons ru' .nil), ⟨_, (sb.2 _ (Nat.ne_of_gt ql)).trans hT, rfl, _, rfl⟩⟩
    have other : ∀ c o, c ∉ [q, ti, to, j, j'] → s.heap.get? c = some o → h''.get? c = some o := fun c o hb z => by
      simp only [List.mem_cons, List.not_mem_nil, or_false, not_or] at hb
      exact (sb.2 c hb.1).trans (hk c o hb.1 hb.2.2.1 hb.2.2.2.1 hb.2.2.2.2 z)
    have I1 : Inv X pins σ (upd H s.heap.objs.size (.tup [x, y])) { s with heap := h'' } := I.turnedNew (t' := s.toks) (ch := [q, ti, to, j, j']) other hf (Nat.le_refl _) nw
    refine ⟨.ref s.heap.objs.size, _, I1, rfl, ⟨_, x, y, rfl, I.hok.fresh (Nat.le_refl _), rfl, fun l hl => by rw [sq_one I hl qx]; exact hx, fun l hl => by rw [sq_one I hl qy]; exact hy⟩,
      ⟨z'', (sb.2 _ D.TIz).trans (hk _ _ D.TIz D.TITO D.TIi1 D.TIi2 hti), ⟨u, u', (sb.2 _ D.TOz).trans t'⟩, y1.at fun o z => (sb.2 _ D.i1z).trans z, y2.at fun o z => (sb.2 _ D.i2z).trans z⟩, fun c hcm => ?_⟩
    have lt : c < s.heap.objs.size := by
      simp only [List.mem_cons, List.not_mem_nil, or_false] at hcm
      rcases hcm with rfl | rfl | rfl | rfl | rfl
      · exact ql
      · exact Heap.lt_size hti
      · exact Heap.lt_size hto
      · exact i1.lt
      · exact i2.lt
    rw [upd_ne (Nat.ne_of_lt lt)]
    exact (hf c hcm).1
  done := by
    intro X hP hw hK hc i pins s σ H E I hf ⟨hq, hti, ⟨x0, y0, hto⟩, i1, i2⟩ ⟨xs, ys, qx, qy, fin⟩
    subst hP hw hK
    obtain ⟨us, rv, p, _⟩ := sq_inv I qx
    obtain ⟨us', rv', p', _⟩ := sq_inv I qy
    have n1 := rv.length
    have n2 := rv'.length
    refine py_end (I.ok.hd hc) D hq hti hto i1 i2 p p' (by rcases fin with z | z <;> simp only [List.getElem?_toArray, List.getElem?_eq_none_iff] <;> omega) fun h' hk => ⟨rfl, I.turnedL (t' := s.toks) (ch := [q, ti, to, j, j']) (fun c o hb z => ?_) hf⟩
    simp only [List.mem_cons, List.not_mem_nil, or_false, not_or] at hb
    exact hk c o hb.1 hb.2.2.1 hb.2.2.2.1 hb.2.2.2.2 z
  self := fun A i s Q E st h => wpAny_pyIter_zip st.1 h
def iMix (K : PySem.W.Frag) (ta : TA) : TI := fun σ H R => ta σ H fun vs H1 => ∃ (k k' : Bool) (a b : Addr) (xs ys : List V), vs = [.ref a, .ref b] ∧ Sqk k K H1 a xs ∧ Sqk k' K H1 b ys ∧ R (ItM k k' K a b) H1
theorem pi_mix {X : Cx} {e e2 : Expr} {ta : TA} {p pos tpos : Pos} {elts : List Expr} {kk : Nat} (hg : Gl X "zip") (hm : X.mg "zip" = none) (ha : PA X [e, e2] ta)
    (hs : starEach [e, e2] X.env = (false, eval e X.env) :: starEach [e2] X.env := by rfl) (hpl : (backTo pos (starEach [e2] X.env)).any (·.1) = false := by rfl) :
    PI X (.Tuple elts kk tpos) (.Call (.Name "zip" p) [e, e2] [] pos) (iMix X.K ta) := by
  refine ⟨fun pins s σ H R I h => Call_ (ld_blt I hg hm PyProof.Rows.boot_zip (PyProof.Rows.callWith_type1 (thn (ha.run pos pins s σ H _ I h) ?_) hs hpl))⟩
  rintro us s1 ⟨vs, H1, I1, r1, k, k', a, b, xs, ys, rfl, qx, qy, q⟩
  cases r1 with | cons r rr =>
  cases rr with | cons r' rr =>
  cases rr
  cases r
  cases r'
  obtain ⟨us, rv, p1, l1⟩ := sq_inv I1 qx
  obtain ⟨us', rv', p2, l2⟩ := sq_inv I1 qy
  refine call_it p1 p2 fun h' ⟨hz, hti, hto, i1, i2, _, hk⟩ => wpAny_pyIter_zip hz ⟨s1.heap.objs.size + 4, [s1.heap.objs.size + 4, s1.heap.objs.size + 2, s1.heap.objs.size + 3, s1.heap.objs.size, s1.heap.objs.size + 1], _, _, H1, rfl, I1.kept (t' := s1.toks) hk, turnM k k' (PySem.W.ktu_apart s1.heap.objs.size a b l1 l2), ⟨hz, hti, ⟨_, _, hto⟩, i1, i2⟩, fun c hc => ?_, q⟩
  have up : s1.heap.objs.size ≤ c := by
    simp only [List.mem_cons, List.not_mem_nil, or_false] at hc
    rcases hc with z | z | z | z | z <;> rw [z] <;> first | exact Nat.le_refl _ | exact Nat.le_add_right _ _
  exact I1.fpOk up (I1.hok.fresh up)
end Lz
end
section
set_option linter.all false
set_option maxRecDepth 100000
set_option maxHeartbeats 2000000
/-! enumerate(list, start=z). -/
namespace Lz
open PySem PySem.Spec PyProof.Rows L2
section
variable {M : Model} {A : Around} {E : Value → Shared → Prop} {s : Shared} {env : Env}
theorem cw_type {pos : Pos} {T : String} {xs : List Value} {as : List (Bool × Sem Value)} {ks : List (Option Str × Sem Value)} {Q : Value → Shared → Prop} (hp : as.any (·.1) = false) (hk : ks.any (·.1.isNone) = false)
    (h : wpAny M A (evalArgs (.type T) true as ks) (fun a s' => wpAny M A (call (.type T) (xs ++ a.pos) a.kw) Q E s') E s) : wpAny M A (callWith pos (.type T) xs as ks) Q E s := by
  unfold callWith
  refine wpAny_bind (wpAny_holding (wpAny_mono h (fun a s' q => wpAny_bind (wpAny_standAt ?_)) fun _ _ z => z))
  simp only [hp, hk, Bool.or_false]
  exact wpAny_bind (wpAny_pure (wpAny_bind (wpAny_mono q (fun r s2 hr => wpAny_bind (wpAny_holding (wpAny_point (wpAny_pure hr)))) fun _ _ z => z)))
end
/-- the list at a, counted from z -/
def Itn (K : PySem.W.Frag) (a : Addr) (z : Int) : It :=
  ⟨fun m H => ∃ (us : List V) (y : V), SqL K H a us ∧ us[m]? = some y,
   fun m H v H' => ∃ T y, v = .ref T ∧ H T = none ∧ H' = upd H T (.tup [.int (z + (m : Nat)), y]) ∧ ∀ us, SqL K H a us → us[m]? = some y,
   fun m H => ∃ us : List V, SqL K H a us ∧ us.length ≤ m⟩
theorem enum_ne {h : Heap} {e it l : Addr} {c : Int} {old : Value} {us : Array Value} (he : IsEnum h e it c old) (hl : h.IsList l us) : e ≠ l := fun z => by
  subst z
  obtain ⟨o, ho, hc, _⟩ := hl
  have he' := he
  unfold IsEnum at he'
  rw [ho] at he'
  cases he'
  simp at hc
theorem turn_enumZ {P : Program} {w : World} {K : PySem.W.Frag} {elts : List Expr} {kk : Nat} {tpos : Pos} (z : Int) (a e it : Addr) :
    Turn P w K (.Tuple elts kk tpos) (Itn K a z) [e, it] e (fun m h => (∃ old, IsEnum h e it (z + (m : Nat)) old) ∧ h.IsListIter it a m ∧ e ≠ it) where
  mem := List.mem_cons_self ..
  obj := fun m h st b hb => by
    obtain ⟨⟨old, he⟩, ⟨o, ho, _, hd⟩, _⟩ := st
    simp only [List.mem_cons, List.not_mem_nil, or_false] at hb
    rcases hb with rfl | rfl
    · exact ⟨_, he, fun v q => nomatch q⟩
    · exact ⟨o, ho, fun v q => by rw [hd] at q; cases q⟩
  keep := fun m h h' ⟨⟨old, he⟩, hi, hne⟩ k => ⟨⟨old, k e (by simp) _ he⟩, hi.at fun o q => k it (by simp) o q, hne⟩
  item := by
    intro X hP hw hK hc m pins s σ H E I hf st hg
    subst hP hw hK
    obtain ⟨⟨old, he⟩, hit, hne⟩ := st
    obtain ⟨us, y, hq, hy⟩ := hg
    obtain ⟨its, rv, p, hz⟩ := I.list hq
    obtain ⟨u, hu, ru⟩ := rv.get hy
    have l1 : e < s.heap.objs.size := Heap.lt_size he
    have l2 : it < s.heap.objs.size := by obtain ⟨_, q, _⟩ := hit; exact Heap.lt_size q
    have nl : a ≠ it := fun q => by
      subst q
      obtain ⟨o1, h1, c1, _⟩ := hit
      obtain ⟨o2, h2, c2, _⟩ := p.isList
      rw [h1] at h2; cases h2
      rw [c1] at c2
      exact absurd c2 (by decide)
    have D := Draws.list (prog := X.prog) (w := X.w) (A := X.A.in1) (I.ok.hd hc) it a nl its.toArray
    have hlt : m < its.toArray.size := by
      rcases Nat.lt_or_ge m its.length with q | q
      · simpa using q
      · rw [List.getElem?_eq_none q] at hu; cases hu
    refine wpAny_pyNext_enum_itemC D he ⟨hit, p.isList⟩ hlt hne (by simp only [List.mem_cons, List.not_mem_nil, or_false, not_or]; exact ⟨hne, enum_ne he p.isList⟩) fun x h' tk hx ho st' hT hsz hk => ?_
    have ex : x = u := by
      have hx : its.toArray[m]? = some x := hx
      rw [List.getElem?_toArray, hu] at hx
      exact (Option.some.inj hx).symm
    subst ex
    refine ⟨_, rfl, wpAny_letOwnedTupleGo_enum (s := { s with heap := h', toks := tk + 1 }) ho fun h2 he2 sb => ?_⟩
    have t2 : h2.get? s.heap.objs.size = some { cls := .type "tuple", data := .seq #[.int (z + (m : Nat)) tk, x] } := (sb.2 _ (Nat.ne_of_gt l1)).trans hT
    have new : ObjOk X.prog X.w (upd H s.heap.objs.size (.tup [.int (z + (m : Nat)), y])) h2 s.heap.objs.size (.tup [.int (z + (m : Nat)), y]) :=
      ⟨by show 2 ≤ sizeLine; decide, [.int (z + (m : Nat)) tk, x], .cons ⟨_, rfl⟩ (.cons ru .nil), ⟨_, t2, rfl, _, rfl⟩⟩
    have J : Inv X pins σ (upd H s.heap.objs.size (.tup [.int (z + (m : Nat)), y])) { s with heap := h2, toks := tk + 1 } :=
      I.turnedNew (ch := [e, it]) (fun b ob hb q => (sb.2 b (fun z => hb (by simp [z]))).trans (hk b ob (fun z => hb (by simp [z])) (fun z => hb (by simp [z])) q)) hf (Nat.le_refl _) new
    refine ⟨.ref s.heap.objs.size, _, J, rfl, ⟨_, y, rfl, I.hok.fresh (Nat.le_refl _), rfl, fun ys hy' => by rw [I.list_inj hy' hq]; exact hy⟩, ⟨⟨x, ?_⟩, st'.1.at fun o q => (sb.2 it (Ne.symm hne)).trans q, hne⟩, fun b hb => ?_⟩
    · have e1 : z + ((m + 1 : Nat) : Int) = z + (m : Nat) + 1 := by omega
      rw [e1]; exact he2
    · have hb' : b < s.heap.objs.size := by
        simp only [List.mem_cons, List.not_mem_nil, or_false] at hb
        rcases hb with rfl | rfl
        · exact l1
        · exact l2
      rw [upd_ne (Nat.ne_of_lt hb')]
      exact (hf b hb).1
  done := by
    intro X hP hw hK hc m pins s σ H E I hf st hg
    subst hP hw hK
    obtain ⟨⟨old, he⟩, hit, hne⟩ := st
    obtain ⟨us, hq, hx⟩ := hg
    obtain ⟨its, rv, p, hz⟩ := I.list hq
    obtain ⟨f0, f1, f2, f3, f4, f5⟩ := hf it (by simp)
    have hl := rv.length
    have nl : a ≠ it := fun q => by
      subst q
      obtain ⟨o1, h1, c1, _⟩ := hit
      obtain ⟨o2, h2, c2, _⟩ := p.isList
      rw [h1] at h2; cases h2
      rw [c1] at c2
      exact absurd c2 (by decide)
    have D : Draws X.prog X.w X.A.in1 it [it, a] m (fun _ _ => False) (fun i h => i = m ∧ h.IsListIter it a m ∧ h.IsList a its.toArray) :=
      { live := fun _ _ st => let ⟨o, ho, _⟩ := st.2.1; ⟨o, ho⟩
        frame := fun _ _ _ st hk => ⟨st.1, st.2.1.at fun o e => hk it (by simp) o e, st.2.2.at fun o e => hk a (by simp) o e⟩
        item := fun i _ _ _ hi st => absurd st.1 (Nat.ne_of_lt hi)
        done := fun s Q E st hE => wpAny_nextOf_list_end (I.ok.hd hc) st.2.1 st.2.2 (by simp; omega) hE }
    exact wpAny_pyNext_enum_endD D he ⟨rfl, hit, p.isList⟩ fun h' eb => ⟨rfl, I.turned (t' := s.toks) (fun b o hb q => eb b o hb q) f0 f1 f3 f4 f5⟩
  self := fun A m s Q E ⟨⟨_, he⟩, _⟩ h => wpAny_pyIter_enum he h
/-- enumerate(x, start=y) -/
def iEnumZ (K : PySem.W.Frag) (ta tb : TA) : TI := fun σ H R => ta σ H fun vs H1 => tb σ H1 fun ws H2 => ∃ (a : Addr) (xs : List V) (z : Int), vs = [.ref a] ∧ ws = [.int z] ∧ SqL K H2 a xs ∧ -(2 ^ 63) ≤ z ∧ z < 2 ^ 63 ∧ R (Itn K a z) H2
theorem pi_enumZ {X : Cx} {e e2 : Expr} {ta tb : TA} {p pos tpos kp : Pos} {elts : List Expr} {kk : Nat} (hg : Gl X "enumerate") (hm : X.mg "enumerate" = none) (ha : PA X [e] ta) (hb : PK X [⟨some "start", e2, kp⟩] tb)
    (he : backTo pos (starEach [e] X.env) = [(false, eval e X.env)] := by rfl) :
    PI X (.Tuple elts kk tpos) (.Call (.Name "enumerate" p) [e] [⟨some "start", e2, kp⟩] pos) (iEnumZ X.K ta tb) := by
  refine ⟨fun pins s σ H R I h => ?_⟩
  have r := ha.run pos pins s σ H _ I h
  refine wpAny_Call_Name_kw (ld_blt I hg hm boot_enumerate (cw_type (by rw [he]; rfl) rfl ?_))
  rw [he] at r ⊢
  refine evalArgs_kwB rfl (thn r fun us s1 ⟨vs, H1, I1, r1, h1⟩ => thn (hb.run pos pins s1 σ H1 _ I1 h1) fun ks s2 ⟨ws, H2, I2, r2, a, xs, z, e1, e2, hq, hz0, hz1, hR⟩ => ?_)
  subst e1 e2
  cases r1 with
  | cons ra rn =>
    cases rn; cases ra
    cases r2 with
    | cons rb rn =>
      cases rn
      obtain ⟨t, rfl⟩ := rb
      obtain ⟨its, rv, q, _⟩ := I2.list hq
      show wpAny _ _ (call (.type "enumerate") [.ref a] [(Str.ofString "start", .int z t)]) _ _ _
      refine enum_begins_start (begins_list a its.toArray) q.isList hz0 hz1 fun h' he' hit hsz hk => wpAny_pyIter_enum he' ?_
      have J : Inv X pins σ H2 { s2 with heap := h' } := I2.kept (t' := s2.toks) hk
      refine ⟨s2.heap.objs.size + 1, [s2.heap.objs.size + 1, s2.heap.objs.size], _, _, H2, rfl, J, turn_enumZ z a (s2.heap.objs.size + 1) s2.heap.objs.size, ⟨⟨.none, ?_⟩, ⟨_, hit, rfl, rfl⟩, Nat.succ_ne_self _⟩, fun b hb => ?_, hR⟩
      · have e0 : z + ((0 : Nat) : Int) = z := by omega
        rw [e0]; exact he'
      · have hle : s2.heap.objs.size ≤ b := by
          simp only [List.mem_cons, List.not_mem_nil, or_false] at hb
          rcases hb with rfl | rfl
          · exact Nat.le_add_right _ _
          · exact Nat.le_refl _
        exact I2.fpOk hle (I2.hok.fresh hle)
end Lz
end
section
set_option linter.all false
set_option maxRecDepth 100000
set_option maxHeartbeats 2000000
/-! What a loop goes over, as a row of data. -/
namespace Lk
open PySem PySem.Spec PyProof.Rows L2
theorem fold_plain {e : Expr} {env : Env} (h : notSetB e = true) (x : Value) : foldedSetIterable e env x = pure x := by
  cases e <;> first | rfl | cases h
theorem mtW_plain {N : List Str} {sc : Scope} {tg e : Expr} {p : P} (h : mtW N p sc tg e = true) : notSetB e = true := by
  cases e with
  | Set _ _ _ => cases p <;> simp [mtW, asCall, notSetB] at h
  | _ => rfl
/-- J gives xs: while G holds of the heap -/
def WkD (w : World) (K : KF) (sp : Option Addr) (J : It) (xs : List D) (F1 : Hp) (G : Hp → Prop) : Prop := ∀ F H n, G H → Sub F1 F → Ok sp F H n → ∀ i,
  (i < xs.length → J.go i H ∧ ∀ x H', J.yld i H x H' → ∃ F' d, xs[i]? = some d ∧ Ext sp F H F' H' ∧ Ok sp F' H' n ∧ Rp w K F' x d) ∧ (xs.length ≤ i → J.stop i H)
/-- nothing but the moving place changes -/
def GKeep (st : Bool) (sp : Option Addr) (H : Hp) : Hp → Prop := fun H' => st = true ∨ ∀ a o, sp ≠ some a → H a = some o → H' a = some o
section
variable {w : World} {K : KF} {sp : Option Addr} {F H : Hp} {n : Int}
theorem GKeep.refl (st : Bool) : GKeep st sp H H := .inr fun _ _ _ h => h
theorem RRel.fz {v : V} {r : R} {A B : List Addr} (h : RRel w K sp F H v r B) (hA : ∀ a ∈ A, F a = none) (hd : ∀ a ∈ B, a ∉ A) : RRel w K sp (fzH F H A) H v r B := by
  have s : Sub F (fzH F H A) := fz_sub hA
  cases h with
  | im q => exact .im (q.mono s)
  | fr q hF nd => exact .fr (q.at s fun _ _ _ z => z) (fun a ha => ⟨by rw [fz_out (hd a ha)]; exact (hF a ha).1, (hF a ha).2⟩) nd
  | bw q hs => exact .bw (q.at s fun _ _ _ z => z) hs
  | bo q => exact .bo q
  | sp q => exact .sp q
theorem src_list {st : Bool} {F0 H0 : Hp} {v : V} {r : R} {A : List Addr} {xs ys : List D} (e0 : Ext sp F0 H0 F H) (k : Ok sp F H n) (h : RRel w K sp F H v r A) (fa : ∀ a ∈ A, H0 a = none) (hw : walkOf st r = some xs) (hd : r.dat = some (.list ys)) :
    ∃ a vs F', v = .ref a ∧ Ext sp F0 H0 F' H ∧ Sub F F' ∧ Ok sp F' H n ∧ RpA w K F' vs xs ∧ (∀ F2 H2 n2, GKeep st sp H H2 → Sub F' F2 → Ok sp F2 H2 n2 → SqL K H2 a vs) ∧ ∀ v' r' B, RRel w K sp F H v' r' B → (∀ a ∈ B, a ∉ A) → RRel w K sp F' H v' r' B := by
  cases st with
  | false =>
    obtain ⟨a, vs, rfl, h1, _, h3⟩ := h.lstHm k hd
    have e : xs = ys ∧ (r.kids || purs ys) = true := by
      simp only [walkOf, hd, Option.bind_some, itemsOf] at hw
      split at hw
      · rename_i hk; cases hw; exact ⟨rfl, hk⟩
      · cases hw
    obtain ⟨rfl, hk⟩ := e
    refine ⟨a, vs, F, rfl, e0, Sub.refl F, k, h3 hk, fun F2 H2 n2 g _ _ => ?_, fun _ _ _ z _ => z⟩
    rcases g with g | g
    · cases g
    · have go : ∀ o, Hm sp H a = some o → H2 a = some o := fun o q => by
        have z : sp ≠ some a := fun z => by unfold Hm at q; rw [if_pos z] at q; cases q
        rw [hm_ne z] at q
        exact g a o z q
      rcases h1 with (h1 | ⟨o, h1⟩) | h1
      · exact .inl (.inl (go _ h1))
      · exact .inl (.inr ⟨o, go _ h1⟩)
      · exact .inr h1
  | true =>
    have hA := h.there
    cases h with
    | im q =>
      cases hd
      cases q with
      | lst q1 q2 =>
        cases hw
        exact ⟨_, _, F, rfl, e0, Sub.refl F, k, q2, fun F2 H2 n2 _ s k2 => k2.sub.l (Sub.l s q1), fun _ _ _ z _ => z⟩
    | fr q hF nd =>
      have hz := fz_ext e0 hA fa
      have kz := fz_ok k hA
      have sz : Sub F (fzH F H A) := fz_sub fun a ha => (hA a ha).1
      cases q with
      | li q1 q2 =>
        cases hw
        cases hd
        refine ⟨_, _, fzH F H _, rfl, hz, sz, kz, q2.mono sz, fun F2 H2 n2 _ s k2 => .inl (k2.sub.rd rfl (s.rd ?_)), fun v' r' B z hd => z.fz (fun a ha => (hA a ha).1) hd⟩
        exact .inl (by rw [fz_in (List.mem_cons_self ..)]; exact q1)
      | di _ _ => cases hd
      | dl _ _ => cases hd
      | dd _ _ => cases hd
      | se _ => cases hd
    | bw _ _ => cases hw
    | bo _ => cases hw
    | sp _ => cases hw
theorem src_tup {st : Bool} {F0 H0 : Hp} {v : V} {r : R} {A : List Addr} {xs ys : List D} (e0 : Ext sp F0 H0 F H) (k : Ok sp F H n) (h : RRel w K sp F H v r A) (hw : walkOf st r = some xs) (hd : r.dat = some (.tuple ys)) :
    ∃ a vs, v = .ref a ∧ RpA w K F vs xs ∧ ∀ F2 H2 n2, Sub F F2 → Ok sp F2 H2 n2 → SqT K H2 a vs := by
  obtain ⟨a, vs, rfl, h1, _, h3⟩ := h.tup k hd
  refine ⟨a, vs, rfl, ?_, fun F2 H2 n2 s k2 => k2.sub.t (s.t h1)⟩
  cases st with
  | false =>
    simp only [walkOf, hd, Option.bind_some, itemsOf] at hw
    split at hw
    · rename_i hk; cases hw; exact h3 hk
    · cases hw
  | true =>
    cases r with
    | im d => cases hd; cases hw; exact h3 rfl
    | fr t => cases t <;> cases hd
    | bw t => cases hw
    | bo d => cases hw
    | sp => cases hw
/-! ### the iterators -/
variable {F1 : Hp} {G : Hp → Prop}
theorem wk_list {a : Addr} {vs : List V} {xs : List D} (hR : ∀ F2 H2 n2, G H2 → Sub F1 F2 → Ok sp F2 H2 n2 → SqL K H2 a vs) (r : RpA w K F1 vs xs) : WkD w K sp (Itl K a) xs F1 G := by
  intro F H n g s k i
  have q := hR F H n g s k
  have hl := r.length
  refine ⟨fun hi => ⟨⟨vs, vs[i]'(by omega), q, by simp [show i < vs.length by omega]⟩, fun x H' y => ?_⟩, fun hi => ⟨vs, q, by omega⟩⟩
  obtain ⟨rfl, y⟩ := y
  obtain ⟨d, h1, h2⟩ := r.getV (y vs q)
  exact ⟨F, d, h1, Ext.refl sp F _, k, h2.mono s⟩
theorem wk_tup {a : Addr} {vs : List V} {xs : List D} (hR : ∀ F2 H2 n2, Sub F1 F2 → Ok sp F2 H2 n2 → SqT K H2 a vs) (r : RpA w K F1 vs xs) : WkD w K sp (Itt K a) xs F1 G := by
  intro F H n g s k i
  have q := hR F H n s k
  have hl := r.length
  refine ⟨fun hi => ⟨⟨vs, vs[i]'(by omega), q, by simp [show i < vs.length by omega]⟩, fun x H' y => ?_⟩, fun hi => ⟨vs, q, by omega⟩⟩
  obtain ⟨rfl, y⟩ := y
  obtain ⟨d, h1, h2⟩ := r.getV (y vs q)
  exact ⟨F, d, h1, Ext.refl sp F _, k, h2.mono s⟩
theorem wk_range {lo : Int} {m : Nat} : WkD w K sp (Itr lo m) ((List.range m).map fun (j : Nat) => PyData.int (lo + (j : Int))) F1 G := by
  intro F H n g s k i
  rw [List.length_map, List.length_range]
  refine ⟨fun hi => ⟨hi, fun x H' y => ?_⟩, fun hi => hi⟩
  obtain ⟨rfl, rfl⟩ := y
  exact ⟨F, .int (lo + i), by simp [hi], Ext.refl sp F _, k, .int _⟩
theorem wk_rangeC {lo c : Int} {m : Nat} : WkD w K sp (Itc lo c m) ((List.range m).map fun (j : Nat) => PyData.int (lo + (j : Int) * c)) F1 G := by
  intro F H n g s k i
  rw [List.length_map, List.length_range]
  refine ⟨fun hi => ⟨hi, fun x H' y => ?_⟩, fun hi => hi⟩
  obtain ⟨rfl, rfl⟩ := y
  exact ⟨F, .int (lo + i * c), by simp [hi], Ext.refl sp F _, k, .int _⟩
/-- a new pair -/
theorem new_pair {T : Addr} {x y : V} {d e : D} (k : Ok sp F H n) (hT : H T = none) (h1 : Rp w K F x d) (h2 : Rp w K F y e) :
    ∃ F', Ext sp F H F' (upd H T (.tup [x, y])) ∧ Ok sp F' (upd H T (.tup [x, y])) n ∧ Rp w K F' (.ref T) (.tuple [d, e]) := by
  obtain ⟨e1, k1, A, r1, _⟩ := post_tup k hT (.cons h1 (.cons h2 .nil) : RpA w K F [x, y] [d, e])
  cases r1 with
  | im r => exact ⟨_, e1, k1, r⟩
theorem wk_enum {a : Addr} {vs : List V} {xs : List D} (hR : ∀ F2 H2 n2, G H2 → Sub F1 F2 → Ok sp F2 H2 n2 → SqL K H2 a vs) (r : RpA w K F1 vs xs) : WkD w K sp (Ite K a) (xs.zipIdx.map fun p => .tuple [.int p.2, p.1]) F1 G := by
  intro F H n g s k i
  have q := hR F H n g s k
  have hl := r.length
  rw [List.length_map, List.length_zipIdx]
  refine ⟨fun hi => ⟨⟨vs, vs[i]'(by omega), q, by simp [show i < vs.length by omega]⟩, fun x H' y => ?_⟩, fun hi => ⟨vs, q, by omega⟩⟩
  obtain ⟨T, z, rfl, hT, rfl, y⟩ := y
  obtain ⟨d, h1, h2⟩ := r.getV (y vs q)
  obtain ⟨F', e1, k1, r1⟩ := new_pair k hT (.int (i : Nat)) (h2.mono s)
  exact ⟨F', _, by simp [h1], e1, k1, r1⟩
theorem wk_enumZ {a : Addr} {z : Int} {vs : List V} {xs : List D} (hR : ∀ F2 H2 n2, G H2 → Sub F1 F2 → Ok sp F2 H2 n2 → SqL K H2 a vs) (r : RpA w K F1 vs xs) : WkD w K sp (Lz.Itn K a z) (xs.zipIdx.map fun p => .tuple [.int (z + p.2), p.1]) F1 G := by
  intro F H n g s k i
  have q := hR F H n g s k
  have hl := r.length
  rw [List.length_map, List.length_zipIdx]
  refine ⟨fun hi => ⟨⟨vs, vs[i]'(by omega), q, by simp [show i < vs.length by omega]⟩, fun x H' y => ?_⟩, fun hi => ⟨vs, q, by omega⟩⟩
  obtain ⟨T, u, rfl, hT, rfl, y⟩ := y
  obtain ⟨d, h1, h2⟩ := r.getV (y vs q)
  obtain ⟨F', e1, k1, r1⟩ := new_pair k hT (.int (z + (i : Nat))) (h2.mono s)
  exact ⟨F', _, by simp [h1], e1, k1, r1⟩
theorem wk_str {x : Str} : WkD w K sp (Its x) (signsD x) F1 G := by
  intro F H n g s k i
  have hl : (signsD x).length = x.cps.size := by unfold signsD; simp
  rw [hl]
  refine ⟨fun hi => ⟨hi, fun v H' y => ?_⟩, fun hi => hi⟩
  obtain ⟨rfl, c, hc, rfl⟩ := y
  have he : x.cps.toList[i]? = some c := by rw [Array.getElem?_toList]; exact hc
  exact ⟨F, .str ⟨#[c]⟩, by unfold signsD; rw [List.getElem?_map, he]; rfl, Ext.refl sp F _, k, .str _⟩
theorem wk_mix {k1 k2 : Bool} {a b : Addr} {vs us : List V} {xs ys : List D} (hR : ∀ F2 H2 n2, G H2 → Sub F1 F2 → Ok sp F2 H2 n2 → Lz.Sqk k1 K H2 a vs ∧ Lz.Sqk k2 K H2 b us) (r : RpA w K F1 vs xs) (r2 : RpA w K F1 us ys) : WkD w K sp (Lz.ItM k1 k2 K a b) ((xs.zip ys).map fun p => .tuple [p.1, p.2]) F1 G := by
  intro F H n g s k i
  obtain ⟨q, q2⟩ := hR F H n g s k
  have hl := r.length
  have hl2 := r2.length
  rw [List.length_map, List.length_zip]
  refine ⟨fun hi => ⟨⟨vs, us, vs[i]'(by omega), us[i]'(by omega), q, q2, by simp [show i < vs.length by omega], by simp [show i < us.length by omega]⟩, fun x H' y => ?_⟩, fun hi => ⟨vs, us, q, q2, by omega⟩⟩
  obtain ⟨T, z, z2, rfl, hT, rfl, y, y2⟩ := y
  obtain ⟨d, h1, h2⟩ := r.getV (y vs q)
  obtain ⟨d2, h3, h4⟩ := r2.getV (y2 us q2)
  obtain ⟨F', e1, k1, r1⟩ := new_pair k hT (h2.mono s) (h4.mono s)
  exact ⟨F', _, by simp [List.getElem?_zip_eq_some, h1, h3], e1, k1, r1⟩
/-- a list or a tuple as a source -/
theorem src_any {st : Bool} {F0 H0 : Hp} {v : V} {r : R} {A : List Addr} {xs : List D} (e0 : Ext sp F0 H0 F H) (k : Ok sp F H n) (h : RRel w K sp F H v r A) (fa : ∀ a ∈ A, H0 a = none) (hw : walkOf st r = some xs) (hs : (isLst r || isTup r) = true) :
    ∃ kk a vs F', v = .ref a ∧ Ext sp F0 H0 F' H ∧ Sub F F' ∧ Ok sp F' H n ∧ RpA w K F' vs xs ∧ (∀ F2 H2 n2, GKeep st sp H H2 → Sub F' F2 → Ok sp F2 H2 n2 → Lz.Sqk kk K H2 a vs) ∧
      ∀ v' r' B, RRel w K sp F H v' r' B → (∀ a ∈ B, a ∉ A) → RRel w K sp F' H v' r' B := by
  cases hl : isLst r with
  | true =>
    unfold isLst at hl
    split at hl
    · rename_i ws hd
      obtain ⟨a, vs, F', rfl, e3, s3, k3, rp, hR, hO⟩ := src_list e0 k h fa hw hd
      exact ⟨true, a, vs, F', rfl, e3, s3, k3, rp, hR, hO⟩
    · cases hl
  | false =>
    rw [hl, Bool.false_or] at hs
    unfold isTup at hs
    split at hs
    · rename_i ws hd
      obtain ⟨a, vs, rfl, rp, hR⟩ := src_tup e0 k h hw hd
      exact ⟨false, a, vs, F, rfl, e0, Sub.refl F, k, rp, fun F2 H2 n2 _ s k2 => hR F2 H2 n2 s k2, fun _ _ _ z _ => z⟩
    · cases hs
end
theorem rg_ok {i j c : Int} (h : -(2 ^ 60) ≤ i ∧ i < 2 ^ 60 ∧ -(2 ^ 60) ≤ j ∧ j < 2 ^ 60 ∧ 0 < c ∧ c < 2 ^ 29) : RgC i j c ((j - i + c - 1) / c).toNat := by
  obtain ⟨h1, h2, h3, h4, h5, h6⟩ := h
  have hs : Builtin.Range.rangeSize i j c = (((j - i + c - 1) / c).toNat : Int) := by
    unfold Builtin.Range.rangeSize
    rw [if_pos h5]
    by_cases hij : i < j
    · rw [if_pos hij]
      have e : j - i + c - 1 = (j - i - 1) + 1 * c := by omega
      rw [e, Int.add_mul_ediv_right _ _ (by omega)]
      have : 0 ≤ (j - i - 1) / c := Int.ediv_nonneg (by omega) (by omega)
      omega
    · rw [if_neg hij]
      have : (j - i + c - 1) / c ≤ 0 := by
        have : (j - i + c - 1) / c < 1 := Int.ediv_lt_of_lt_mul h5 (by omega)
        omega
      omega
  refine ⟨by omega, by omega, ?_, hs⟩
  have hb : Builtin.Range.rangeSize i j c ≤ 2 ^ 61 ∧ 0 ≤ Builtin.Range.rangeSize i j c := by
    unfold Builtin.Range.rangeSize
    rw [if_pos h5]
    split
    · have h0 : 0 ≤ (j - i - 1) / c := Int.ediv_nonneg (by omega) (by omega)
      have h1 : (j - i - 1) / c ≤ j - i - 1 := Int.ediv_le_self _ (by omega)
      omega
    · omega
  unfold Builtin.Range.small
  clear hs
  generalize Builtin.Range.rangeSize i j c = m at hb ⊢
  simp only [Builtin.Range.rangeFitsLong, Bool.and_eq_true, Bool.or_eq_true, decide_eq_true_eq, beq_iff_eq, show c > 0 from h5, if_true]
  omega
section
variable (X : Cx) (CX : CXT) (k : Nat) (xc : XC) (EK : XK) (tb : Tb) (sp : Option Addr)
def wpI (tg iter : Expr) : TI := fun σ H R => ∀ (pins : List (Addr × Obj)) (s : Shared), Inv X pins σ H s →
  wpAny (model X.prog X.w) X.A (eval iter X.env) (fun v s1 => wpAny (model X.prog X.w) X.A (pyIter v) (PIE X pins σ tg R) X.xe s1) X.xe s
def okW (st : Bool) (tg iter : Expr) (p : P) : Prop := ∀ ⦃E : En⦄ ⦃σ : L2.St⦄ ⦃F H : Hp⦄ ⦃n : Int⦄ ⦃fp : Nat → List Addr⦄ ⦃ro : Ro (List D)⦄ ⦃R : It → Hp → Prop⦄, EnvRel X.w X.K sp F H E σ fp → Ok sp F H n → evW tb st p E n = some ro → WX xc sp F H EK ro →
  (∀ xs n', ro = .ok xs n' → ∀ J F' H', Ext sp F H F' H' → Ok sp F' H' n' → WkD X.w X.K sp J xs F' (GKeep st sp H') → R J H') → wpI X tg iter σ H R
end
section
variable {X : Cx} {CX : CXT} {k : Nat} {xc : XC} {EK : XK} {tb : Tb} {sp : Option Addr} {st : Bool} {tg : Expr}
theorem pi_wp {iter : Expr} : PI X tg iter (wpI X tg iter) := ⟨fun pins s σ H R I h => h pins s I⟩
theorem wpI_of {iter : Expr} {wi : TI} {σ : L2.St} {H : Hp} {R : It → Hp → Prop} (p : PI X tg iter wi) (h : wi σ H R) : wpI X tg iter σ H R := fun pins s I => p.run pins s σ H R I h
theorem walkOf_dat {r : R} {xs : List D} (h : walkOf st r = some xs) : (∃ ys, r.dat = some (.list ys)) ∨ ∃ ys, r.dat = some (.tuple ys) := by
  have it : ∀ {d : D} {xs}, itemsOf d = some xs → (∃ ys, d = .list ys) ∨ ∃ ys, d = .tuple ys := by
    intro d xs h
    cases d with
    | list ys => exact .inl ⟨ys, rfl⟩
    | tuple ys => exact .inr ⟨ys, rfl⟩
    | _ => cases h
  have go : ∀ {d xs}, r.dat = some d → itemsOf d = some xs → (∃ ys, r.dat = some (.list ys)) ∨ ∃ ys, r.dat = some (.tuple ys) := fun {d xs} h1 h2 => by
    rcases it h2 with ⟨ys, rfl⟩ | ⟨ys, rfl⟩
    · exact .inl ⟨ys, h1⟩
    · exact .inr ⟨ys, h1⟩
  cases st with
  | true =>
    cases r with
    | im d => exact go rfl h
    | fr t =>
      simp only [walkOf, Option.bind_eq_some_iff] at h
      obtain ⟨d, h1, h2⟩ := h
      exact go h1 h2
    | bw t => cases h
    | bo d => cases h
    | sp => cases h
  | false =>
    simp only [walkOf, Option.bind_eq_some_iff] at h
    obtain ⟨ys, ⟨d, h1, h2⟩, h3⟩ := h
    exact go h1 h2
variable (B : Bd X CX k xc EK tb)
include B
theorem w_itr {a : P} {e : Expr} (ha : okE X xc EK tb sp e a) : okW X xc EK tb sp st tg e (.itr a) := by
  intro E σ F H n fp ro R env ok h wx q
  simp only [evW] at h
  rcases bind_some h with ⟨r, n1, e1, h1⟩ | ⟨c, d, n1, e1, rfl⟩
  · obtain ⟨xs, h2, rfl⟩ := of_some h1
    rcases walkOf_dat h2 with ⟨ys, hd⟩ | ⟨ys, hd⟩
    · refine wpI_of (pi_list pe_wp) (ha env ok e1 (fun c d n z => by cases z) fun r' n' z v F1 H1 p1 => ?_)
      cases z
      obtain ⟨ee, k1, A, r1, f1⟩ := p1
      obtain ⟨a, vs, F', rfl, e2, _, k2, rp, hR, _⟩ := src_list ee k1 r1 f1 h2 hd
      exact ⟨a, rfl, ⟨vs, (hR F' H1 n1 (GKeep.refl st) (Sub.refl F') k2)⟩, q _ _ rfl _ F' H1 e2 k2 (wk_list (fun F2 H2 n2 g s k => (hR F2 H2 n2 g s k)) rp)⟩
    · refine wpI_of (pi_tup pe_wp) (ha env ok e1 (fun c d n z => by cases z) fun r' n' z v F1 H1 p1 => ?_)
      cases z
      obtain ⟨ee, k1, A, r1, f1⟩ := p1
      obtain ⟨a, vs, rfl, rp, hR⟩ := src_tup ee k1 r1 h2 hd
      exact ⟨a, rfl, ⟨vs, hR F1 H1 n1 (Sub.refl F1) k1⟩, q _ _ rfl _ F1 H1 ee k1 (wk_tup hR rp)⟩
  · exact wpI_of (pi_list pe_wp) (ha env ok e1 (fun c' d' n' z => by cases z; exact wx _ _ _ rfl) fun r' n' z => by cases z)
omit B in
theorem rng_key {ro : Ro (List D)} {vs : List V} {F H F1 H1 : Hp} {n1 : Int} {rs : List R} (p1 : PostA X.w X.K sp F H rs n1 vs F1 H1) (h1 : M.of (((datAll rs).bind fun ds => (intsOf ds).bind rngOf)) n1 = some ro) :
    ∃ is xs, vs = is.map V.int ∧ rngOf is = some xs ∧ ro = .ok xs n1 ∧ Ext sp F H F1 H1 ∧ Ok sp F1 H1 n1 := by
  obtain ⟨xs, h2, rfl⟩ := of_some h1
  rw [Option.bind_eq_some_iff] at h2
  obtain ⟨ds, h3, h4⟩ := h2
  rw [Option.bind_eq_some_iff] at h4
  obtain ⟨is, h5, h6⟩ := h4
  obtain ⟨e1, k1, A, r1, f1⟩ := p1
  exact ⟨is, xs, ints_rel (r1.dat k1 h3) h5, h6, rfl, e1, k1⟩
theorem w_rng1 {as : P} {a : Expr} {p pos : Pos} (hg : Gl X "range") (ha : okA X xc EK tb sp [a] as) (hpl : plainB a = true) (hln : plen as = 1) : okW X xc EK tb sp st tg (.Call (.Name "range" p) [a] [] pos) (.rng as) := by
  intro E σ F H n fp ro R env ok h wx q
  simp only [evW] at h
  refine wpI_of (pi_range1 hg B.rng pa_wp (star_plain hpl)) (seqA2 ha env ok h wx fun rs n1 e1 h1 vs F1 H1 p1 => ?_)
  have hvl : vs.length = 1 := by obtain ⟨_, _, A, r1, _⟩ := p1; rw [r1.length, evA_len e1, hln]
  obtain ⟨is, xs, rfl, h2, rfl, e1, k1⟩ := rng_key p1 h1
  rw [List.length_map] at hvl
  match is, hvl, h2 with
  | [j], _, h2 =>
    simp only [rngOf] at h2
    split at h2
    · rename_i hb
      cases h2
      refine ⟨j, rfl, hb.1, hb.2, q _ _ rfl _ F1 H1 e1 k1 ?_⟩
      have := wk_range (w := X.w) (K := X.K) (sp := sp) (lo := 0) (m := j.toNat) (F1 := F1) (G := GKeep st sp H1)
      simpa only [Int.zero_add] using this
    · cases h2
theorem w_rng2 {as : P} {a b : Expr} {p pos : Pos} (hg : Gl X "range") (ha : okA X xc EK tb sp [a, b] as) (hpl : plainB a = true) (hpl2 : plainB b = true) (hln : plen as = 2) : okW X xc EK tb sp st tg (.Call (.Name "range" p) [a, b] [] pos) (.rng as) := by
  intro E σ F H n fp ro R env ok h wx q
  simp only [evW] at h
  refine wpI_of (pi_range2 hg B.rng pa_wp (by rw [star_plain hpl, star_plain hpl2]; rfl) (star_plain hpl2)) (seqA2 ha env ok h wx fun rs n1 e1 h1 vs F1 H1 p1 => ?_)
  have hvl : vs.length = 2 := by obtain ⟨_, _, A, r1, _⟩ := p1; rw [r1.length, evA_len e1, hln]
  obtain ⟨is, xs, rfl, h2, rfl, e1, k1⟩ := rng_key p1 h1
  rw [List.length_map] at hvl
  match is, hvl, h2 with
  | [i, j], _, h2 =>
    simp only [rngOf] at h2
    split at h2
    · rename_i hb
      cases h2
      exact ⟨i, j, rfl, hb, q _ _ rfl _ F1 H1 e1 k1 wk_range⟩
    · cases h2
theorem w_rng3 {as : P} {a b c : Expr} {p pos : Pos} (hg : Gl X "range") (ha : okA X xc EK tb sp [a, b, c] as) (hpl : plainB a = true) (hpl2 : [b, c].all plainB = true) (hln : plen as = 3) : okW X xc EK tb sp st tg (.Call (.Name "range" p) [a, b, c] [] pos) (.rng as) := by
  intro E σ F H n fp ro R env ok h wx q
  simp only [evW] at h
  refine wpI_of (pi_range3 hg B.rng pa_wp (star_plain hpl) (back_plain hpl2)) (seqA2 ha env ok h wx fun rs n1 e1 h1 vs F1 H1 p1 => ?_)
  have hvl : vs.length = 3 := by obtain ⟨_, _, A, r1, _⟩ := p1; rw [r1.length, evA_len e1, hln]
  obtain ⟨is, xs, rfl, h2, rfl, e1, k1⟩ := rng_key p1 h1
  rw [List.length_map] at hvl
  match is, hvl, h2 with
  | [i, j, c], _, h2 =>
    simp only [rngOf] at h2
    split at h2
    · rename_i hb
      cases h2
      exact ⟨i, j, c, _, rfl, rg_ok hb, q _ _ rfl _ F1 H1 e1 k1 wk_rangeC⟩
    · cases h2
theorem w_enum {a : P} {x : Expr} {elts : List Expr} {kk : Nat} {tpos p pos : Pos} (hg : Gl X "enumerate") (ha : okE X xc EK tb sp x a) (hpl : plainB x = true) : okW X xc EK tb sp st (.Tuple elts kk tpos) (.Call (.Name "enumerate" p) [x] [] pos) (.enum a) := by
  intro E σ F H n fp ro R env ok h wx q
  simp only [evW] at h
  refine wpI_of (pi_enum hg B.enm (pa_cons pe_wp pa_nil (star_plain hpl)) (star_plain hpl)) (seqE ha env ok h wx fun r n1 h1 v F1 H1 p1 => ?_)
  obtain ⟨xs, h2, rfl⟩ := of_some h1
  split at h2
  · rename_i hl
    rw [Option.map_eq_some_iff] at h2
    obtain ⟨ys, h3, rfl⟩ := h2
    unfold isLst at hl
    split at hl
    · rename_i zs hd
      obtain ⟨ee, k1, A, r1, f1⟩ := p1
      obtain ⟨a, vs, F', rfl, e2, _, k2, rp, hR, _⟩ := src_list ee k1 r1 f1 h3 hd
      exact ⟨a, vs, rfl, (hR F' H1 n1 (GKeep.refl st) (Sub.refl F') k2), q _ _ rfl _ F' H1 e2 k2 (wk_enum (fun F2 H2 n2 g s k => (hR F2 H2 n2 g s k)) rp)⟩
    · cases hl
  · cases h2
theorem w_enus {a b : P} {x y : Expr} {elts : List Expr} {kk : Nat} {tpos p kp pos : Pos} (hg : Gl X "enumerate") (ha : okE X xc EK tb sp x a) (hb : okK X xc EK tb sp [⟨some "start", y, kp⟩] (.cons b .no)) (hpl : plainB x = true) : okW X xc EK tb sp st (.Tuple elts kk tpos) (.Call (.Name "enumerate" p) [x] [⟨some "start", y, kp⟩] pos) (.enus a b) := by
  intro E σ F H n fp ro R env ok h wx q
  simp only [evW] at h
  refine wpI_of (Lz.pi_enumZ hg B.enm (pa_cons pe_wp pa_nil (star_plain hpl)) pk_wp (by rw [star_plain hpl]; rfl)) (seqE ha env ok h wx fun r n1 h1 v F1 H1 p1 => ?_)
  have h1' : M.bind (evA tb (.cons b .no) E n1) (fun rs n => match rs with
      | [y] => M.of ((opInt y).bind fun k => if isLst r && decide (-(2 ^ 62) ≤ k ∧ k < 2 ^ 62) then (walkOf st r).map fun xs => xs.zipIdx.map fun p => .tuple [.int (k + p.2), p.1] else none) n
      | _ => none) = some ro := by
    simp only [evA]
    rw [← h1]
    cases evE tb b E n1 with
    | none => rfl
    | some m => cases m <;> rfl
  refine seqK hb (env.ext p1.1) p1.2.1 h1' (wx.ext p1.1) fun rs n2 h2 vs F2 H2 p2 => ?_
  obtain ⟨e2, k2, A2, r2, f2⟩ := p2
  match rs, h2, r2 with
  | [u], h2, .cons (v := vz) rz .nil _ =>
    obtain ⟨xs, h3, rfl⟩ := of_some h2
    rw [Option.bind_eq_some_iff] at h3
    obtain ⟨z, hz, h3⟩ := h3
    split at h3
    · rename_i hl
      rw [Bool.and_eq_true, decide_eq_true_eq] at hl
      obtain ⟨hl, hz1, hz2⟩ := hl
      rw [Option.map_eq_some_iff] at h3
      obtain ⟨ys, h3, rfl⟩ := h3
      have ev : vz = .int z := rz.int k2 (opInt_some hz)
      subst ev
      unfold isLst at hl
      split at hl
      · rename_i zs hd
        obtain ⟨ee, k1, A, r1, f1⟩ := p1
        obtain ⟨a, vs, F', rfl, e3, _, k3, rp, hR, _⟩ := src_list (ee.trans e2) k2 (r1.ext e2) (fun a ha => f1 a ha) h3 hd
        exact ⟨a, vs, z, rfl, rfl, (hR F' H2 n2 (GKeep.refl st) (Sub.refl F') k3), by omega, by omega, q _ _ rfl _ F' H2 e3 k3 (wk_enumZ (fun F2 H2 n2 g s k => (hR F2 H2 n2 g s k)) rp)⟩
      · cases hl
    · cases h3
theorem w_sgn {a : P} {e : Expr} (ha : okE X xc EK tb sp e a) : okW X xc EK tb sp st tg e (.sgn a) := by
  intro E σ F H n fp ro R env ok h wx q
  simp only [evW] at h
  refine wpI_of (pi_str pe_wp) (seqE ha env ok h wx fun r n1 h1 v F1 H1 p1 => ?_)
  obtain ⟨xs, h2, rfl⟩ := of_some h1
  rw [Option.map_eq_some_iff] at h2
  obtain ⟨s, h3, rfl⟩ := h2
  obtain ⟨ee, k1, A, r1, f1⟩ := p1
  exact ⟨s, r1.str k1 (opStr_dat h3), q _ _ rfl _ F1 H1 ee k1 wk_str⟩
theorem w_zip {a b : P} {x y : Expr} {elts : List Expr} {kk : Nat} {tpos p pos : Pos} (hg : Gl X "zip") (ha : okE X xc EK tb sp x a) (hb : okE X xc EK tb sp y b) (hpl : plainB x = true) (hpl2 : plainB y = true) : okW X xc EK tb sp st (.Tuple elts kk tpos) (.Call (.Name "zip" p) [x, y] [] pos) (.zip a b) := by
  intro E σ F H n fp ro R env ok h wx q
  simp only [evW] at h
  refine wpI_of (Lz.pi_mix hg B.zip (pa_cons pe_wp (pa_cons pe_wp pa_nil (star_plain hpl2)) (star_plain hpl)) (star_plain hpl) (back_plain (by simpa using hpl2))) (seqE ha env ok h wx fun r n1 h1 v F1 H1 p1 => seqE hb (env.ext p1.1) p1.2.1 h1 (wx.ext p1.1) fun r' n2 h2 v' F2 H2 p2 => ?_)
  obtain ⟨xs, h3, rfl⟩ := of_some h2
  split at h3
  rotate_left
  · cases h3
  rename_i hk
  rw [Option.bind_eq_some_iff] at h3
  obtain ⟨ys, h4, h5⟩ := h3
  rw [Option.map_eq_some_iff] at h5
  obtain ⟨zs, h6, rfl⟩ := h5
  obtain ⟨ee, k1, A, r1, f1⟩ := p1
  obtain ⟨ee2, k2, A2, r2, f2⟩ := p2
  have r1' := r1.ext ee2
  have e12 := ee.trans ee2
  have f2' : ∀ a ∈ A2, H a = none := fun a ha => ee.fresh (f2 a ha)
  rw [Bool.and_eq_true] at hk
  obtain ⟨j1, a, vs, F', rfl, e3, s3, k3, rp, hR, hO⟩ := src_any e12 k2 r1' f1 h4 hk.1
  have r2' : RRel X.w X.K sp F' H2 v' r' A2 := hO _ _ _ r2 fun a ha z => (r1.there a z).2.1 (f2 a ha)
  obtain ⟨j2, a2, vs2, F'', rfl, e4, s4, k4, rp2, hR2, _⟩ := src_any e3 k3 r2' f2' h6 hk.2
  exact ⟨j1, j2, a, a2, vs, vs2, rfl, hR F'' H2 n2 (GKeep.refl st) s4 k4, hR2 F'' H2 n2 (GKeep.refl st) (Sub.refl F'') k4, q _ _ rfl _ F'' H2 e4 k4 (wk_mix (fun F3 H3 n3 g s k => ⟨hR F3 H3 n3 g (s4.trans s) k, hR2 F3 H3 n3 g s k⟩) (rp.mono s4) rp2)⟩
end
end Lk
end
section
set_option linter.all false
set_option maxRecDepth 100000
set_option maxHeartbeats 2000000
/-! A comprehension's loops. -/
namespace Lk
open PySem PySem.Spec PyProof.Rows L2
/-- all but the list that is being made -/
def Wo (D : Addr) (H : Hp) : Hp := fun a => if a = D then none else H a
theorem wo_ne {D a : Addr} {H : Hp} (h : a ≠ D) : Wo D H a = H a := if_neg h
theorem wo_sub {D : Addr} {H : Hp} : Sub (Wo D H) H := fun a o e => by
  unfold Wo at e; split at e
  · cases e
  · exact e
theorem wo_upd {D : Addr} {H : Hp} {o : HO} : Wo D (upd H D o) = Wo D H := by
  funext a
  unfold Wo
  split
  · rfl
  · rename_i h; exact upd_ne h
theorem wo_none {D : Addr} {H : Hp} (h : H D = none) : Wo D H = H := by
  funext a
  unfold Wo
  split
  · rename_i e; subst e; exact h.symm
  · rfl
/-- the list that is being made -/
structure AccT (w : World) (K : KF) (sp : Option Addr) (D : Addr) (t : OT) (F H : Hp) : Prop where
  at_ : Ow w K F H (.ref D) t [D]
  fr : F D = none
  ns : sp ≠ some D
  hn : H D ≠ none
section
variable {w : World} {K : KF} {sp : Option Addr} {F H F' H' : Hp} {n n' : Int} {E : En} {σ : L2.St} {fp : Nat → List Addr} {D : Addr} {ds : List Lk.D}
theorem Ext.wo (e : Ext sp F H F' H') : Ext sp F (Wo D H) F' (Wo D H') := by
  refine ⟨e.sub, fun a o hs h => ?_, fun a h => e.own a ?_, fun a h z => ?_⟩
  · by_cases q : a = D
    · unfold Wo at h; rw [if_pos q] at h; cases h
    · rw [wo_ne q] at h ⊢; exact e.keep a o hs h
  · by_cases q : a = D
    · unfold Wo at h; rw [if_pos q] at h; exact absurd rfl h
    · rw [wo_ne q] at h; exact h
  · by_cases q : a = D
    · unfold Wo at h; rw [if_pos q] at h; exact absurd rfl h
    · rw [wo_ne q] at h z; exact e.there a h z
theorem Ext.unwo (hD : H D = none) (e : Ext sp F (Wo D H) F' (Wo D H')) : Ext sp F H F' H' := by
  rw [wo_none hD] at e
  refine ⟨e.sub, fun a o hs h => wo_sub a o (e.keep a o hs h), e.own, fun a h z => ?_⟩
  refine e.there a h ?_
  unfold Wo
  split
  · rfl
  · exact z
theorem EnvRel.unwo (h : EnvRel w K sp F (Wo D H) E σ fp) : EnvRel w K sp F H E σ fp where
  len := h.len
  rel := fun i b hb => by
    obtain ⟨v, hv, r⟩ := h.rel i b hb
    refine ⟨v, hv, ?_⟩
    generalize fp i = A at r
    cases r with
    | im r => exact .im r
    | mu r nd => exact .mu (r.at (Sub.refl F) fun _ _ _ z => wo_sub _ _ z) nd
    | sp r => exact .sp r
  out := fun i a ha => by
    obtain ⟨h1, h2, h3⟩ := h.out i a ha
    refine ⟨h1, fun z => h2 ?_, h3⟩
    unfold Wo
    split
    · rfl
    · exact z
  dis := h.dis
theorem AccT.ext {t : OT} (a : AccT w K sp D t F H) (e : Ext sp F H F' H') : AccT w K sp D t F' H' :=
  ⟨a.at_.ext e fun x hx => by rw [List.mem_singleton] at hx; subst hx; exact a.ns, by rw [e.own D a.hn]; exact a.fr, a.ns, e.there D a.hn⟩
theorem Ok.updl {l : Addr} {ob : HO} (k : Ok sp F H n) (hF : F l = none) (hs : sp ≠ some l) (ht : ∀ xs, ob ≠ .tup xs) (hf : isFrz ob = false) : Ok sp F (upd H l ob) n := by
  refine ⟨fun b u e => ?_, fun b xs e => ?_, fun b o xs e => ?_, fun b e => ?_⟩
  · have z : b ≠ l := fun z => by subst z; rw [hF] at e; cases e
    rw [upd_ne z]; exact k.sub b u e
  · by_cases z : b = l
    · subst z; rw [upd_same] at e; exact absurd (Option.some.inj e) (ht xs)
    · rw [upd_ne z] at e; exact k.tup b xs e
  · by_cases z : b = l
    · subst z; rw [upd_same] at e; cases e; cases hf
    · rw [upd_ne z] at e; exact k.tupf b o xs e
  · have z : b ≠ l := fun z => by subst z; exact hs e
    rw [upd_ne z]; exact k.spt b e
end
/-! ### that it only grows -/
theorem loopC_grow {α : Type} {g : α → Nat} {f : Lk.D → Int → α → M α} (hf : ∀ x n a a' n', f x n a = some (.ok a' n') → g a ≤ g a') : ∀ {xs : List Lk.D} {n n' : Int} {a a' : α}, loopC f xs n a = some (.ok a' n') → g a ≤ g a'
  | [], n, n', a, a', h => by cases h; exact Nat.le_refl _
  | x :: xs, n, n', a, a', h => by
    unfold loopC at h
    rcases bind_some h with ⟨a1, n1, h1, h2⟩ | ⟨_, _, _, _, z⟩
    · exact Nat.le_trans (hf _ _ _ _ _ h1) (loopC_grow hf h2)
    · cases z
theorem evC_grow {tb : Tb} {f : En → Int → OT → M OT} (hf : ∀ E n a a' n', f E n a = some (.ok a' n') → sizeC a ≤ sizeC a') : ∀ {p : P} {E : En} {n n' : Int} {a a' : OT}, evC tb p E n a f = some (.ok a' n') → sizeC a ≤ sizeC a' := by
  intro p
  induction p with
  | no => intro E n n' a a' h; simp only [evC] at h; exact hf _ _ _ _ _ h
  | gen vs tg it ifs rest _ _ ih =>
    intro E n n' a a' h
    simp only [evC] at h
    rcases bind_some h with ⟨xs, n1, _, h1⟩ | ⟨_, _, _, _, z⟩
    · refine loopC_grow (fun x n a a' n' h => ?_) h1
      split at h
      · rcases bind_some h with ⟨c, n2, _, h2⟩ | ⟨_, _, _, _, z⟩
        · split at h2
          · exact ih h2
          · cases h2; exact Nat.le_refl _
        · cases z
      · cases h
    · cases z
  | _ => intro E n n' a a' h; simp only [evC] at h; cases h
/-- the last: an item -/
def emitK (tb : Tb) (ck : CK) (e1 e2 : P) : En → Int → OT → M OT := fun E2 n acc => (evE tb e1 E2 n).calm.bind fun r n => match ck with
  | .di => (evE tb e2 E2 n).calm.bind fun q n => M.of (putD acc r q) n
  | _ => M.of (putL acc r) n
def isCK : CK → OT → Prop
  | .li, .li _ => True
  | .se, .se _ => True
  | .di, .di _ => True
  | _, _ => False
/-! ### readings -/
def wpTs (X : Cx) (ifs : List Expr) : TT := fun σ H Q => ∀ (pins : List (Addr × Obj)) (s : Shared), Inv X pins σ H s →
  wpAny (model X.prog X.w) X.A (forIn ifs true fun c r => if r = true then do let ok ← isTrue c X.env (eval c X.env); pure (ForInStep.yield ok) else pure (ForInStep.yield r)) (TP X pins σ Q) X.xe s
theorem pts_wp {X : Cx} {ifs : List Expr} : PTs X ifs (wpTs X ifs) := ⟨fun pins s σ H Q I h => h pins s I⟩
theorem wpTs_of {X : Cx} {ifs : List Expr} {t : TT} {σ : L2.St} {H : Hp} {Q : Bool → Hp → Prop} (p : PTs X ifs t) (h : t σ H Q) : wpTs X ifs σ H Q := fun pins s I => p.run pins s σ H Q I h
def wpIn (X : Cx) (k : CK) (e1 e2 : Expr) (gens : List Comprehension) (scope : Scope) (pos : Pos) (d : Nat) (D : Addr) (vs : List Nat) : TIn := fun σ H Q => ∀ (pins : List (Addr × Obj)) (s : Shared), Inv X pins σ H s →
  InW X.prog X.w X.A k e1 e2 gens scope pos X.env d (.ref D) (fun s' => ∃ H', Inv X pins (wipe σ vs) H' s' ∧ Q H') s
theorem pin_wp {X : Cx} {k : CK} {e1 e2 : Expr} {gens : List Comprehension} {scope : Scope} {pos : Pos} {d : Nat} {D : Addr} {vs : List Nat} : PIn X k e1 e2 gens scope pos d D vs (wpIn X k e1 e2 gens scope pos d D vs) := ⟨fun pins s σ H Q I h => h pins s I⟩
theorem wpIn_of {X : Cx} {k : CK} {e1 e2 : Expr} {gens : List Comprehension} {scope : Scope} {pos : Pos} {d : Nat} {D : Addr} {vs : List Nat} {t : TIn} {σ : L2.St} {H : Hp} {Q : Hp → Prop} (p : PIn X k e1 e2 gens scope pos d D vs t) (h : t σ H Q) :
    wpIn X k e1 e2 gens scope pos d D vs σ H Q := fun pins s I => p.run pins s σ H Q I h
section
variable (X : Cx) (tb : Tb) (sp : Option Addr)
def okIf (ifs : List Expr) (p : P) : Prop := ∀ ⦃E : En⦄ ⦃σ : L2.St⦄ ⦃F H : Hp⦄ ⦃n : Int⦄ ⦃fp : Nat → List Addr⦄ ⦃c : Bool⦄ ⦃n' : Int⦄ ⦃Q : Bool → Hp → Prop⦄, EnvRel X.w X.K sp F H E σ fp → Ok sp F H n → evIf tb p E n = some (.ok c n') →
  (∀ F' H', Ext sp F H F' H' → Ok sp F' H' n' → Q c H') → wpTs X ifs σ H Q
def okC (ck : CK) (e1 e2 : Expr) (gens : List Comprehension) (scope : Scope) (pos : Pos) (d : Nat) (vs : List Nat) (p : P) (f : En → Int → OT → M OT) : Prop := ∀ (D : Addr) ⦃E : En⦄ ⦃σ : L2.St⦄ ⦃F H : Hp⦄ ⦃n : Int⦄ ⦃fp : Nat → List Addr⦄ ⦃t t' : OT⦄ ⦃n' : Int⦄ ⦃Q : Hp → Prop⦄,
  EnvRel X.w X.K sp F (Wo D H) E σ fp → Ok sp F H n → AccT X.w X.K sp D t F H → isCK ck t → evC tb p E n t f = some (.ok t' n') → sizeC t' ≤ cap →
  (∀ F' H', Ext sp F (Wo D H) F' (Wo D H') → Ok sp F' H' n' → AccT X.w X.K sp D t' F' H' → Q H') → wpIn X ck e1 e2 gens scope pos d D vs σ H Q
end
section
variable {X : Cx} {CX : CXT} {k : Nat} {xc : XC} {EK : XK} {tb : Tb} {sp : Option Addr} {sc : Scope}
theorem c_if0 : okIf X tb sp [] .no := by
  intro E σ F H n fp c n' Q env ok h q
  simp only [evIf] at h
  cases h
  exact wpTs_of pts_nil (q F H (Ext.refl sp F H) ok)
theorem c_if1 {e : Expr} {p : P} (ht : okT X xc EK tb sp e p) : okIf X tb sp [e] (.cons p .no) := by
  intro E σ F H n fp c n' Q env ok h q
  simp only [evIf] at h
  refine wpTs_of (pts_one pt_wp) (seqT ht env ok h (fun _ _ _ z => by cases z) fun kk n1 h1 F1 H1 e1 k1 => ?_)
  cases kk with
  | true => rw [if_pos rfl] at h1; cases h1; exact q F1 H1 e1 k1
  | false => rw [if_neg Bool.false_ne_true] at h1; cases h1; exact q F1 H1 e1 k1
theorem putL_li {ds : List Lk.D} {r : R} {t : OT} (h : putL (.li ds) r = some t) : ∃ d, r.fix = some d ∧ t = .li (ds ++ [d]) := by
  unfold putL at h
  cases hr : r.fix with
  | none => rw [hr] at h; cases h
  | some d => rw [hr] at h; cases h; exact ⟨d, rfl, rfl⟩
theorem putL_grow {a a' : OT} {r : R} (h : putL a r = some a') : sizeC a ≤ sizeC a' := by
  unfold putL at h
  split at h
  · cases h; simp [sizeC]
  · split at h
    · cases h
      simp only [sizeC]
      split <;> simp
    · cases h
  · cases h
theorem dput_len {α : Type} (kvs : List (D × α)) (k : D) (v : α) : kvs.length ≤ (dput kvs k v).length := by
  unfold dput
  split <;> simp
theorem putD_grow {a a' : OT} {r q : R} (h : putD a r q = some a') : sizeC a ≤ sizeC a' := by
  unfold putD at h
  split at h
  · split at h
    · cases h; exact dput_len _ _ _
    · cases h
  · cases h
theorem putL_ck {ck : CK} {a a' : OT} {r : R} (hc : isCK ck a) (h : putL a r = some a') : isCK ck a' := by
  unfold putL at h
  split at h
  · cases h; cases ck <;> first | exact True.intro | exact hc.elim
  · split at h
    · cases h; cases ck <;> first | exact True.intro | exact hc.elim
    · cases h
  · cases h
theorem putD_ck {ck : CK} {a a' : OT} {r q : R} (hc : isCK ck a) (h : putD a r q = some a') : isCK ck a' := by
  unfold putD at h
  split at h
  · split at h
    · cases h; cases ck <;> first | exact True.intro | exact hc.elim
    · cases h
  · cases h
theorem emit_grow {ck : CK} {e1 e2 : P} : ∀ E n a a' n', emitK tb ck e1 e2 E n a = some (.ok a' n') → sizeC a ≤ sizeC a' := by
  intro E n a a' n' h
  unfold emitK at h
  rcases bind_some h with ⟨r, n1, _, h1⟩ | ⟨_, _, _, _, z⟩
  rotate_left
  · cases z
  cases ck with
  | di =>
    rcases bind_some h1 with ⟨q, n2, _, h2⟩ | ⟨_, _, _, _, z⟩
    · obtain ⟨t, h3, z⟩ := of_some h2
      cases z; exact putD_grow h3
    · cases z
  | li =>
    obtain ⟨t, h2, z⟩ := of_some h1
    cases z; exact putL_grow h2
  | se =>
    obtain ⟨t, h2, z⟩ := of_some h1
    cases z; exact putL_grow h2
/-- the last clause's item -/
theorem c_last {ck : CK} {e1 e2 : Expr} {gens : List Comprehension} {scope : Scope} {pos : Pos} {d : Nat} {p1 p2 : P} (hck : ck = .li ∨ ck = .se) (hu : X.A.units + 65 < cLine) (hx : X.xe = fun _ _ => False) (hd : gens[d + 1]? = none) (he : okE X xc EK tb sp e1 p1) : okC X tb sp ck e1 e2 gens scope pos d [] .no (emitK tb ck p1 p2) := by
  intro D E σ F H n fp t t' n' Q env ok acc hk h hz q
  have h : ((evE tb p1 E n).calm.bind fun r n => M.of (putL t r) n) = some (.ok t' n') := by
    simp only [evC, emitK] at h
    rw [← h]
    rcases hck with rfl | rfl <;> rfl
  rcases bind_some h with ⟨r, n1, h0, h1⟩ | ⟨_, _, _, _, z⟩
  rotate_left
  · cases z
  obtain ⟨a, n2, h0, z⟩ := calm_some h0
  cases z
  obtain ⟨t2, h2, z⟩ := of_some h1
  cases z
  rcases hck with rfl | rfl
  · cases t with
    | li ds =>
      obtain ⟨dd, h3, rfl⟩ := putL_li h2
      refine wpIn_of (pin_list hx hd pe_wp) (he env.unwo ok h0 (fun _ _ _ z => by cases z) fun r' n' z v F1 H1 p1 => ?_)
      cases z
      obtain ⟨ee, k1, A, r1, f1⟩ := p1
      have hA := r1.there
      have kz := fz_ok k1 hA
      have ez := fz_ext ee hA f1
      have accz := acc.ext ez
      obtain ⟨ow, hF, hs, hn⟩ := id accz
      cases ow with
      | li hv hr =>
        refine ⟨_, hv, ?_, q _ _ ?_ (kz.updl hF hs (fun _ z => nomatch z) rfl) ⟨.li upd_same (hr.append (.one (r1.fix k1 h3))), hF, hs, upd_none hn⟩⟩
        · have hz' : ds.length + 1 ≤ cap := by
            have hz' : (ds ++ [dd]).length ≤ cap := hz
            rw [List.length_append] at hz'
            exact hz'
          rw [hr.length]
          exact cap_lt hz'
        · rw [wo_upd]
          exact ez.wo
    | _ => exact hk.elim
  · cases t with
    | se xs =>
      have h2' := h2
      unfold putL at h2'
      cases hfx : r.fix with
      | none => rw [hfx] at h2'; cases h2'
      | some dd =>
        rw [hfx] at h2'
        simp only at h2'
        split at h2'
        rotate_left
        · cases h2'
        rename_i hcnd
        cases h2'
        rw [Bool.and_eq_true, decide_eq_true_eq] at hcnd
        obtain ⟨hc1, hc2⟩ := hcnd
        refine wpIn_of (pin_set hx hu hd pe_wp) (he env.unwo ok h0 (fun _ _ _ z => by cases z) fun r' n' z v F1 H1 p1 => ?_)
        cases z
        obtain ⟨ee, k1, A, r1, f1⟩ := p1
        have hA := r1.there
        have kz := fz_ok k1 hA
        have ez := fz_ext ee hA f1
        have accz := acc.ext ez
        obtain ⟨ow, hF, hs, hn⟩ := id accz
        have rp := r1.fix k1 hfx
        obtain ⟨ks, kk, hnk, hdp, hnm, ed⟩ : ∃ ds kk, nk dd = some kk ∧ kk.depth ≤ 8 ∧ numK kk = true ∧ dd = .tuple ds := by
          unfold keyN keyT at hc1
          rw [Bool.and_eq_true] at hc1
          obtain ⟨g1, g2⟩ := hc1
          cases dd with
          | tuple ds =>
            simp only at g1
            split at g1
            · rename_i kk e
              rw [e] at g2
              exact ⟨ds, kk, e, of_decide_eq_true g1, g2, rfl⟩
            · cases g1
          | _ => cases g1
        subst ed
        cases rp with
        | @tup b vs _ rp1 rp2 =>
          have rp : Rp X.w X.K (fzH F1 H1 A) (.ref b) (.tuple ks) := .tup rp1 rp2
          cases ow with
          | se hset =>
            obtain ⟨L, ds', g1, g2, g3⟩ := id hset
            obtain ⟨kb1, kb2, kb3⟩ := key_back g2
            refine ⟨L, ds', kk, b, .tuple ks, g1, g2.lift kz.sub, rfl, rp.lift kz.sub, hnk, hdp, hnm, ?_, fun L' c1 c2 => ?_⟩
            · rw [kb2, g3.length_eq]; omega
            have hmem : dhas (xs.map fun x => (x, ())) (.tuple ks) = true ↔ kk ∈ L.map (·.1) := by
              unfold dhas
              rw [List.any_map, List.any_eq_true]
              constructor
              · rintro ⟨x, hx, e⟩
                have e : nk x = nk (.tuple ks) := of_decide_eq_true e
                have hx2 : nk x ∈ ds'.map nk := List.mem_map.mpr ⟨x, g3.mem_iff.mpr hx, rfl⟩
                rw [kb3, e, hnk] at hx2
                obtain ⟨p, hp, e2⟩ := List.mem_map.mp hx2
                exact List.mem_map.mpr ⟨p, hp, Option.some.inj e2⟩
              · intro hm
                obtain ⟨p, hp, e⟩ := List.mem_map.mp hm
                have hx2 : some p.1 ∈ L.map (fun p => some p.1) := List.mem_map.mpr ⟨p, hp, rfl⟩
                rw [← kb3] at hx2
                obtain ⟨x, hx, e2⟩ := List.mem_map.mp hx2
                exact ⟨x, g3.mem_iff.mp hx, decide_eq_true (by show nk x = nk (.tuple ks); rw [e2, hnk, e])⟩
            refine q _ _ ?_ (kz.updl hF hs (fun xs z => absurd z SN_tup) rfl) ⟨.se ?_, hF, hs, upd_none hn⟩
            · rw [wo_upd]; exact ez.wo
            · by_cases hh : dhas (xs.map fun x => (x, ())) (.tuple ks) = true
              · rw [if_pos hh]
                rw [c1 (hmem.mp hh)]
                exact ⟨L, ds', upd_same, g2, g3⟩
              · rw [if_neg hh]
                have pm := c2 fun z => hh (hmem.mpr z)
                have kl : KeyL X.w X.K (fzH F1 H1 A) ((kk, b) :: L) (.tuple ks :: ds') := .cons (.tup rp hnk hdp) hnm g2
                obtain ⟨ds2, p2, kl2⟩ := kl.perm pm
                exact ⟨L', ds2, upd_same, kl2, p2.trans ((g3.cons _).trans (List.perm_append_singleton _ _).symm)⟩
    | _ => exact hk.elim
end
theorem loopC_ck {ck : CK} {f : Lk.D → Int → OT → M OT} (hf : ∀ x n a a' n', isCK ck a → f x n a = some (.ok a' n') → isCK ck a') : ∀ {xs : List Lk.D} {n n' : Int} {a a' : OT}, isCK ck a → loopC f xs n a = some (.ok a' n') → isCK ck a'
  | [], n, n', a, a', hi, h => by cases h; exact hi
  | x :: xs, n, n', a, a', hi, h => by
    unfold loopC at h
    rcases bind_some h with ⟨a1, n1, h1, h2⟩ | ⟨_, _, _, _, z⟩
    · exact loopC_ck hf (hf _ _ _ _ _ hi h1) h2
    · cases z
theorem evC_ck {ck : CK} {tb : Tb} {f : En → Int → OT → M OT} (hf : ∀ E n a a' n', isCK ck a → f E n a = some (.ok a' n') → isCK ck a') : ∀ {p : P} {E : En} {n n' : Int} {a a' : OT}, isCK ck a → evC tb p E n a f = some (.ok a' n') → isCK ck a' := by
  intro p
  induction p with
  | no => intro E n n' a a' hi h; simp only [evC] at h; exact hf _ _ _ _ _ hi h
  | gen vs tg it ifs rest _ _ ih =>
    intro E n n' a a' hi h
    simp only [evC] at h
    rcases bind_some h with ⟨xs, n1, _, h1⟩ | ⟨_, _, _, _, z⟩
    · refine loopC_ck (fun x n a a' n' hi h => ?_) hi h1
      split at h
      · rcases bind_some h with ⟨c, n2, _, h2⟩ | ⟨_, _, _, _, z⟩
        · split at h2
          · exact ih hi h2
          · cases h2; exact hi
        · cases z
      · cases h
    · cases z
  | _ => intro E n n' a a' hi h; simp only [evC] at h; cases h
theorem emit_ck {ck : CK} {tb : Tb} {e1 e2 : P} : ∀ E n a a' n', isCK ck a → emitK tb ck e1 e2 E n a = some (.ok a' n') → isCK ck a' := by
  intro E n a a' n' hi h
  unfold emitK at h
  rcases bind_some h with ⟨r, n1, _, h1⟩ | ⟨_, _, _, _, z⟩
  rotate_left
  · cases z
  cases ck with
  | di =>
    rcases bind_some h1 with ⟨q, n2, _, h2⟩ | ⟨_, _, _, _, z⟩
    · obtain ⟨t, h3, z⟩ := of_some h2
      cases z; exact putD_ck hi h3
    · cases z
  | li =>
    obtain ⟨t, h2, z⟩ := of_some h1
    cases z; exact putL_ck hi h2
  | se =>
    obtain ⟨t, h2, z⟩ := of_some h1
    cases z; exact putL_ck hi h2
/-- a turn -/
def turnB (tb : Tb) (E : En) (vs : List Nat) (tg : Tg) (ifs rest : P) (f : En → Int → OT → M OT) : Lk.D → Int → OT → M OT := fun x n acc => match bindT (wipeE E vs) tg (.im x) with
  | some E1 => (evIf tb ifs E1 n).calm.bind fun c n => if c then evC tb rest E1 n acc f else some (.ok acc n)
  | none => none
theorem turn_ck {ck : CK} {tb : Tb} {E : En} {vs : List Nat} {tg : Tg} {ifs rest e1 e2 : P} : ∀ x n a a' n', isCK ck a → turnB tb E vs tg ifs rest (emitK tb ck e1 e2) x n a = some (.ok a' n') → isCK ck a' := by
  intro x n a a' n' hi h
  unfold turnB at h
  split at h
  · rcases bind_some h with ⟨c, n2, _, h2⟩ | ⟨_, _, _, _, z⟩
    · split at h2
      · exact evC_ck emit_ck hi h2
      · cases h2; exact hi
    · cases z
  · cases h
theorem turn_grow {ck : CK} {tb : Tb} {E : En} {vs : List Nat} {tg : Tg} {ifs rest e1 e2 : P} : ∀ x n a a' n', turnB tb E vs tg ifs rest (emitK tb ck e1 e2) x n a = some (.ok a' n') → sizeC a ≤ sizeC a' := by
  intro x n a a' n' h
  unfold turnB at h
  split at h
  · rcases bind_some h with ⟨c, n2, _, h2⟩ | ⟨_, _, _, _, z⟩
    · split at h2
      · exact evC_grow emit_grow h2
      · cases h2; exact Nat.le_refl _
    · cases z
  · cases h
section
variable {w : World} {K : KF} {sp : Option Addr} {F1 H1 : Hp} {n n' : Int} {E : En} {σ : L2.St} {fp : Nat → List Addr} {D : Addr}
theorem loop_ok {J : It} {xs : List Lk.D} {G : Hp → Prop} {ck : CK} {body : Lk.D → Int → OT → M OT} {o o' : OT} {vs : List Nat} {g : TG} {tt : TT} {t : TIn} {Q : Hp → Prop} (hli : ∀ x n a a' n', isCK ck a → body x n a = some (.ok a' n') → isCK ck a') (hgr : ∀ x n a a' n', body x n a = some (.ok a' n') → sizeC a ≤ sizeC a')
    (hwk : WkD w K sp J xs F1 G) (hG : ∀ F H, Ext sp F1 (Wo D H1) F (Wo D H) → G H) (env : EnvRel w K sp F1 (Wo D H1) E σ fp) (ok : Ok sp F1 H1 n) (acc : AccT w K sp D o F1 H1) (hk : isCK ck o)
    (hl : loopC body xs n o = some (.ok o' n')) (hz : sizeC o' ≤ cap)
    (hbody : ∀ x xv F H n0 a a' n1, EnvRel w K sp F (Wo D H) E σ fp → Ok sp F H n0 → AccT w K sp D a F H → isCK ck a → Rp w K F xv x → body x n0 a = some (.ok a' n1) → sizeC a' ≤ cap → ∀ Nx : Hp → Prop,
      (∀ F' H', Ext sp F (Wo D H) F' (Wo D H') → Ok sp F' H' n1 → AccT w K sp D a' F' H' → Nx H') → g xv (wipe σ vs) H fun σ2 H2 => wipe σ2 vs = wipe σ vs ∧ tt σ2 H2 fun b H3 => if b = true then t σ2 H3 Nx else Nx H3)
    (q : ∀ F' H', Ext sp F1 (Wo D H1) F' (Wo D H') → Ok sp F' H' n' → AccT w K sp D o' F' H' → Q H') :
    ∃ W : Nat → Nat → Hp → Prop, (∃ m, W 0 m H1) ∧ ∀ i m H, W i m H →
      (J.stop i H ∧ Q H) ∨ (J.go i H ∧ ∃ Nx : Hp → Prop, (∀ H', Nx H' → ∃ m', m' < m ∧ W (i + 1) m' H') ∧ ∀ x H', J.yld i H x H' → g x (wipe σ vs) H' fun σ2 H2 => wipe σ2 vs = wipe σ vs ∧ tt σ2 H2 fun b H3 =>
        if b = true then t σ2 H3 Nx else Nx H3) := by
  refine ⟨fun i m H => m = xs.length - i ∧ i ≤ xs.length ∧ ∃ F n0 a, Ext sp F1 (Wo D H1) F (Wo D H) ∧ Ok sp F H n0 ∧ AccT w K sp D a F H ∧ isCK ck a ∧ loopC body (xs.drop i) n0 a = some (.ok o' n'), ⟨xs.length, by simp, Nat.zero_le _, F1, n, o, Ext.refl _ _ _, ok, acc, hk, hl⟩, ?_⟩
  rintro i m H ⟨rfl, hi, F, n0, a, e, k, ac, ack, h⟩
  obtain ⟨wk1, wk2⟩ := hwk F H n0 (hG F H e) e.sub k i
  by_cases hlt : i < xs.length
  · obtain ⟨go, yld⟩ := wk1 hlt
    have hdr : xs.drop i = xs[i] :: xs.drop (i + 1) := List.drop_eq_getElem_cons hlt
    rw [hdr] at h
    unfold loopC at h
    rcases bind_some h with ⟨a1, n1, h1, h2⟩ | ⟨_, _, _, _, z⟩
    rotate_left
    · cases z
    have ck1 := hli _ _ a _ _ ack h1
    have hz1 : sizeC a1 ≤ cap := Nat.le_trans (loopC_grow (g := sizeC) hgr h2) hz
    refine .inr ⟨go, fun H' => ∃ F', Ext sp F1 (Wo D H1) F' (Wo D H') ∧ Ok sp F' H' n1 ∧ AccT w K sp D a1 F' H', fun H' ⟨F', e', k', ac'⟩ => ⟨xs.length - (i + 1), by omega, rfl, hlt, F', n1, a1, e', k', ac', ck1, h2⟩, fun x H' y => ?_⟩
    obtain ⟨F', d, hd, e', k', r'⟩ := yld x H' y
    rw [List.getElem?_eq_getElem hlt] at hd
    cases hd
    have e2 := e.trans e'.wo
    exact hbody _ x F' H' n0 a a1 n1 (env.ext e2) k' (ac.ext e') ack r' h1 hz1 _ fun F'' H'' e3 k3 ac3 => ⟨F'', e2.trans e3, k3, ac3⟩
  · have hi' : i = xs.length := by omega
    rw [hi', List.drop_length] at h
    cases h
    exact .inl ⟨wk2 (by omega), q F H e k ac⟩
end
section
variable {X : Cx} {CX : CXT} {k : Nat} {xc : XC} {EK : XK} {tb : Tb} {sp : Option Addr} {sc : Scope}
/-- a turn of a clause -/
theorem turn_ok {E : En} {σ : L2.St} {fp : Nat → List Addr} {D : Addr} {ck : CK} {e1 e2 tgx : Expr} {gens : List Comprehension} {scope : Scope} {pos : Pos} {d : Nat} {vs vs' : List Nat} {tg : Tg} {fs : List Expr} {ifs rest p1 p2 : P} (hc : X.calm = true) (hN : X.N.Nodup) (hsc : ∀ x, locB sc x = true → LocOk X x) (hm : mtG X.N sc tg tgx = true) (htv : ∀ i ∈ tgVars tg, i ∈ vs)
    (hif : okIf X tb sp fs ifs) (hr : okC X tb sp ck e1 e2 gens scope pos d vs' rest (emitK tb ck p1 p2)) :
    ∀ x xv F H n0 a a' n1, EnvRel X.w X.K sp F (Wo D H) E σ fp → Ok sp F H n0 → AccT X.w X.K sp D a F H → isCK ck a → Rp X.w X.K F xv x → turnB tb E vs tg ifs rest (emitK tb ck p1 p2) x n0 a = some (.ok a' n1) → sizeC a' ≤ cap → ∀ Nx : Hp → Prop,
      (∀ F' H', Ext sp F (Wo D H) F' (Wo D H') → Ok sp F' H' n1 → AccT X.w X.K sp D a' F' H' → Nx H') →
      wpG X tgx xv (wipe σ vs) H fun σ2 H2 => wipe σ2 vs = wipe σ vs ∧ wpTs X fs σ2 H2 fun b H3 => if b = true then wpIn X ck e1 e2 gens scope pos d D vs' σ2 H3 Nx else Nx H3 := by
  intro x xv F H n0 a a' n1 env k ac hk rp h hz Nx hNx
  unfold turnB at h
  split at h
  · rename_i E1 hE1
    refine g_im hc hN hsc hm (env.wipe vs) k rp hE1 fun σ' fp' env' hw => ⟨?_, ?_⟩
    · rw [hw vs htv, wipe_idem fun u hu => hu]
    rcases bind_some h with ⟨c, n2, h1, h2⟩ | ⟨_, _, _, _, z⟩
    rotate_left
    · cases z
    obtain ⟨c', n2', h1, z⟩ := calm_some h1
    cases z
    refine hif env'.unwo k h1 fun F' H' e' k' => ?_
    cases c with
    | true =>
      rw [if_pos rfl] at h2 ⊢
      exact hr D (env'.ext e'.wo) k' (ac.ext e') hk h2 hz fun F'' H'' e2 k2 ac2 => hNx F'' H'' (e'.wo.trans e2) k2 ac2
    | false =>
      rw [if_neg Bool.false_ne_true] at h2 ⊢
      cases h2
      exact hNx F' H' e'.wo k' (ac.ext e')
  · cases h
theorem c_gen {ck : CK} {e1 e2 tgx iter : Expr} {gens : List Comprehension} {scope : Scope} {pos : Pos} {d : Nat} {vs' vs'' : List Nat} {tg : Tg} {fs : List Expr} {it ifs rest p1 : P} (hc : X.calm = true) (hN : X.N.Nodup) (hx : X.xe = fun _ _ => False) (hsc : ∀ x, locB sc x = true → LocOk X x)
    (hd : gens[d + 1]? = some ⟨tgx, iter, fs, 0⟩) (ha : ∀ g', gens[d + 2]? = some g' → g'.is_async = 0) (hw : okW X xc EK tb sp true tgx iter it) (hm : mtG X.N sc tg tgx = true) (hif : okIf X tb sp fs ifs) (hr : okC X tb sp ck e1 e2 gens scope pos (d + 1) vs'' rest (emitK tb ck p1 p2))
    (htv : ∀ i ∈ tgVars tg, i ∈ vs') (hv : ∀ i ∈ vs'', i ∈ vs') (hns : notSetB iter = true) : okC X tb sp ck e1 e2 gens scope pos d vs' (.gen vs' tg it ifs rest) (emitK tb ck p1 p2) := by
  intro D E σ F H n fp t t' n' Q env ok acc hk h hz q
  simp only [evC] at h
  rcases bind_some h with ⟨xs, n1, h1, h2⟩ | ⟨_, _, _, _, z⟩
  rotate_left
  · cases z
  obtain ⟨xs', n1', h1, z⟩ := calm_some h1
  cases z
  refine wpIn_of (pin_next hc hx hd ha pi_wp pg_wp pts_wp (fold_plain hns) pin_wp hv) (hw env.unwo ok h1 (fun _ _ _ z => by cases z) fun xs n' z J F' H' e' k' wk => ?_)
  cases z
  exact loop_ok turn_ck turn_grow wk (fun _ _ _ => .inl rfl) (env.ext e'.wo) k' (acc.ext e') hk h2 hz (turn_ok hc hN hsc hm htv hif hr) fun F'' H'' e2 k2 ac2 => q F'' H'' (e'.wo.trans e2) k2 ac2
/-- a comprehension's block in this context -/
def Bk (X : Cx) (s2 : Scope) (Xb : Cx) : Prop := ∃ (s : Shared) (H : Hp) (C : Addr) (cl : List (Str × Addr)) (fp : List Addr), Xb = X.blk s H s2 (compEnvC s2 cl C X.env) fp
theorem Bk.xe {s2 : Scope} {Xb : Cx} (h : Bk X s2 Xb) : Xb.xe = fun _ _ => False := by obtain ⟨_, _, _, _, _, rfl⟩ := h; rfl
theorem Bk.bd {s2 : Scope} {Xb : Cx} (h : Bk X s2 Xb) (B : Bd X CX k xc EK tb) : Bd Xb CX k xc (fun _ _ _ => False) tb := by
  obtain ⟨_, _, _, _, _, rfl⟩ := h
  exact { cx := B.cx, nodup := B.nodup, calm := B.calm, pass := by rw [B.cx]; exact passL, room := B.room, blt := B.blt, isi := B.isi, rng := B.rng, zip := B.zip, enm := B.enm, tys := B.tys, fns := fun x fn e => ⟨(B.fns x fn e).ex⟩, gls := B.gls, tk := takes0, own := B.own }
theorem vis_of {sc : Scope} {x : Str} (h : visB sc x = true) : (sc.names.lookup x = some .local ∨ sc.names.lookup x = some .cell ∨ sc.names.lookup x = some .free) ∧ (x == ("__debug__" : Str)) = false ∧ (x == ("__classdict__" : Str)) = false := by
  unfold visB at h
  rw [Bool.and_eq_true, Bool.and_eq_true, Bool.not_eq_true', Bool.not_eq_true'] at h
  refine ⟨?_, h.1.2, h.2⟩
  have h1 := h.1.1
  split at h1
  · rename_i e; exact .inl e
  · rename_i e; exact .inr (.inl e)
  · rename_i e; exact .inr (.inr e)
  · cases h1
theorem rel_free {sc : Scope} : ∀ {names : List (Str × NameKind)} {x : Str}, names.lookup x = some .free →
    (names.map fun (n, k) => if (k == NameKind.free && sc.kind == .function && sc.names.lookup n == some .cell) then (n, NameKind.cell) else (n, k)).lookup x = some .cell ∨
    (names.map fun (n, k) => if (k == NameKind.free && sc.kind == .function && sc.names.lookup n == some .cell) then (n, NameKind.cell) else (n, k)).lookup x = some .free
  | [], _, h => by simp at h
  | (n, k₀) :: r, x, h => by
    have ih := @rel_free sc r x
    show List.lookup x ((if (k₀ == NameKind.free && sc.kind == .function && sc.names.lookup n == some .cell) = true then (n, NameKind.cell) else (n, k₀)) :: (r.map _)) = _ ∨ List.lookup x ((if (k₀ == NameKind.free && sc.kind == .function && sc.names.lookup n == some .cell) = true then (n, NameKind.cell) else (n, k₀)) :: (r.map _)) = _
    cases hx : x == n with
    | true =>
      simp only [List.lookup_cons, hx] at h
      cases h
      by_cases hc : (NameKind.free == NameKind.free && sc.kind == .function && sc.names.lookup n == some .cell) = true
      · rw [if_pos hc]; exact .inl (by simp only [List.lookup_cons, hx])
      · rw [if_neg hc]; exact .inr (by simp only [List.lookup_cons, hx])
    | false =>
      simp only [List.lookup_cons, hx] at h
      by_cases hc : (k₀ == NameKind.free && sc.kind == .function && sc.names.lookup n == some .cell) = true
      · rw [if_pos hc]; simp only [List.lookup_cons, hx]; exact ih h
      · rw [if_neg hc]; simp only [List.lookup_cons, hx]; exact ih h
theorem Bk.scok {s2 : Scope} {Xb : Cx} (h : Bk X s2 Xb) : ScOk Xb s2 := by
  obtain ⟨s, H, C, cl, fp, rfl⟩ := h
  have keep : ∀ {x k}, k ≠ .free → s2.names.lookup x = some k → (relS s2 X.env.scope).names.lookup x = some k := fun hk e => lookup_relS_keep hk e
  have free : ∀ {x}, s2.names.lookup x = some .free → (relS s2 X.env.scope).names.lookup x = some .cell ∨ (relS s2 X.env.scope).names.lookup x = some .free := fun e => rel_free e
  refine ⟨fun x hx => ?_, fun x hx => ?_, fun x hx => ?_, fun x hx => ?_⟩
  · obtain ⟨h1, h2⟩ := vis_of hx
    refine ⟨?_, h2⟩
    rcases h1 with e | e | e
    · exact .inl (keep (by decide) e)
    · exact .inr (.inl (keep (by decide) e))
    · rcases free e with e | e
      · exact .inr (.inl e)
      · exact .inr (.inr e)
  · unfold glB at hx
    rw [Bool.and_eq_true, Bool.and_eq_true, Bool.not_eq_true', Bool.not_eq_true', beq_iff_eq] at hx
    refine ⟨keep (by decide) hx.1.1, hx.1.2, fun z => ?_⟩
    subst z
    exact absurd hx.2 (by decide)
  · unfold locB at hx
    split at hx
    · rename_i e
      exact ⟨.inl (keep (by decide) e), .inr (keep (by decide) e)⟩
    · rename_i e
      refine ⟨.inr (keep (by decide) e), .inl ?_⟩
      show (s2.names.lookup x == some .cell) = true
      rw [e]
      decide
    · cases hx
  · rcases hx with e | e
    · exact .inl (keep (by decide) e)
    · exact free e
/-- the block by the written scope -/
theorem blk_of {sc s2 : Scope} {vs : List Nat} (hs : ScOk X sc) (h : blkC X.N sc s2 (ownOf X.N vs) = true) : BlkOk X.N X.env.scope s2 (ownOf X.N vs) := by
  have b := blkOk_by h
  exact ⟨b.kind, b.uniq, b.ix, fun y hy e => hs.2.2.2 y.1 (b.free y hy e), b.own⟩
theorem own_snd (N : List Str) (vs : List Nat) : (ownOf N vs).map (·.2) = vs := by
  unfold ownOf
  rw [List.map_map]
  exact List.map_id _
/-- the whole -/
theorem c_comp {ck : CK} {e1 e9 tgx iter : Expr} {gs : List Comprehension} {s2 : Scope} {pos : Pos} {vs vs'' : List Nat} {tg : Tg} {fs : List Expr} {it ifs rest p1 p2 : P} (B : Bd X CX k xc EK tb) (hw : okW X xc EK tb sp false tgx iter it) (hb : BlkOk X.N X.env.scope s2 (ownOf X.N vs)) (ha : ∀ g', gs[0]? = some g' → g'.is_async = 0)
    (htv : ∀ i ∈ tgVars tg, i ∈ vs) (hv : ∀ i ∈ vs'', i ∈ vs) (hns : notSetB iter = true) (hm : mtG X.N s2 tg tgx = true) (hif : ∀ Xb, Bk X s2 Xb → okIf Xb tb sp fs ifs) (hr : ∀ Xb, Bk X s2 Xb → okC Xb tb sp ck e1 e9 (⟨tgx, iter, fs, 0⟩ :: gs) s2 pos 0 vs'' rest (emitK tb ck p1 p2)) :
    ∀ {E : En} {σ : L2.St} {F H : Hp} {n : Int} {fp : Nat → List Addr} {ro : Ro R} {Q : VK}, EnvRel X.w X.K sp F H E σ fp → Ok sp F H n → evE tb (.comp ck vs tg it ifs rest p1 p2) E n = some ro → WX xc sp F H EK ro →
    (∀ r n', ro = .ok r n' → ∀ v F' H', PostE X.w X.K sp F H r n' v F' H' → Q v H') → tLcN (wpI X tgx iter) (fun v σ H Q => ∀ Xb, Bk X s2 Xb → wpG Xb tgx v σ H Q) (fun σ H Q => ∀ Xb, Bk X s2 Xb → wpTs Xb fs σ H Q) (fun D σ H Q => ∀ Xb, Bk X s2 Xb → wpIn Xb ck e1 e9 (⟨tgx, iter, fs, 0⟩ :: gs) s2 pos 0 D vs'' σ H Q) vs (fun D => newH X.w D ck) σ H Q := by
  intro E σ F H n fp ro Q env ok h wx q
  have h : ((evW tb false it E n).bind fun xs n => (loopC (turnB tb E vs tg ifs rest (emitK tb ck p1 p2)) xs n (newC ck)).calm.bind fun t n => if sizeC t ≤ cap then some (.ok (.fr t) n) else none) = some ro := by
    rw [← h]
    simp only [evE]
    rfl
  rcases bind_some h with ⟨xs, n1, h1, h2⟩ | ⟨c, d, n1, h1, rfl⟩
  rotate_left
  · exact hw env ok h1 (fun c' d' n' z => by cases z; exact wx _ _ _ rfl) fun xs n' z => by cases z
  rcases bind_some h2 with ⟨t, n2, h3, h4⟩ | ⟨_, _, _, h3, _⟩
  rotate_left
  · obtain ⟨_, _, _, z⟩ := calm_some h3; cases z
  obtain ⟨t', n2', h3, z⟩ := calm_some h3
  cases z
  split at h4
  rotate_left
  · cases h4
  rename_i hz
  cases h4
  have ck0 : isCK ck (newC ck) := by cases ck <;> exact True.intro
  have ck1 := loopC_ck turn_ck ck0 h3
  refine hw env ok h1 (fun _ _ _ z => by cases z) fun xs n' z J F1 H1 e1' k1 wk D hD => ?_
  cases z
  have hF := k1.fne hD
  have hsn := k1.sne hD
  have e2 : Ext sp F1 H1 F1 (upd H1 D (newH X.w D ck)) := Ext.new hD
  have k2 : Ok sp F1 (upd H1 D (newH X.w D ck)) n1 := k1.new hD (by cases ck <;> rfl) (fun xs z => by cases ck <;> first | exact absurd z SN_tup | cases z)
  have acc : AccT X.w X.K sp D (newC ck) F1 (upd H1 D (newH X.w D ck)) := by
    refine ⟨?_, hF, hsn, by rw [upd_same]; exact fun z => nomatch z⟩
    cases ck with
    | li => exact .li upd_same .nil
    | se => exact .se ⟨[], [], upd_same, .nil, .refl _⟩
    | di => exact .di (.inl ⟨[], upd_same, rfl⟩) .nil
  have env1 : EnvRel X.w X.K sp F1 (Wo D (upd H1 D (newH X.w D ck))) E σ fp := by rw [wo_upd, wo_none hD]; exact env.ext e1'
  refine loop_ok (K := X.K) (w := X.w) (vs := vs) (g := fun v σ H Q => ∀ Xb, Bk X s2 Xb → wpG Xb tgx v σ H Q) (tt := fun σ H Q => ∀ Xb, Bk X s2 Xb → wpTs Xb fs σ H Q) (t := fun σ H Q => ∀ Xb, Bk X s2 Xb → wpIn Xb ck e1 e9 (⟨tgx, iter, fs, 0⟩ :: gs) s2 pos 0 D vs'' σ H Q) (Q := fun H => Q (.ref D) H) turn_ck turn_grow wk (fun F' H' e => ?_) env1 k2 acc ck0 h3 hz ?_ fun F' H' e k' ac => ?_
  · rw [wo_upd] at e
    exact .inr (Ext.unwo hD e).keep
  · intro x xv F' H' n0 a a' n1' env' k' ac ack rp hb' hz' Nx hNx Xb hXb
    unfold turnB at hb'
    split at hb'
    rotate_left
    · cases hb'
    rename_i E1 hE1
    obtain ⟨bd, bs⟩ : Bd Xb CX k xc (fun _ _ _ => False) tb ∧ ScOk Xb s2 := ⟨hXb.bd B, hXb.scok⟩
    have hw' : Xb.w = X.w ∧ Xb.K = X.K ∧ Xb.N = X.N := by obtain ⟨_, _, _, _, _, rfl⟩ := hXb; exact ⟨rfl, rfl, rfl⟩
    obtain ⟨w1, w2, w3⟩ := hw'
    refine g_im (X := Xb) (H2 := Wo D H') bd.calm bd.nodup bs.2.2.1 (by rw [w3]; exact hm) (by rw [w1, w2]; exact env'.wipe vs) k' (by rw [w1, w2]; exact rp) hE1 fun σ' fp' env'' hw'' => ⟨?_, ?_⟩
    · rw [hw'' vs htv, wipe_idem fun u hu => hu]
    rcases bind_some hb' with ⟨c, n2, h5, h6⟩ | ⟨_, _, _, _, z⟩
    rotate_left
    · cases z
    obtain ⟨c', n2', h5, z⟩ := calm_some h5
    cases z
    rw [w1, w2] at env''
    intro Xc hXc
    have hw' : Xc.w = X.w ∧ Xc.K = X.K := by obtain ⟨_, _, _, _, _, rfl⟩ := hXc; exact ⟨rfl, rfl⟩
    refine hif Xc hXc (by rw [hw'.1, hw'.2]; exact env''.unwo) k' h5 fun F2 H2 e2' k2' => ?_
    cases c with
    | true =>
      rw [if_pos rfl] at h6 ⊢
      intro Xd hXd
      have hw' : Xd.w = X.w ∧ Xd.K = X.K := by obtain ⟨_, _, _, _, _, rfl⟩ := hXd; exact ⟨rfl, rfl⟩
      refine hr Xd hXd D (by rw [hw'.1, hw'.2]; exact env''.ext e2'.wo) k2' (by rw [hw'.1, hw'.2]; exact ac.ext e2') ack h6 hz' fun F3 H3 e3 k3 ac3 => ?_
      rw [hw'.1, hw'.2] at ac3
      exact hNx F3 H3 (e2'.wo.trans e3) k3 ac3
    | false =>
      rw [if_neg Bool.false_ne_true] at h6 ⊢
      cases h6
      exact hNx F2 H2 e2'.wo k2' (ac.ext e2')
  · rw [wo_upd] at e
    have e' := Ext.unwo hD e
    obtain ⟨u1, u3, u4, u5⟩ := ac
    refine q _ _ rfl _ F' H' ⟨e1'.trans e', k', [D], .fr u1 (fun a ha => ?_) (by simp), fun a ha => ?_⟩
    · rw [List.mem_singleton] at ha; subst ha
      exact ⟨u3, u5, u4⟩
    · rw [List.mem_singleton] at ha; subst ha
      exact e1'.fresh hD
/-- the whole -/
theorem s_comp {ck : CK} {e1 e2 tgx iter : Expr} {gs : List Comprehension} {s2 : Scope} {pos : Pos} {vs vs'' : List Nat} {tg : Tg} {fs : List Expr} {it ifs rest p1 p2 : P} (B : Bd X CX k xc EK tb) (hw : okW X xc EK tb sp false tgx iter it) (hb : BlkOk X.N X.env.scope s2 (ownOf X.N vs)) (ha : ∀ g', gs[0]? = some g' → g'.is_async = 0)
    (htv : ∀ i ∈ tgVars tg, i ∈ vs) (hv : ∀ i ∈ vs'', i ∈ vs) (hns : notSetB iter = true) (hm : mtG X.N s2 tg tgx = true) (hif : ∀ Xb, Bk X s2 Xb → okIf Xb tb sp fs ifs) (hr : ∀ Xb, Bk X s2 Xb → okC Xb tb sp ck e1 e2 (⟨tgx, iter, fs, 0⟩ :: gs) s2 pos 0 vs'' rest (emitK tb ck p1 p2)) :
    okE X xc EK tb sp (mkC ck e1 e2 (⟨tgx, iter, fs, 0⟩ :: gs) s2 pos) (.comp ck vs tg it ifs rest p1 p2) := by
  intro E σ F H n fp ro Q env ok h wx q
  have hg : ∀ (s : Shared) (H : Hp) (C : Addr) (cl : List (Str × Addr)) (fp : List Addr), PG (X.blk s H s2 (compEnvC s2 cl C X.env) fp) tgx (fun v σ H Q => ∀ Xb, Bk X s2 Xb → wpG Xb tgx v σ H Q) := fun s H C cl fp => ⟨fun pins s' σ H' v u Q I r hh => hh _ ⟨s, H, C, cl, fp, rfl⟩ pins s' u I r⟩
  have ht : ∀ (s : Shared) (H : Hp) (C : Addr) (cl : List (Str × Addr)) (fp : List Addr), PTs (X.blk s H s2 (compEnvC s2 cl C X.env) fp) fs (fun σ H Q => ∀ Xb, Bk X s2 Xb → wpTs Xb fs σ H Q) := fun s H C cl fp => ⟨fun pins s' σ H' Q I hh => hh _ ⟨s, H, C, cl, fp, rfl⟩ pins s' I⟩
  have hin : ∀ (s : Shared) (H : Hp) (C : Addr) (cl : List (Str × Addr)) (fp : List Addr) (D : Addr), PIn (X.blk s H s2 (compEnvC s2 cl C X.env) fp) ck e1 e2 (⟨tgx, iter, fs, 0⟩ :: gs) s2 pos 0 D vs'' (fun σ H Q => ∀ Xb, Bk X s2 Xb → wpIn Xb ck e1 e2 (⟨tgx, iter, fs, 0⟩ :: gs) s2 pos 0 D vs'' σ H Q) :=
    fun s H C cl fp D => ⟨fun pins s' σ H' Q I hh => hh _ ⟨s, H, C, cl, fp, rfl⟩ pins s' I⟩
  have hv' : ∀ i ∈ vs'', i ∈ (ownOf X.N vs).map (·.2) := by rw [own_snd]; exact hv
  refine wpE_of (pe_lcN B.calm B.nodup pi_wp hb ha hv' hg ht hin (fold_plain hns)) ?_
  rw [own_snd]
  exact c_comp B hw hb ha htv hv hns hm hif hr env ok h wx q
/-- y = [..] on one line, y a local: the block's names go behind the store -/
theorem ps_setLcN {i : Nat} {y : Str} {py : Pos} {e1 tg iter : Expr} {ifs : List Expr} {gs : List Comprehension} {scope : Scope} {own : List (Str × Nat)} {vs' : List Nat} {pos spos : Pos} {wi : TI} {g : TG} {tt : TT} {t : Addr → TIn} (hc : X.calm = true) (hN : X.N.Nodup) (hy : X.N[i]? = some y) (hyl : X.env.scope.names.lookup y = some .local)
    (hsw : swapsWith (.ListComp e1 (⟨tg, iter, ifs, 0⟩ :: gs) scope pos) (some (.Name y py)) spos.line X.env = pure true) (hi : PI X tg iter wi) (ok : BlkOk X.N X.env.scope scope own) (ha : ∀ g', gs[0]? = some g' → g'.is_async = 0) (hv : ∀ i ∈ vs', i ∈ own.map (·.2))
    (hg : ∀ (s : Shared) (H : Hp) (C : Addr) (cl : List (Str × Addr)) (fp : List Addr), PG (X.blk s H scope (compEnvC scope cl C X.env) fp) tg g) (ht : ∀ (s : Shared) (H : Hp) (C : Addr) (cl : List (Str × Addr)) (fp : List Addr), PTs (X.blk s H scope (compEnvC scope cl C X.env) fp) ifs tt)
    (hin : ∀ (s : Shared) (H : Hp) (C : Addr) (cl : List (Str × Addr)) (fp : List Addr) (D : Addr), PIn (X.blk s H scope (compEnvC scope cl C X.env) fp) .li e1 e1 (⟨tg, iter, ifs, 0⟩ :: gs) scope pos 0 D vs' (t D)) (hs : ∀ x, foldedSetIterable iter X.env x = pure x) :
    PS X (.Assign [.Name y py] (.ListComp e1 (⟨tg, iter, ifs, 0⟩ :: gs) scope pos) spos) (tAsg (tLcN wi g tt t (own.map (·.2)) (fun D => newH X.w D .li)) (gName i)) := by
  refine ⟨fun pins s σ H D I h => ?_⟩
  rw [exec_Assign_Name_used _ _ _ _ hsw]
  refine wpAny_bind (wpAny_standAt (wpAny_bind ?_))
  show wpAny _ X.A (do let _ ← comprehension (.ListComp e1 (⟨tg, iter, ifs, 0⟩ :: gs) scope pos) scope X.env (firstIterPos (⟨tg, iter, ifs, 0⟩ :: gs) pos) (newList []) false (eval iter X.env) (some (assign (.Name y py) X.env))) _ _ s
  have h : tLcN wi g tt t (own.map (·.2)) (fun D => newH X.w D .li) σ H (fun x H1 => gName i x σ H1 D.nx) := h
  refine wpAny_bind (thn (lcN_core (ck := .li) (e2 := e1) (Qf := fun _ s' => SP X pins D .next s') hc hN I hi ok ha hv hg ht hin hs h fun L C s' m H' I' q hn f => ?_) fun _ s' hq => wpAny_pure (wpAny_pure hq))
  show wpAny _ _ (assign (.Name y py) X.env (.ref L)) _ _ _
  refine wpAny_assign_Name (store_ok2 (v := V.ref L) I' hN hy (.inl hyl) rfl (fun s2 I2 ⟨a, sb, ha⟩ => ?_) (.inr hyl))
  obtain ⟨f0, f1, f2, f3, f4, f5⟩ := f
  have haC : C ≠ a := by
    rcases ha with z | z
    · rw [z]; exact f1
    · exact fun e => f4 y a z e.symm
  refine ⟨m, hn.sameBut sb haC, fun h3 sb3 => ?_⟩
  exact ⟨_, H', I2.turned (t' := s2.toks) (fun b o hb e => (sb3.2 b hb).trans e) f0 f1 f3 f4 f5, q⟩
end
end Lk
end
section
set_option linter.all false
set_option maxRecDepth 100000
set_option maxHeartbeats 4000000
/-! Expressions: all of it. -/
namespace Lk
open PySem PySem.Spec PyProof.Rows L2
def wpS (X : Cx) (st : Stmt) : TS := fun D σ H => ∀ (pins : List (Addr × Obj)) (s : Shared), Inv X pins σ H s → wpAny (model X.prog X.w) X.A (exec st X.env) (SP X pins D) X.xe s
theorem ps_wp {X : Cx} {st : Stmt} : PS X st (wpS X st) := ⟨fun pins s σ H D I h => h pins s I⟩
theorem wpS_of {X : Cx} {st : Stmt} {t : TS} {D : Ends} {σ : L2.St} {H : Hp} (p : PS X st t) (h : t D σ H) : wpS X st D σ H := fun pins s I => p.run pins s σ H D I h
/-- y = a comprehension, its store before its names are let go -/
def okAC (X : Cx) (xc : XC) (EK : XK) (tb : Tb) (sp : Option Addr) (i : Nat) (st : Stmt) (p : P) : Prop := ∀ ⦃E : En⦄ ⦃σ : L2.St⦄ ⦃F H : Hp⦄ ⦃n : Int⦄ ⦃fp : Nat → List Addr⦄ ⦃ro : Ro R⦄ ⦃D : Ends⦄, EnvRel X.w X.K sp F H E σ fp → Ok sp F H n → evE tb p E n = some ro → WX xc sp F H EK ro →
  (∀ r n', ro = .ok r n' → ∀ v F' H', PostE X.w X.K sp F H r n' v F' H' → D.nx (σ.set i (some v)) H') → wpS X st D σ H
/-- the names that the further clauses set -/
def vsOf : P → List Nat
  | .gen vs _ _ _ _ => vs
  | _ => []
structure SA' (X : Cx) (xc : XC) (EK : XK) (tb : Tb) (sp : Option Addr) (sc : Scope) (p : P) : Prop where
  e : ∀ e, mtE X.N p sc e = true → okE X xc EK tb sp e p
  a : ∀ es, mtA X.N p sc es = true → okA X xc EK tb sp es p
  ka : ∀ kws, mtA X.N p sc (kwExprs kws) = true → okK X xc EK tb sp kws p
  t : ∀ e, mtT X.N p sc e = true → okT X xc EK tb sp e p
  bt : ∀ q es pos, mtTs X.N p sc es = true → es ≠ [] → okBT X xc EK tb sp q (.BoolOp (opOf q) es pos) p
  b : ∀ q es pos, mtA X.N p sc es = true → es ≠ [] → okB X xc EK tb sp q (.BoolOp (opOf q) es pos) p
  o : ∀ e, mtO X.N p sc e = true → okO X xc EK tb sp e p
  w : ∀ st tg e, mtW X.N p sc tg e = true → okW X xc EK tb sp st tg e p
  f : ∀ fs, mtIf X.N p sc fs = true → okIf X tb sp fs p
  ac : ∀ i y py x gens s2 pos spos, mtE X.N p sc (.ListComp x gens s2 pos) = true → X.N[i]? = some y → X.env.scope.names.lookup y = some .local → swapsWith (.ListComp x gens s2 pos) (some (.Name y py)) (Pos.line spos) X.env = pure true →
    okAC X xc EK tb sp i (.Assign [.Name y py] (.ListComp x gens s2 pos) spos) p
  cm : ∀ e, mtE X.N p sc e = true → (asCmp e).isSome = true → okT X xc EK tb sp e (.tv p)
  c : X.xe = (fun _ _ => False) → ∀ ck, (ck = CK.li ∨ ck = CK.se) → ∀ gens d vs gs pos e1 e2 p1 p2, gens.drop (d + 1) = gs → mtC X.N p sc vs gs = true → okE X xc EK tb sp e1 p1 → (∀ i ∈ vsOf p, i ∈ vs) ∧ okC X tb sp ck e1 e2 gens sc pos d (vsOf p) p (emitK tb ck p1 p2)
def SA (xc : XC) (tb : Tb) (p : P) : Prop := ∀ (X : Cx) (CX : CXT) (k : Nat) (EK : XK) (sp : Option Addr) (sc : Scope), Bd X CX k xc EK tb → ScOk X sc → SA' X xc EK tb sp sc p
/-- not a row, not a test, .. -/
structure Nope (p : P) : Prop where
  a : ∀ N sc es, mtA N p sc es = false
  t : ∀ N sc e, mtT N p sc e = false
  ts : ∀ N sc es, mtTs N p sc es = false
  o : ∀ N sc e, mtO N p sc e = false
  w : ∀ N sc tg e, mtW N p sc tg e = false
  f : ∀ N sc fs, mtIf N p sc fs = false
  c : ∀ N sc vs gs, mtC N p sc vs gs = false
/-- never a comparison -/
def NoCm (p : P) : Prop := ∀ N sc l ops rs pos, mtE N p sc (.Compare l ops rs pos) = false
def NoLc (p : P) : Prop := ∀ N sc x gens s2 pos, mtE N p sc (.ListComp x gens s2 pos) = false
theorem SA'.ofE {X : Cx} {xc : XC} {EK : XK} {tb : Tb} {sp : Option Addr} {sc : Scope} {p : P} (n : Nope p) (cm : ∀ e, mtE X.N p sc e = true → (asCmp e).isSome = true → okT X xc EK tb sp e (.tv p)) (e : ∀ e, mtE X.N p sc e = true → okE X xc EK tb sp e p) (nl : NoLc p := by intro _ _ _ _ _ _; rfl) : SA' X xc EK tb sp sc p where
  ac := fun _ _ _ _ _ _ _ _ h => by rw [nl] at h; cases h
  cm := cm
  e := e
  a := fun es h => by rw [n.a] at h; cases h
  ka := fun es h => by rw [n.a] at h; cases h
  t := fun es h => by rw [n.t] at h; cases h
  bt := fun _ es _ h => by rw [n.ts] at h; cases h
  b := fun _ es _ h => by rw [n.a] at h; cases h
  o := fun es h => by rw [n.o] at h; cases h
  w := fun _ _ es h => by rw [n.w] at h; cases h
  f := fun es h => by rw [n.f] at h; cases h
  c := fun _ _ _ _ _ _ _ _ _ _ _ _ _ h => by rw [n.c] at h; cases h
theorem nope_var (i : Nat) : Nope (.var i) := ⟨fun _ _ _ => rfl, fun _ _ _ => rfl, fun _ _ _ => rfl, fun _ _ _ => rfl, fun _ _ _ _ => rfl, fun _ _ _ => rfl, fun _ _ _ _ => rfl⟩
theorem NoCm.ok {X : Cx} {xc : XC} {EK : XK} {tb : Tb} {sp : Option Addr} {sc : Scope} {p : P} (n : NoCm p) : ∀ e, mtE X.N p sc e = true → (asCmp e).isSome = true → okT X xc EK tb sp e (.tv p) := by
  intro e h hc
  cases e with
  | Compare l ops rs pos => rw [n] at h; cases h
  | _ => cases hc
theorem opOf_eq {q : Bool} {o : BoolOp} (h : (o == (if q then .And else .Or)) = true) : o = opOf q := by
  cases o <;> cases q <;> first | rfl | cases h
theorem uop_eq {o o' : UnaryOp} (h : (o == o') = true) : o = o' := by
  cases o <;> cases o' <;> first | rfl | cases h
theorem mtA_plain {N : List Str} {sc : Scope} : ∀ {p : P} {es : List Expr}, mtA N p sc es = true → es.all plainB = true := by
  intro p
  induction p with
  | no => intro es h; simp only [mtA, List.isEmpty_iff] at h; subst h; rfl
  | cons a as _ ih =>
    intro es h
    cases es with
    | nil => rfl
    | cons e r =>
      simp only [mtA, Bool.and_eq_true] at h
      rw [List.all_cons, Bool.and_eq_true]
      exact ⟨h.1.1, ih h.2⟩
  | _ => intro es h; simp [mtA] at h
theorem mtA_no {N : List Str} {sc : Scope} {p : P} {e : Expr} {es : List Expr} (h : mtA N p sc (e :: es) = true) : p ≠ .no := by
  rintro rfl
  simp [mtA] at h
theorem mtTs_no {N : List Str} {sc : Scope} {p : P} {e : Expr} {es : List Expr} (h : mtTs N p sc (e :: es) = true) : p ≠ .no := by
  rintro rfl
  simp [mtTs] at h
theorem mtA_nil {N : List Str} {sc : Scope} {p : P} (h : mtA N p sc [] = true) : p = .no := by
  cases p <;> simp [mtA] at h <;> rfl
theorem mtTs_nil {N : List Str} {sc : Scope} {p : P} (h : mtTs N p sc [] = true) : p = .no := by
  cases p <;> simp [mtTs] at h <;> rfl
theorem all_mem {l : List α} {f : α → Bool} (h : l.all f = true) : ∀ x ∈ l, f x = true := List.all_eq_true.mp h
section
variable {xc : XC} {tb : Tb}
theorem sa_var (i : Nat) : SA xc tb (.var i) := fun X CX k EK sp sc B hs => .ofE (nope_var i) (NoCm.ok fun _ _ _ _ _ _ => rfl) fun e h => by
  simp only [mtE] at h
  split at h
  · rename_i x hx
    obtain ⟨p, rfl⟩ := asName_some hx
    rw [Bool.and_eq_true, beq_iff_eq] at h
    exact s_var B h.1 (hs.1 x h.2)
  · cases h
theorem sa_lit (d : D) : SA xc tb (.lit d) := fun X CX k EK sp sc B hs => .ofE ⟨fun _ _ _ => rfl, fun _ _ _ => rfl, fun _ _ _ => rfl, fun _ _ _ => rfl, fun _ _ _ _ => rfl, fun _ _ _ => rfl, fun _ _ _ _ => rfl⟩ (NoCm.ok fun _ _ _ _ _ _ => by cases d <;> rfl) (fun e h => by
  simp only [mtE] at h
  exact s_lit B h) (by intro _ _ _ _ _ _; cases d <;> rfl)
theorem sa_glob (x : Str) : SA xc tb (.glob x) := fun X CX k EK sp sc B hs => .ofE ⟨fun _ _ _ => rfl, fun _ _ _ => rfl, fun _ _ _ => rfl, fun _ _ _ => rfl, fun _ _ _ _ => rfl, fun _ _ _ => rfl, fun _ _ _ _ => rfl⟩ (NoCm.ok fun _ _ _ _ _ _ => rfl) fun e h => by
  simp only [mtE] at h
  split at h
  · rename_i y hx
    obtain ⟨p, rfl⟩ := asName_some hx
    rw [Bool.and_eq_true, beq_iff_eq] at h
    obtain ⟨rfl, h2⟩ := h
    exact s_glob B (hs.2.1 x h2)
  · cases h
theorem sa_bin (op : BOp) {a b : P} (ha : SA xc tb a) (hb : SA xc tb b) : SA xc tb (.bin op a b) := fun X CX k EK sp sc B hs => .ofE ⟨fun _ _ _ => rfl, fun _ _ _ => rfl, fun _ _ _ => rfl, fun _ _ _ => rfl, fun _ _ _ _ => rfl, fun _ _ _ => rfl, fun _ _ _ _ => rfl⟩ (NoCm.ok fun _ _ _ _ _ _ => rfl) fun e h => by
  simp only [mtE] at h
  split at h
  · rename_i l o r hx
    obtain ⟨p, rfl⟩ := asBin_some hx
    rw [Bool.and_eq_true, Bool.and_eq_true] at h
    have e := bopB_eq h.1.1
    subst e
    exact s_bin B ((ha X CX k EK sp sc B hs).e l h.1.2) ((hb X CX k EK sp sc B hs).e r h.2)
  · cases h
theorem sa_neg {a : P} (ha : SA xc tb a) : SA xc tb (.neg a) := fun X CX k EK sp sc B hs => .ofE ⟨fun _ _ _ => rfl, fun _ _ _ => rfl, fun _ _ _ => rfl, fun _ _ _ => rfl, fun _ _ _ _ => rfl, fun _ _ _ => rfl, fun _ _ _ _ => rfl⟩ (NoCm.ok fun _ _ _ _ _ _ => rfl) fun e h => by
  simp only [mtE] at h
  split at h
  · rename_i o x hx
    obtain ⟨p, rfl⟩ := asUn_some hx
    rw [Bool.and_eq_true] at h
    have e := uop_eq h.1
    subst e
    exact s_neg B ((ha X CX k EK sp sc B hs).e x h.2)
  · cases h
theorem noneP_eq {b : P} (h : noneP b = true) : b = .lit .none := by
  unfold noneP at h
  split at h
  · rfl
  · cases h
theorem sa_cmp (op : COp) {a b : P} (ha : SA xc tb a) (hb : SA xc tb b) : SA xc tb (.cmp op a b) := fun X CX k EK sp sc B hs => by
  have both : ∀ e, mtE X.N (.cmp op a b) sc e = true → okE X xc EK tb sp e (.cmp op a b) ∧ okT X xc EK tb sp e (.tv (.cmp op a b)) := by
    intro e h
    simp only [mtE] at h
    split at h
    · rename_i l o r hx
      obtain ⟨p, rfl⟩ := asCmp_some hx
      simp only [Bool.and_eq_true, Bool.or_eq_true, Bool.not_eq_true'] at h
      obtain ⟨⟨⟨⟨h1, h2⟩, h3⟩, h4⟩, h5⟩ := h
      have e := copB_eq h1
      subst e
      have ea := (ha X CX k EK sp sc B hs).e l h4
      rcases h2 with h2 | h2
      · have eb := (hb X CX k EK sp sc B hs).e r h5
        exact ⟨s_cmp B ea eb h3 h2, s_tcmp B ea eb h3 h2⟩
      · have e := noneP_eq h2
        subst e
        simp only [mtE] at h5
        exact ⟨s_isN B ea h3 h5, s_tisN B ea h3 h5⟩
    · cases h
  exact .ofE ⟨fun _ _ _ => rfl, fun _ _ _ => rfl, fun _ _ _ => rfl, fun _ _ _ => rfl, fun _ _ _ _ => rfl, fun _ _ _ => rfl, fun _ _ _ _ => rfl⟩ (fun e h _ => (both e h).2) fun e h => (both e h).1
theorem sa_cmp2 (o1 o2 : COp) {a b c : P} (ha : SA xc tb a) (hb : SA xc tb b) (hc : SA xc tb c) : SA xc tb (.cmp2 o1 o2 a b c) := fun X CX k EK sp sc B hs => by
  have both : ∀ e, mtE X.N (.cmp2 o1 o2 a b c) sc e = true → okE X xc EK tb sp e (.cmp2 o1 o2 a b c) ∧ okT X xc EK tb sp e (.tv (.cmp2 o1 o2 a b c)) := by
    intro e h
    simp only [mtE] at h
    split at h
    · rename_i l o o' r r' hx
      obtain ⟨p, rfl⟩ := asCmp_some hx
      simp only [Bool.and_eq_true, Bool.not_eq_true'] at h
      obtain ⟨⟨⟨⟨⟨⟨⟨h1, h2⟩, h3⟩, h4⟩, h5⟩, h6⟩, h7⟩, h8⟩ := h
      have e := copB_eq h1
      subst e
      have e := copB_eq h2
      subst e
      have ea := (ha X CX k EK sp sc B hs).e l h6
      have eb := (hb X CX k EK sp sc B hs).e r h7
      have ec := (hc X CX k EK sp sc B hs).e r' h8
      exact ⟨s_cmp2 B ea eb ec h5 h3 h4, s_tcmp2 B ea eb ec h5 h3 h4⟩
    · cases h
  exact .ofE ⟨fun _ _ _ => rfl, fun _ _ _ => rfl, fun _ _ _ => rfl, fun _ _ _ => rfl, fun _ _ _ _ => rfl, fun _ _ _ => rfl, fun _ _ _ _ => rfl⟩ (fun e h _ => (both e h).2) fun e h => (both e h).1
theorem sa_bool (q : Bool) {as : P} (ha : SA xc tb as) : SA xc tb (.bool q as) := fun X CX k EK sp sc B hs => by
  have ia := ha X CX k EK sp sc B hs
  exact {
    e := fun e h => by
      simp only [mtE] at h
      split at h
      · rename_i o es hx
        obtain ⟨p, rfl⟩ := asBool_some hx
        rw [Bool.and_eq_true, Bool.and_eq_true, Bool.not_eq_true'] at h
        have e := opOf_eq h.1.1
        subst e
        have g := ia.b q es p h.1.2 (fun z => by subst z; cases h.2)
        intro E σ F H n fp ro Q env ok hh wx qq
        exact g env ok (by simpa only [evE] using hh) wx qq
      · cases h
    t := fun e h => by
      simp only [mtT] at h
      split at h
      · rename_i o es hx
        obtain ⟨p, rfl⟩ := asBool_some hx
        rw [Bool.and_eq_true, Bool.and_eq_true, Bool.not_eq_true'] at h
        have e := opOf_eq h.1.1
        subst e
        have g := ia.bt q es p h.1.2 (fun z => by subst z; cases h.2)
        intro E σ F H n fp ro Q env ok hh wx qq
        exact wpT_of (pw_wp.pt) (g env ok (by simpa only [evT] using hh) wx qq)
      · cases h
    a := fun es h => by simp [mtA] at h
    ka := fun es h => by simp [mtA] at h
    bt := fun _ es _ h => by simp [mtTs] at h
    b := fun _ es _ h => by simp [mtA] at h
    o := fun es h => by simp [mtO] at h
    w := fun _ _ es h => by simp [mtW] at h
    f := fun es h => by simp [mtIf] at h
    ac := fun _ _ _ _ _ _ _ _ h => by simp [mtE, asBool] at h
    cm := NoCm.ok fun _ _ _ _ _ _ => rfl
    c := fun _ _ _ _ _ _ _ _ _ _ _ _ _ h => by simp [mtC] at h }
theorem sa_nott {a : P} (ha : SA xc tb a) (ha2 : ∀ b, a = .tv b → SA xc tb b) : SA xc tb (.nott a) := fun X CX k EK sp sc B hs => by
  have ia := ha X CX k EK sp sc B hs
  exact {
    e := fun e h => by
      cases a with
      | tv b =>
        simp only [mtE] at h
        split at h
        · rename_i o x hx
          obtain ⟨p, rfl⟩ := asUn_some hx
          rw [Bool.and_eq_true] at h
          have e := uop_eq h.1
          subst e
          exact s_nott B ((ha2 b rfl X CX k EK sp sc B hs).e x h.2)
        · cases h
      | _ => simp [mtE] at h
    t := fun e h => by
      simp only [mtT] at h
      split at h
      · rename_i o x hx
        obtain ⟨p, rfl⟩ := asUn_some hx
        rw [Bool.and_eq_true] at h
        have e := uop_eq h.1
        subst e
        exact s_tnot B (ia.t x h.2)
      · cases h
    a := fun es h => by simp [mtA] at h
    ka := fun es h => by simp [mtA] at h
    bt := fun _ es _ h => by simp [mtTs] at h
    b := fun _ es _ h => by simp [mtA] at h
    o := fun es h => by simp [mtO] at h
    w := fun _ _ es h => by simp [mtW] at h
    f := fun es h => by simp [mtIf] at h
    ac := fun _ _ _ _ _ _ _ _ h => by cases a <;> simp [mtE, asUn] at h
    cm := NoCm.ok fun _ _ _ _ _ _ => by cases a <;> rfl
    c := fun _ _ _ _ _ _ _ _ _ _ _ _ _ h => by simp [mtC] at h }
theorem sa_ife {c a b : P} (hc : SA xc tb c) (ha : SA xc tb a) (hb : SA xc tb b) : SA xc tb (.ife c a b) := fun X CX k EK sp sc B hs => .ofE ⟨fun _ _ _ => rfl, fun _ _ _ => rfl, fun _ _ _ => rfl, fun _ _ _ => rfl, fun _ _ _ _ => rfl, fun _ _ _ => rfl, fun _ _ _ _ => rfl⟩ (NoCm.ok fun _ _ _ _ _ _ => rfl) fun e h => by
  simp only [mtE] at h
  split at h
  · rename_i t x y hx
    obtain ⟨p, rfl⟩ := asIf_some hx
    rw [Bool.and_eq_true, Bool.and_eq_true] at h
    exact s_ife B ((hc X CX k EK sp sc B hs).t t h.1.1) ((ha X CX k EK sp sc B hs).e x h.1.2) ((hb X CX k EK sp sc B hs).e y h.2)
  · cases h
theorem sa_tup {as : P} (ha : SA xc tb as) : SA xc tb (.tup as) := fun X CX k EK sp sc B hs => .ofE ⟨fun _ _ _ => rfl, fun _ _ _ => rfl, fun _ _ _ => rfl, fun _ _ _ => rfl, fun _ _ _ _ => rfl, fun _ _ _ => rfl, fun _ _ _ _ => rfl⟩ (NoCm.ok fun _ _ _ _ _ _ => rfl) fun e h => by
  simp only [mtE] at h
  split at h
  · rename_i es hx
    obtain ⟨j, p, rfl⟩ := asTup_some hx
    rw [Bool.and_eq_true, decide_eq_true_eq] at h
    exact s_tup B ((ha X CX k EK sp sc B hs).a es h.1) fun hh => by rw [evA_len hh, mtA_len h.1]; exact h.2
  · cases h
theorem sa_lst {as : P} (ha : SA xc tb as) : SA xc tb (.lst as) := fun X CX k EK sp sc B hs => .ofE ⟨fun _ _ _ => rfl, fun _ _ _ => rfl, fun _ _ _ => rfl, fun _ _ _ => rfl, fun _ _ _ _ => rfl, fun _ _ _ => rfl, fun _ _ _ _ => rfl⟩ (NoCm.ok fun _ _ _ _ _ _ => rfl) fun e h => by
  simp only [mtE] at h
  split at h
  · rename_i es hx
    obtain ⟨p, rfl⟩ := asLst_some hx
    rw [Bool.and_eq_true, decide_eq_true_eq] at h
    exact s_lst B ((ha X CX k EK sp sc B hs).a es h.1) fun hh => by rw [evA_len hh, mtA_len h.1]; exact h.2
  · cases h
theorem post_di0 {w : World} {K : KF} {sp : Option Addr} {F H : Hp} {n : Int} (k : Ok sp F H n) {p : Addr} (hp : H p = none) : PostE w K sp F H (.fr (.di [])) n (.ref p) F (upd H p (.dK [])) :=
  ⟨Ext.new hp, k.new hp rfl (fun _ z => nomatch z), [p], .fr (.di (.inl ⟨[], upd_same, rfl⟩) .nil) (fun a ha => by
    rw [List.mem_singleton] at ha; subst ha
    exact ⟨k.fne hp, (by rw [upd_same]; intro z; cases z), k.sne hp⟩) (by simp), fun a ha => by rw [List.mem_singleton] at ha; subst ha; exact hp⟩
theorem sa_dct {as : P} : SA xc tb (.dct as) := fun X CX k EK sp sc B hs => .ofE ⟨fun _ _ _ => rfl, fun _ _ _ => rfl, fun _ _ _ => rfl, fun _ _ _ => rfl, fun _ _ _ _ => rfl, fun _ _ _ => rfl, fun _ _ _ _ => rfl⟩ (NoCm.ok fun _ _ _ _ _ _ => by cases as <;> rfl) (fun e h => by
  simp only [mtE] at h
  obtain ⟨rfl, p, rfl⟩ := isDct0_some h
  intro E σ F H n fp ro Q env ok h wx q
  simp only [evE, evA] at h
  cases h
  exact wpE_of pe_dnewK fun p hp => q _ _ rfl _ _ _ (post_di0 ok hp)) (by intro _ _ _ _ _ _; cases as <;> rfl)
theorem rg_ints {w : World} {K : KF} {F : Hp} : ∀ (l : List Nat), RpA w K F (l.map fun i => V.int ((0 : Int) + (i : Nat))) (l.map fun (k : Nat) => PyData.int (k : Int))
  | [] => .nil
  | x :: l => by
    rw [List.map_cons, List.map_cons]
    refine .cons ?_ (rg_ints l)
    rw [Int.zero_add]
    exact .int _
theorem s_lrng {X : Cx} {CX : CXT} {k : Nat} {EK : XK} {sp : Option Addr} {a : P} {z : Expr} {p pos p2 pos2 : Pos} (B : Bd X CX k xc EK tb) (g1 : Gl X "list") (g2 : Gl X "range") (hp : plainB z = true) (ha : okE X xc EK tb sp z a) :
    okE X xc EK tb sp (.Call (.Name "list" p) [.Call (.Name "range" p2) [z] [] pos2] [] pos) (.lrng a) := by
  intro E σ F H n fp ro Q env ok h wx q
  simp only [evE] at h
  refine wpE_of (pe_listRg B.calm g1 (B.tys _ (by simp)) (prg_1 g2 B.rng pe_wp (star_plain hp))) (seqE ha env ok h wx fun x n1 h1 v F1 H1 p1 => ?_)
  obtain ⟨r, h3, rfl⟩ := of_some h1
  rw [Option.bind_eq_some_iff] at h3
  obtain ⟨j, h4, h5⟩ := h3
  split at h5
  rotate_left
  · cases h5
  rename_i hb
  cases h5
  obtain ⟨e1, k1, A, r1, f1⟩ := p1
  have hcap : j.toNat ≤ 16000000 := hb.2.2
  refine ⟨j, r1.int k1 (opInt_some h4), ⟨by decide, by decide, hb.1, hb.2.1, by omega⟩, fun u hu => q _ _ rfl _ _ _ (PostE.refl e1 (post_li k1 hu ?_))⟩
  unfold rgV
  rw [show j - 0 = j by omega]
  exact rg_ints _
theorem sa_lrng {a : P} (ha : SA xc tb a) : SA xc tb (.lrng a) := fun X CX k EK sp sc B hs => .ofE ⟨fun _ _ _ => rfl, fun _ _ _ => rfl, fun _ _ _ => rfl, fun _ _ _ => rfl, fun _ _ _ _ => rfl, fun _ _ _ => rfl, fun _ _ _ _ => rfl⟩ (NoCm.ok fun _ _ _ _ _ _ => rfl) fun e h => by
  simp only [mtE] at h
  split at h
  · rename_i g x hx
    obtain ⟨pos, rfl⟩ := asCall_some hx
    split at h
    · rename_i y g2 z hg hx2
      obtain ⟨p, rfl⟩ := asName_some hg
      obtain ⟨pos2, rfl⟩ := asCall_some hx2
      simp only [Bool.and_eq_true, beq_iff_eq] at h
      obtain ⟨⟨⟨⟨h1, rfl⟩, h3⟩, h4⟩, h5⟩ := h
      split at h1
      · rename_i y2 hg2
        obtain ⟨p2, rfl⟩ := asName_some hg2
        simp only [Bool.and_eq_true, beq_iff_eq] at h1
        obtain ⟨rfl, h2⟩ := h1
        exact s_lrng B (hs.2.1 _ h3).1 (hs.2.1 _ h2).1 h4 ((ha X CX k EK sp sc B hs).e z h5)
      · cases h1
    · cases h
  · cases h
theorem sa_iof {a b : P} : SA xc tb (.iof a b) := fun X CX k EK sp sc B hs => .ofE ⟨fun _ _ _ => rfl, fun _ _ _ => rfl, fun _ _ _ => rfl, fun _ _ _ => rfl, fun _ _ _ _ => rfl, fun _ _ _ => rfl, fun _ _ _ _ => rfl⟩ (NoCm.ok fun _ _ _ _ _ _ => rfl) fun e h => by simp [mtE] at h
theorem sa_idx {a b : P} (ha : SA xc tb a) (hb : SA xc tb b) : SA xc tb (.idx a b) := fun X CX k EK sp sc B hs => .ofE ⟨fun _ _ _ => rfl, fun _ _ _ => rfl, fun _ _ _ => rfl, fun _ _ _ => rfl, fun _ _ _ _ => rfl, fun _ _ _ => rfl, fun _ _ _ _ => rfl⟩ (NoCm.ok fun _ _ _ _ _ _ => rfl) fun e h => by
  simp only [mtE] at h
  split at h
  · rename_i x y hx
    obtain ⟨p, rfl⟩ := asSub_some hx
    rw [Bool.and_eq_true, Bool.and_eq_true] at h
    exact s_idx B h.1.1 ((ha X CX k EK sp sc B hs).e x h.1.2) ((hb X CX k EK sp sc B hs).e y h.2)
  · cases h
theorem sa_slc {a lo hi : P} (ha : SA xc tb a) (hl : SA xc tb lo) (hh : SA xc tb hi) : SA xc tb (.slc a lo hi) := fun X CX k EK sp sc B hs => .ofE ⟨fun _ _ _ => rfl, fun _ _ _ => rfl, fun _ _ _ => rfl, fun _ _ _ => rfl, fun _ _ _ _ => rfl, fun _ _ _ => rfl, fun _ _ _ _ => rfl⟩ (NoCm.ok fun _ _ _ _ _ _ => rfl) fun e h => by
  simp only [mtE] at h
  split at h
  · rename_i x y hx
    obtain ⟨p, rfl⟩ := asSub_some hx
    split at h
    · rename_i l u hy
      obtain ⟨p2, rfl⟩ := asSlc_some hy
      rw [Bool.and_eq_true, Bool.and_eq_true] at h
      exact s_slc B ((ha X CX k EK sp sc B hs).e x h.1.1) ((hl X CX k EK sp sc B hs).o l h.1.2) ((hh X CX k EK sp sc B hs).o u h.2)
    · cases h
  · cases h
theorem one_of {e : Expr} (h : asInt1 e = true) : ∃ j p, e = .Constant (.int 1) j p := by
  unfold asInt1 at h
  split at h
  · exact ⟨_, _, rfl⟩
  · cases h
theorem sa_rev {a : P} (ha : SA xc tb a) : SA xc tb (.rev a) := fun X CX k EK sp sc B hs => .ofE ⟨fun _ _ _ => rfl, fun _ _ _ => rfl, fun _ _ _ => rfl, fun _ _ _ => rfl, fun _ _ _ _ => rfl, fun _ _ _ => rfl, fun _ _ _ _ => rfl⟩ (NoCm.ok fun _ _ _ _ _ _ => rfl) fun e h => by
  simp only [mtE] at h
  split at h
  · rename_i x y hx
    obtain ⟨p, rfl⟩ := asSub_some hx
    split at h
    · rename_i z hy
      obtain ⟨p2, rfl⟩ := asSlc_some hy
      rw [Bool.and_eq_true] at h
      obtain ⟨h1, h2⟩ := h
      split at h1
      · rename_i o one hz
        obtain ⟨p3, rfl⟩ := asUn_some hz
        rw [Bool.and_eq_true] at h1
        have e := uop_eq h1.1
        subst e
        obtain ⟨j, p4, rfl⟩ := one_of h1.2
        exact s_rev B ((ha X CX k EK sp sc B hs).e x h2)
      · cases h1
    · cases h
  · cases h
theorem sa_call (f : Str) {as : P} (ks : List Str) (ha : SA xc tb as) : SA xc tb (.call f as ks) := fun X CX k EK sp sc B hs => .ofE ⟨fun _ _ _ => rfl, fun _ _ _ => rfl, fun _ _ _ => rfl, fun _ _ _ => rfl, fun _ _ _ _ => rfl, fun _ _ _ => rfl, fun _ _ _ _ => rfl⟩ (NoCm.ok fun _ _ _ _ _ _ => rfl) fun e h => by
  simp only [mtE] at h
  split at h
  · rename_i g es kws hx
    obtain ⟨pos, rfl⟩ := asCall_some hx
    rw [Bool.and_eq_true] at h
    obtain ⟨h1, h2⟩ := h
    split at h1
    · rename_i x hg
      obtain ⟨p, rfl⟩ := asName_some hg
      rw [Bool.and_eq_true, beq_iff_eq] at h1
      obtain ⟨rfl, h1⟩ := h1
      have gl := hs.2.1 x h1
      split at h2
      · rename_i hk
        rw [List.isEmpty_iff] at hk
        subst hk
        simp only [Bool.and_eq_true, List.isEmpty_iff] at h2
        obtain ⟨rfl, h4⟩ := h2
        cases es with
        | nil =>
          have e := mtA_nil h4
          subst e
          exact s_call0 B gl
        | cons e es => exact s_call B ((ha X CX k EK sp sc B hs).a (e :: es) h4) (mtA_plain h4) gl
      · rename_i hk
        simp only [Bool.and_eq_true, List.isEmpty_iff, beq_iff_eq] at h2
        obtain ⟨⟨rfl, h3⟩, h4⟩ := h2
        exact s_callK B ((ha X CX k EK sp sc B hs).ka kws h4) h3 (fun z => by subst z; exact hk rfl) gl
    · cases h1
  · cases h
theorem sa_bi (b : Bi) {as : P} (ha : SA xc tb as) : SA xc tb (.bi b as) := fun X CX k EK sp sc B hs => .ofE ⟨fun _ _ _ => rfl, fun _ _ _ => rfl, fun _ _ _ => rfl, fun _ _ _ => rfl, fun _ _ _ _ => rfl, fun _ _ _ => rfl, fun _ _ _ _ => rfl⟩ (NoCm.ok fun _ _ _ _ _ _ => rfl) fun e h => by
  simp only [mtE] at h
  split at h
  · rename_i g es kws hx
    obtain ⟨pos, rfl⟩ := asCall_some hx
    rw [Bool.and_eq_true, Bool.and_eq_true, Bool.and_eq_true, Bool.and_eq_true] at h
    obtain ⟨⟨⟨⟨h0, h1⟩, h2⟩, h3⟩, h4⟩ := h
    split at h1
    · rename_i x hg
      obtain ⟨p, rfl⟩ := asName_some hg
      rw [Bool.and_eq_true, beq_iff_eq] at h1
      obtain ⟨rfl, h1⟩ := h1
      rw [List.isEmpty_iff] at h2
      subst h2
      cases es with
      | nil => cases h3
      | cons e es => exact s_bi B ((ha X CX k EK sp sc B hs).a (e :: es) h4) (mtA_plain h4) h0 (hs.2.1 _ h1).1
    · cases h1
  · cases h
theorem sa_mth (m : Mt) {a b : P} (ha : SA xc tb a) (hb : SA xc tb b) : SA xc tb (.mth m a b) := fun X CX k EK sp sc B hs => .ofE ⟨fun _ _ _ => rfl, fun _ _ _ => rfl, fun _ _ _ => rfl, fun _ _ _ => rfl, fun _ _ _ _ => rfl, fun _ _ _ => rfl, fun _ _ _ _ => rfl⟩ (NoCm.ok fun _ _ _ _ _ _ => rfl) fun e h => by
  simp only [mtE] at h
  split at h
  · rename_i g x p hx
    obtain rfl := asCallP_some hx
    simp only [Bool.and_eq_true] at h
    obtain ⟨⟨h1, h2⟩, h3⟩ := h
    split at h1
    · rename_i o nm ap hg
      obtain rfl := asAttr_some hg
      simp only [Bool.and_eq_true, beq_iff_eq] at h1
      obtain ⟨⟨⟨rfl, h4⟩, h5⟩, h6⟩ := h1
      exact s_mth ((ha X CX k EK sp sc B hs).e o h6) ((hb X CX k EK sp sc B hs).e x h3) h2 h4 (by simpa using h5)
    · cases h1
  · cases h
theorem sa_isd {a : P} (ha : SA xc tb a) : SA xc tb (.isd a) := fun X CX k EK sp sc B hs => .ofE ⟨fun _ _ _ => rfl, fun _ _ _ => rfl, fun _ _ _ => rfl, fun _ _ _ => rfl, fun _ _ _ _ => rfl, fun _ _ _ => rfl, fun _ _ _ _ => rfl⟩ (NoCm.ok fun _ _ _ _ _ _ => rfl) fun e h => by
  simp only [mtE] at h
  split at h
  · rename_i g p hx
    obtain rfl := asCallP_some hx
    split at h
    · rename_i o nm ap hg
      obtain rfl := asAttr_some hg
      simp only [Bool.and_eq_true, beq_iff_eq] at h
      obtain ⟨⟨⟨rfl, h4⟩, h5⟩, h6⟩ := h
      exact s_isd B ((ha X CX k EK sp sc B hs).e o h6) h4 (by simpa using h5)
    · cases h
  · cases h
theorem nameL_len : ∀ {es : List Expr} {ts : List Str}, nameL es = some ts → es.length = ts.length
  | [], ts, h => by cases h; rfl
  | e :: es, ts, h => by
    unfold nameL at h
    split at h
    · rename_i x xs _ e2
      cases h
      rw [List.length_cons, List.length_cons, nameL_len e2]
    · cases h
theorem sa_isin {a : P} (ts : List Str) (ha : SA xc tb a) : SA xc tb (.isin a ts) := fun X CX k EK sp sc B hs => .ofE ⟨fun _ _ _ => rfl, fun _ _ _ => rfl, fun _ _ _ => rfl, fun _ _ _ => rfl, fun _ _ _ _ => rfl, fun _ _ _ => rfl, fun _ _ _ _ => rfl⟩ (NoCm.ok fun _ _ _ _ _ _ => rfl) fun e h => by
  simp only [mtE] at h
  split at h
  · rename_i g x t hx
    obtain ⟨pos, rfl⟩ := asCall_some hx
    rw [Bool.and_eq_true, Bool.and_eq_true, Bool.and_eq_true] at h
    obtain ⟨⟨⟨h1, h2⟩, h3⟩, h4⟩ := h
    split at h1
    · rename_i y hg
      obtain ⟨p, rfl⟩ := asName_some hg
      rw [Bool.and_eq_true, beq_iff_eq] at h1
      obtain ⟨rfl, h1⟩ := h1
      unfold tysB at h4
      refine s_isin B ((ha X CX k EK sp sc B hs).e x h3) h2 (hs.2.1 _ h1).1 ?_
      split at h4
      · rename_i z hz
        obtain ⟨q, rfl⟩ := asName_some hz
        rw [Bool.and_eq_true, beq_iff_eq] at h4
        exact .inl ⟨_, _, rfl, h4.1, hs.2.1 z h4.2⟩
      · rw [Bool.and_eq_true] at h4
        obtain ⟨h5, h6⟩ := h4
        split at h5
        · rename_i es he
          obtain ⟨j, q, rfl⟩ := asTup_some he
          rw [Bool.and_eq_true, Bool.and_eq_true, beq_iff_eq, decide_eq_true_eq, decide_eq_true_eq] at h5
          refine .inr ⟨es, j, q, rfl, h5.1.1, h5.1.2, h5.2, fun y hy => ?_⟩
          have z := all_mem h6 y hy
          rw [Bool.and_eq_true] at z
          exact ⟨(hs.2.1 y z.1).1, List.contains_iff_mem.mp z.2⟩
        · cases h5
    · cases h1
  · cases h
theorem sa_fld {a : P} (f : Str) (ha : SA xc tb a) : SA xc tb (.fld a f) := fun X CX k EK sp sc B hs => .ofE ⟨fun _ _ _ => rfl, fun _ _ _ => rfl, fun _ _ _ => rfl, fun _ _ _ => rfl, fun _ _ _ _ => rfl, fun _ _ _ => rfl, fun _ _ _ _ => rfl⟩ (NoCm.ok fun _ _ _ _ _ _ => rfl) fun e h => by
  simp only [mtE] at h
  split at h
  · rename_i o nm ap hx
    obtain rfl := asAttr_some hx
    simp only [Bool.and_eq_true, beq_iff_eq] at h
    obtain ⟨⟨rfl, h4⟩, h6⟩ := h
    exact s_fld B ((ha X CX k EK sp sc B hs).e o h6) h4
  · cases h
theorem mem_of {vs us : List Nat} (h : (vs.all fun v => us.contains v) = true) : ∀ i ∈ vs, i ∈ us := fun i hi => List.contains_iff_mem.mp (all_mem h i hi)
theorem sa_comp (kk : CK) (vs : List Nat) (tg : Tg) {it ifs rest e1 e2 : P} (hi : SA xc tb it) (hf : SA xc tb ifs) (hr : SA xc tb rest) (h1 : SA xc tb e1) : SA xc tb (.comp kk vs tg it ifs rest e1 e2) := fun X CX k EK sp sc B hs => by
  have both : ∀ e, mtE X.N (.comp kk vs tg it ifs rest e1 e2) sc e = true → okE X xc EK tb sp e (.comp kk vs tg it ifs rest e1 e2) ∧ ∀ i y py x gens s2 pos spos, e = .ListComp x gens s2 pos → X.N[i]? = some y → X.env.scope.names.lookup y = some .local → swapsWith (.ListComp x gens s2 pos) (some (.Name y py)) (Pos.line spos) X.env = pure true →
      okAC X xc EK tb sp i (.Assign [.Name y py] (.ListComp x gens s2 pos) spos) (.comp kk vs tg it ifs rest e1 e2) := by
    intro e h
    simp only [mtE] at h
    split at h
    · rename_i x1 x2 t i fs a gs s2 hx
      obtain ⟨hkk, rfl, pos, hel, hes⟩ := asComp_some hx
      simp only [Bool.and_eq_true, beq_iff_eq] at h
      obtain ⟨⟨⟨⟨⟨⟨⟨rfl, hw⟩, hb⟩, htv⟩, hm⟩, hfs⟩, hc⟩, he⟩ := h
      have ha : ∀ g', gs[0]? = some g' → g'.is_async = 0 := by
        intro g' hg
        cases gs with
        | nil => cases hg
        | cons g gs =>
          cases hg
          obtain ⟨_, _, _, _⟩ := g'
          cases rest <;> simp [mtC] at hc
          exact hc.1.1.1.1.1.1
      have bl : ∀ Xb, Bk X s2 Xb → SA' Xb xc (fun _ _ _ => False) tb sp s2 rest ∧ SA' Xb xc (fun _ _ _ => False) tb sp s2 ifs ∧ SA' Xb xc (fun _ _ _ => False) tb sp s2 e1 ∧ Xb.N = X.N := fun Xb hX =>
        ⟨hr Xb CX k _ sp s2 (hX.bd B) hX.scok, hf Xb CX k _ sp s2 (hX.bd B) hX.scok, h1 Xb CX k _ sp s2 (hX.bd B) hX.scok, by obtain ⟨_, _, _, _, _, rfl⟩ := hX; rfl⟩
      have wi := (hi X CX k EK sp sc B hs).w false t i hw
      have hcl : ∀ Xb, Bk X s2 Xb → (∀ i ∈ vsOf rest, i ∈ vs) ∧ okC Xb tb sp kk x2 x2 (⟨t, i, fs, 0⟩ :: gs) s2 pos 0 (vsOf rest) rest (emitK tb kk e1 e2) := fun Xb hX => by
        obtain ⟨b1, b2, b3, b4⟩ := bl Xb hX
        exact b1.c hX.xe kk hkk (⟨t, i, fs, 0⟩ :: gs) 0 vs gs pos x2 x2 e1 e2 rfl (by rw [b4]; exact hc) (b3.e x2 (by rw [b4]; exact he))
      have hsub : ∀ i ∈ vsOf rest, i ∈ vs := by
        cases rest with
        | gen vs' tg' it' ifs' rest' =>
          cases gs with
          | nil => simp [mtC] at hc
          | cons g gs =>
            obtain ⟨_, _, _, _⟩ := g
            simp only [mtC, Bool.and_eq_true] at hc
            exact mem_of hc.1.2
        | _ => exact fun i hi => nomatch hi
      have hif : ∀ Xb, Bk X s2 Xb → okIf Xb tb sp fs ifs := fun Xb hX => by
        obtain ⟨b1, b2, b3, b4⟩ := bl Xb hX
        exact b2.f fs (by rw [b4]; exact hfs)
      have ee : e = mkC kk x2 x2 (⟨t, i, fs, 0⟩ :: gs) s2 pos := by
        rcases hkk with rfl | rfl
        · exact hel rfl
        · exact hes rfl
      refine ⟨by rw [ee]; exact s_comp B wi (blk_of hs hb) ha (mem_of htv) hsub (mtW_plain hw) hm hif fun Xb hX => (hcl Xb hX).2, fun i' y py x gens s3 pos' spos he' hy hyl hsw => ?_⟩
      rcases hkk with rfl | rfl
      rotate_left
      · have z := hes rfl
        rw [he'] at z; cases z
      have z := hel rfl
      rw [he'] at z
      cases z
      intro E σ F H n fp ro D env ok hh wx q
      have hg : ∀ (s : Shared) (H : Hp) (C : Addr) (cl : List (Str × Addr)) (fp : List Addr), PG (X.blk s H s2 (compEnvC s2 cl C X.env) fp) t (fun v σ H Q => ∀ Xb, Bk X s2 Xb → wpG Xb t v σ H Q) := fun s H C cl fp => ⟨fun pins s' σ H' v u Q I r hh => hh _ ⟨s, H, C, cl, fp, rfl⟩ pins s' u I r⟩
      have ht : ∀ (s : Shared) (H : Hp) (C : Addr) (cl : List (Str × Addr)) (fp : List Addr), PTs (X.blk s H s2 (compEnvC s2 cl C X.env) fp) fs (fun σ H Q => ∀ Xb, Bk X s2 Xb → wpTs Xb fs σ H Q) := fun s H C cl fp => ⟨fun pins s' σ H' Q I hh => hh _ ⟨s, H, C, cl, fp, rfl⟩ pins s' I⟩
      have hin : ∀ (s : Shared) (H : Hp) (C : Addr) (cl : List (Str × Addr)) (fp : List Addr) (D : Addr), PIn (X.blk s H s2 (compEnvC s2 cl C X.env) fp) .li x2 x2 (⟨t, i, fs, 0⟩ :: gs) s2 pos 0 D (vsOf rest) (fun σ H Q => ∀ Xb, Bk X s2 Xb → wpIn Xb .li x2 x2 (⟨t, i, fs, 0⟩ :: gs) s2 pos 0 D (vsOf rest) σ H Q) :=
        fun s H C cl fp D => ⟨fun pins s' σ H' Q I hh => hh _ ⟨s, H, C, cl, fp, rfl⟩ pins s' I⟩
      have hv' : ∀ i ∈ vsOf rest, i ∈ (ownOf X.N vs).map (·.2) := by rw [own_snd]; exact hsub
      refine wpS_of (ps_setLcN B.calm B.nodup hy hyl hsw pi_wp (blk_of hs hb) ha hv' hg ht hin (fold_plain (mtW_plain hw))) ?_
      rw [own_snd]
      exact c_comp (p2 := e2) B wi (blk_of hs hb) ha (mem_of htv) hsub (mtW_plain hw) hm hif (fun Xb hX => (hcl Xb hX).2) env ok hh wx q
    · cases h
  exact {
    e := fun e h => (both e h).1
    ac := fun i y py x gens s2 pos spos h hy hyl hsw => (both _ h).2 i y py x gens s2 pos spos rfl hy hyl hsw
    a := fun es h => by simp [mtA] at h
    ka := fun es h => by simp [mtA] at h
    t := fun es h => by simp [mtT] at h
    bt := fun _ es _ h => by simp [mtTs] at h
    b := fun _ es _ h => by simp [mtA] at h
    o := fun es h => by simp [mtO] at h
    w := fun _ _ es h => by simp [mtW] at h
    f := fun es h => by simp [mtIf] at h
    cm := NoCm.ok fun _ _ _ _ _ _ => rfl
    c := fun _ _ _ _ _ _ _ _ _ _ _ _ _ h => by simp [mtC] at h }
theorem sa_gen (vs' : List Nat) (tg : Tg) {it ifs rest : P} (hi : SA xc tb it) (hf : SA xc tb ifs) (hr : SA xc tb rest) : SA xc tb (.gen vs' tg it ifs rest) := fun X CX k EK sp sc B hs => by
  have ii := hi X CX k EK sp sc B hs
  have jf := hf X CX k EK sp sc B hs
  have ir := hr X CX k EK sp sc B hs
  exact {
    e := fun e h => by simp [mtE] at h
    a := fun es h => by simp [mtA] at h
    ka := fun es h => by simp [mtA] at h
    t := fun es h => by simp [mtT] at h
    bt := fun _ es _ h => by simp [mtTs] at h
    b := fun _ es _ h => by simp [mtA] at h
    o := fun es h => by simp [mtO] at h
    w := fun _ _ es h => by simp [mtW] at h
    f := fun es h => by simp [mtIf] at h
    ac := fun _ _ _ _ _ _ _ _ h => by simp [mtE, asBool] at h
    cm := NoCm.ok fun _ _ _ _ _ _ => rfl
    c := fun hx ck hck gens d vs gs pos e1 e2 p1 p2 hd h he => by
      cases gs with
      | nil => simp [mtC] at h
      | cons g gs =>
        obtain ⟨t, i, fs, a⟩ := g
        simp only [mtC, Bool.and_eq_true, beq_iff_eq] at h
        obtain ⟨⟨⟨⟨⟨⟨rfl, hw⟩, hm⟩, hfs⟩, htv⟩, hv⟩, hc⟩ := h
        have hg1 : gens[d + 1]? = some ⟨t, i, fs, 0⟩ := by
          have := congrArg (fun l => l[0]?) hd
          simpa using this
        have hdr : gens.drop (d + 1 + 1) = gs := by
          have := congrArg (fun l => l.drop 1) hd
          simpa [List.drop_drop] using this
        have ha : ∀ g', gens[d + 2]? = some g' → g'.is_async = 0 := by
          intro g' hg
          have e : gs[0]? = some g' := by rw [← hdr]; simpa using hg
          cases gs with
          | nil => cases e
          | cons g gs =>
            cases e
            obtain ⟨_, _, _, _⟩ := g'
            cases rest <;> simp [mtC] at hc
            exact hc.1.1.1.1.1.1
        obtain ⟨h1, h2⟩ := ir.c hx ck hck gens (d + 1) vs' gs pos e1 e2 p1 p2 hdr hc he
        exact ⟨mem_of hv, c_gen B.calm B.nodup hx hs.2.2.1 hg1 ha (ii.w true t i hw) hm (jf.f fs hfs) h2 (mem_of htv) h1 (mtW_plain hw)⟩ }
theorem sa_rng {as : P} (ha : SA xc tb as) : SA xc tb (.rng as) := fun X CX k EK sp sc B hs => by
  have ia := ha X CX k EK sp sc B hs
  exact {
    e := fun e h => by simp [mtE] at h
    a := fun es h => by simp [mtA] at h
    ka := fun es h => by simp [mtA] at h
    t := fun es h => by simp [mtT] at h
    bt := fun _ es _ h => by simp [mtTs] at h
    b := fun _ es _ h => by simp [mtA] at h
    o := fun es h => by simp [mtO] at h
    f := fun es h => by simp [mtIf] at h
    ac := fun _ _ _ _ _ _ _ _ h => by simp [mtE, asBool] at h
    cm := NoCm.ok fun _ _ _ _ _ _ => rfl
    c := fun _ _ _ _ _ _ _ _ _ _ _ _ _ h => by simp [mtC] at h
    w := fun st tg e h => by
      simp only [mtW] at h
      split at h
      · rename_i g es kws hx
        obtain ⟨pos, rfl⟩ := asCall_some hx
        rw [Bool.and_eq_true, Bool.and_eq_true, Bool.and_eq_true, Bool.and_eq_true] at h
        obtain ⟨⟨⟨⟨h1, h2⟩, h3⟩, h4⟩, h5⟩ := h
        split at h1
        · rename_i y hg
          obtain ⟨p, rfl⟩ := asName_some hg
          rw [Bool.and_eq_true, beq_iff_eq] at h1
          obtain ⟨rfl, h1⟩ := h1
          rw [List.isEmpty_iff] at h2
          subst h2
          rw [decide_eq_true_eq] at h3
          have gl := (hs.2.1 _ h1).1
          have ea := ia.a es h5
          have hpl := mtA_plain h5
          have hln := mtA_len h5
          match es, h3, h4, ea, hpl, hln with
          | [a], _, _, ea, hpl, hln => exact w_rng1 B gl ea (all_mem hpl a (List.mem_cons_self ..)) hln
          | [a, b], _, _, ea, hpl, hln => exact w_rng2 B gl ea (all_mem hpl a (by simp)) (all_mem hpl b (by simp)) hln
          | [a, b, c], _, _, ea, hpl, hln => exact w_rng3 B gl ea (all_mem hpl a (by simp)) (by rw [List.all_cons, Bool.and_eq_true] at hpl; exact hpl.2) hln
          | _ :: _ :: _ :: _ :: _, h3, _, _, _, _ => simp at h3
          | [], _, h4, _, _, _ => cases h4
        · cases h1
      · cases h }
theorem sa_zip {a b : P} (ha : SA xc tb a) (hb : SA xc tb b) : SA xc tb (.zip a b) := fun X CX k EK sp sc B hs => by
  have ia := ha X CX k EK sp sc B hs
  have ib := hb X CX k EK sp sc B hs
  exact {
    e := fun e h => by simp [mtE] at h
    a := fun es h => by simp [mtA] at h
    ka := fun es h => by simp [mtA] at h
    t := fun es h => by simp [mtT] at h
    bt := fun _ es _ h => by simp [mtTs] at h
    b := fun _ es _ h => by simp [mtA] at h
    o := fun es h => by simp [mtO] at h
    f := fun es h => by simp [mtIf] at h
    ac := fun _ _ _ _ _ _ _ _ h => by simp [mtE, asBool] at h
    cm := NoCm.ok fun _ _ _ _ _ _ => rfl
    c := fun _ _ _ _ _ _ _ _ _ _ _ _ _ h => by simp [mtC] at h
    w := fun st tg e h => by
      simp only [mtW] at h
      split at h
      · rename_i g x y hx
        obtain ⟨pos, rfl⟩ := asCall_some hx
        simp only [Bool.and_eq_true] at h
        obtain ⟨⟨⟨⟨⟨h1, h2⟩, h3⟩, h4⟩, h5⟩, h6⟩ := h
        split at h1
        · rename_i z hg
          obtain ⟨p, rfl⟩ := asName_some hg
          rw [Bool.and_eq_true, beq_iff_eq] at h1
          obtain ⟨rfl, h1⟩ := h1
          obtain ⟨ts, ht⟩ := Option.isSome_iff_exists.mp h2
          obtain ⟨j, p2, rfl⟩ := asTup_some ht
          exact w_zip B (hs.2.1 _ h1).1 (ia.e x h5) (ib.e y h6) h3 h4
        · cases h1
      · cases h }
theorem sa_enum {a : P} (ha : SA xc tb a) : SA xc tb (.enum a) := fun X CX k EK sp sc B hs => by
  have ia := ha X CX k EK sp sc B hs
  exact {
    e := fun e h => by simp [mtE] at h
    a := fun es h => by simp [mtA] at h
    ka := fun es h => by simp [mtA] at h
    t := fun es h => by simp [mtT] at h
    bt := fun _ es _ h => by simp [mtTs] at h
    b := fun _ es _ h => by simp [mtA] at h
    o := fun es h => by simp [mtO] at h
    f := fun es h => by simp [mtIf] at h
    ac := fun _ _ _ _ _ _ _ _ h => by simp [mtE, asBool] at h
    cm := NoCm.ok fun _ _ _ _ _ _ => rfl
    c := fun _ _ _ _ _ _ _ _ _ _ _ _ _ h => by simp [mtC] at h
    w := fun st tg e h => by
      simp only [mtW] at h
      split at h
      · rename_i g x hx
        obtain ⟨pos, rfl⟩ := asCall_some hx
        simp only [Bool.and_eq_true] at h
        obtain ⟨⟨⟨h1, h2⟩, h3⟩, h4⟩ := h
        split at h1
        · rename_i z hg
          obtain ⟨p, rfl⟩ := asName_some hg
          rw [Bool.and_eq_true, beq_iff_eq] at h1
          obtain ⟨rfl, h1⟩ := h1
          obtain ⟨ts, ht⟩ := Option.isSome_iff_exists.mp h2
          obtain ⟨j, p2, rfl⟩ := asTup_some ht
          exact w_enum B (hs.2.1 _ h1).1 (ia.e x h4) h3
        · cases h1
      · cases h }
theorem sa_sgn {a : P} (ha : SA xc tb a) : SA xc tb (.sgn a) := fun X CX k EK sp sc B hs => by
  have ia := ha X CX k EK sp sc B hs
  exact {
    e := fun e h => by simp [mtE] at h
    a := fun es h => by simp [mtA] at h
    ka := fun es h => by simp [mtA] at h
    t := fun es h => by simp [mtT] at h
    bt := fun _ es _ h => by simp [mtTs] at h
    b := fun _ es _ h => by simp [mtA] at h
    o := fun es h => by simp [mtO] at h
    f := fun es h => by simp [mtIf] at h
    ac := fun _ _ _ _ _ _ _ _ h => by simp [mtE, asBool] at h
    cm := NoCm.ok fun _ _ _ _ _ _ => rfl
    c := fun _ _ _ _ _ _ _ _ _ _ _ _ _ h => by simp [mtC] at h
    w := fun st tg e h => by
      simp only [mtW, Bool.and_eq_true] at h
      exact w_sgn B (ia.e e h.2) }
theorem sa_enus {a b : P} (ha : SA xc tb a) (hb : SA xc tb b) : SA xc tb (.enus a b) := fun X CX k EK sp sc B hs => by
  have ia := ha X CX k EK sp sc B hs
  have ib := hb X CX k EK sp sc B hs
  exact {
    e := fun e h => by simp [mtE] at h
    a := fun es h => by simp [mtA] at h
    ka := fun es h => by simp [mtA] at h
    t := fun es h => by simp [mtT] at h
    bt := fun _ es _ h => by simp [mtTs] at h
    b := fun _ es _ h => by simp [mtA] at h
    o := fun es h => by simp [mtO] at h
    f := fun es h => by simp [mtIf] at h
    ac := fun _ _ _ _ _ _ _ _ h => by simp [mtE, asBool] at h
    cm := NoCm.ok fun _ _ _ _ _ _ => rfl
    c := fun _ _ _ _ _ _ _ _ _ _ _ _ _ h => by simp [mtC] at h
    w := fun st tg e h => by
      simp only [mtW] at h
      split at h
      · rename_i g x m y kp hx
        obtain ⟨pos, rfl⟩ := asCall_some hx
        simp only [Bool.and_eq_true, beq_iff_eq] at h
        obtain ⟨⟨⟨⟨⟨h1, rfl⟩, h2⟩, h3⟩, h4⟩, h5⟩ := h
        split at h1
        · rename_i z hg
          obtain ⟨p, rfl⟩ := asName_some hg
          rw [Bool.and_eq_true, beq_iff_eq] at h1
          obtain ⟨rfl, h1⟩ := h1
          obtain ⟨ts, ht⟩ := Option.isSome_iff_exists.mp h2
          obtain ⟨j, p2, rfl⟩ := asTup_some ht
          exact w_enus B (hs.2.1 _ h1).1 (ia.e x h4) (s_kcons B (ib.e y h5) (s_knil B)) h3
        · cases h1
      · cases h }
theorem sa_itr {a : P} (ha : SA xc tb a) : SA xc tb (.itr a) := fun X CX k EK sp sc B hs => by
  have ia := ha X CX k EK sp sc B hs
  exact {
    e := fun e h => by simp [mtE] at h
    a := fun es h => by simp [mtA] at h
    ka := fun es h => by simp [mtA] at h
    t := fun es h => by simp [mtT] at h
    bt := fun _ es _ h => by simp [mtTs] at h
    b := fun _ es _ h => by simp [mtA] at h
    o := fun es h => by simp [mtO] at h
    f := fun es h => by simp [mtIf] at h
    ac := fun _ _ _ _ _ _ _ _ h => by simp [mtE, asBool] at h
    cm := NoCm.ok fun _ _ _ _ _ _ => rfl
    c := fun _ _ _ _ _ _ _ _ _ _ _ _ _ h => by simp [mtC] at h
    w := fun st tg e h => by
      simp only [mtW, Bool.and_eq_true] at h
      exact w_itr B (ia.e e h.2) }
theorem sa_tv {a : P} (ha : SA xc tb a) : SA xc tb (.tv a) := fun X CX k EK sp sc B hs => by
  have ia := ha X CX k EK sp sc B hs
  exact {
    e := fun e h => by simp [mtE] at h
    a := fun es h => by simp [mtA] at h
    ka := fun es h => by simp [mtA] at h
    bt := fun _ es _ h => by simp [mtTs] at h
    b := fun _ es _ h => by simp [mtA] at h
    o := fun es h => by simp [mtO] at h
    f := fun es h => by simp [mtIf] at h
    w := fun _ _ es h => by simp [mtW] at h
    ac := fun _ _ _ _ _ _ _ _ h => by simp [mtE, asBool] at h
    cm := NoCm.ok fun _ _ _ _ _ _ => rfl
    c := fun _ _ _ _ _ _ _ _ _ _ _ _ _ h => by simp [mtC] at h
    t := fun e h => by
      simp only [mtT, Bool.and_eq_true] at h
      obtain ⟨⟨⟨h1, h2⟩, h3⟩, h4⟩ := h
      by_cases hc : (asCmp e).isSome = true
      · exact ia.cm e h1 hc
      · exact s_tv B (ia.e e h1) (plain_true h2 h3 h4 (by cases z : asCmp e with
          | none => rfl
          | some _ => rw [z] at hc; exact absurd rfl hc)) }
theorem sa_no : SA xc tb .no := fun X CX k EK sp sc B hs => {
    e := fun e h => by simp [mtE] at h
    a := fun es h => by
      simp only [mtA, List.isEmpty_iff] at h
      subst h
      exact s_anil B
    ka := fun kws h => by
      simp only [mtA, List.isEmpty_iff] at h
      cases kws with
      | nil => exact s_knil B
      | cons kw kws => obtain ⟨_, _, _⟩ := kw; simp [kwExprs] at h
    t := fun es h => by simp [mtT] at h
    bt := fun _ es _ h hn => by
      simp only [mtTs, List.isEmpty_iff] at h
      exact absurd h hn
    b := fun _ es _ h hn => by
      simp only [mtA, List.isEmpty_iff] at h
      exact absurd h hn
    o := fun e h => by
      cases e with
      | none => exact s_onone B
      | some e => simp [mtO] at h
    f := fun fs h => by
      simp only [mtIf, List.isEmpty_iff] at h
      subst h
      exact c_if0
    w := fun _ _ es h => by simp [mtW] at h
    ac := fun _ _ _ _ _ _ _ _ h => by simp [mtE, asBool] at h
    cm := NoCm.ok fun _ _ _ _ _ _ => rfl
    c := fun hx ck hck gens d vs gs pos e1 e2 p1 p2 hd h he => by
      simp only [mtC, List.isEmpty_iff] at h
      subst h
      refine ⟨(fun i hi => by cases hi), c_last hck (Room.u65 B.room) hx ?_ he⟩
      rw [List.drop_eq_nil_iff] at hd
      exact List.getElem?_eq_none hd }
theorem sa_cons {a as : P} (ha : SA xc tb a) (has : SA xc tb as) : SA xc tb (.cons a as) := fun X CX k EK sp sc B hs => by
  have ia := ha X CX k EK sp sc B hs
  have ib := has X CX k EK sp sc B hs
  exact {
    e := fun e h => by simp [mtE] at h
    a := fun es h => by
      cases es with
      | nil => simp [mtA] at h
      | cons e es =>
        simp only [mtA, Bool.and_eq_true] at h
        exact s_acons B h.1.1 (ia.e e h.1.2) (ib.a es h.2)
    ka := fun kws h => by
      cases kws with
      | nil => simp [mtA, kwExprs] at h
      | cons kw kws =>
        obtain ⟨nm, e, kp⟩ := kw
        simp only [mtA, kwExprs, Bool.and_eq_true] at h
        exact s_kcons B (ia.e e h.1.2) (ib.ka kws h.2)
    t := fun es h => by simp [mtT] at h
    bt := fun q es pos h hn => by
      cases es with
      | nil => exact absurd rfl hn
      | cons e es =>
        simp only [mtTs, Bool.and_eq_true] at h
        cases es with
        | nil =>
          have e := mtTs_nil h.2
          subst e
          exact s_bt1 B (ia.t _ h.1)
        | cons e' es => exact s_bt B (mtTs_no h.2) (ia.t e h.1) (ib.bt q (e' :: es) pos h.2 (fun z => nomatch z))
    b := fun q es pos h hn => by
      cases es with
      | nil => exact absurd rfl hn
      | cons e es =>
        simp only [mtA, Bool.and_eq_true] at h
        cases es with
        | nil =>
          have e := mtA_nil h.2
          subst e
          exact s_b1 B (ia.e _ h.1.2)
        | cons e' es => exact s_b B (mtA_no h.2) (ia.e e h.1.2) (ib.b q (e' :: es) pos h.2 (fun z => nomatch z))
    o := fun e h => by
      cases as with
      | no =>
        cases e with
        | none => simp [mtO] at h
        | some e =>
          simp only [mtO] at h
          exact s_osome B (ia.e e h)
      | _ => simp [mtO] at h
    f := fun fs h => by
      cases as with
      | no =>
        cases fs with
        | nil => simp [mtIf] at h
        | cons e es =>
          cases es with
          | nil =>
            simp only [mtIf] at h
            exact c_if1 (ia.t e h)
          | cons e' es => simp [mtIf] at h
      | _ => simp [mtIf] at h
    w := fun _ _ es h => by simp [mtW] at h
    ac := fun _ _ _ _ _ _ _ _ h => by simp [mtE, asBool] at h
    cm := NoCm.ok fun _ _ _ _ _ _ => rfl
    c := fun _ _ _ _ _ _ _ _ _ _ _ _ _ h => by simp [mtC] at h }
theorem sound : ∀ p : P, SA xc tb p
  | .no => sa_no
  | .var i => sa_var i
  | .lit d => sa_lit d
  | .glob x => sa_glob x
  | .bin op a b => sa_bin op (sound a) (sound b)
  | .neg a => sa_neg (sound a)
  | .cmp op a b => sa_cmp op (sound a) (sound b)
  | .cmp2 o1 o2 a b c => sa_cmp2 o1 o2 (sound a) (sound b) (sound c)
  | .bool q as => sa_bool q (sound as)
  | .nott a => sa_nott (sound a) fun b e => by subst e; exact sound b
  | .ife c a b => sa_ife (sound c) (sound a) (sound b)
  | .tup as => sa_tup (sound as)
  | .lst as => sa_lst (sound as)
  | .dct as => sa_dct
  | .idx a b => sa_idx (sound a) (sound b)
  | .slc a lo hi => sa_slc (sound a) (sound lo) (sound hi)
  | .rev a => sa_rev (sound a)
  | .call f as ks => sa_call f ks (sound as)
  | .bi b as => sa_bi b (sound as)
  | .mth m a b => sa_mth m (sound a) (sound b)
  | .isd a => sa_isd (sound a)
  | .fld a f => sa_fld f (sound a)
  | .enus a b => sa_enus (sound a) (sound b)
  | .sgn a => sa_sgn (sound a)
  | .isin a ts => sa_isin ts (sound a)
  | .comp k vs tg it ifs rest e1 e2 => sa_comp k vs tg (sound it) (sound ifs) (sound rest) (sound e1)
  | .gen vs tg it ifs rest => sa_gen vs tg (sound it) (sound ifs) (sound rest)
  | .rng as => sa_rng (sound as)
  | .lrng a => sa_lrng (sound a)
  | .iof a b => sa_iof
  | .zip a b => sa_zip (sound a) (sound b)
  | .enum a => sa_enum (sound a)
  | .itr a => sa_itr (sound a)
  | .tv a => sa_tv (sound a)
  | .cons a as => sa_cons (sound a) (sound as)
end
end Lk
end
section
set_option linter.all false
set_option maxRecDepth 100000
set_option maxHeartbeats 4000000
/-! Statements. -/
namespace Lk
open PySem PySem.Spec PyProof.Rows L2
/-- between two statements: entered at (F0, H0) -/
structure Stt (w : World) (K : KF) (sp : Option Addr) (F0 H0 G : Hp) (E : En) (σ : L2.St) (F H : Hp) (n : Int) : Prop where
  ex : ∃ fp, EnvRel w K sp F H E σ fp ∧ ∀ i, ∀ a ∈ fp i, H0 a = none
  ok : Ok sp F H n
  ext : Ext sp F0 H0 F H
  sub : Sub G F
/-- what is wanted behind -/
def WishS (w : World) (K : KF) (xc : XC) (sp : Option Addr) (F0 H0 G : Hp) (EK : XK) (D : Ends) : So → Prop
  | .nx E n => ∀ σ F H, Stt w K sp F0 H0 G E σ F H n → D.nx σ H
  | .bk E n => ∀ σ F H, Stt w K sp F0 H0 G E σ F H n → D.bk σ H
  | .ct E n => ∀ σ F H, Stt w K sp F0 H0 G E σ F H n → D.ct σ H
  | .rt d n => ∀ v F H, Ext sp F0 H0 F H → Ok sp F H n → Rp w K F v d → D.rt v H
  | .ex c d n => WishX xc sp F0 H0 EK c d n
section
variable {w : World} {K : KF} {sp : Option Addr} {F0 H0 G F H F' H' : Hp} {n n' : Int} {E : En} {σ : L2.St} {fp : Nat → List Addr}
theorem Stt.after (s : Stt w K sp F0 H0 G E σ F H n) (e : Ext sp F H F' H') (k : Ok sp F' H' n') : Stt w K sp F0 H0 G E σ F' H' n' := by
  obtain ⟨⟨fp, h1, h2⟩, _, h3, h4⟩ := s
  exact ⟨⟨fp, h1.ext e, h2⟩, k, h3.trans e, h4.trans e.sub⟩
/-- a name's thing does not change from now on -/
theorem Stt.fz1 {i : Nat} {t : OT} {d : Lk.D} (s : Stt w K sp F0 H0 G E σ F H n) (hi : E[i]? = some (some (.mu t))) (hd : t.dat = some d) : ∃ F', Stt w K sp F0 H0 G (E.set i (some (.im d))) σ F' H n ∧ Sub F F' := by
  obtain ⟨⟨fp, h1, h2⟩, k, e, sg⟩ := s
  have hA := h1.out i
  obtain ⟨v, hv, rb⟩ := h1.rel i _ hi
  have hlt : i < E.length := by
    rcases Nat.lt_or_ge i E.length with z | z
    · exact z
    · rw [List.getElem?_eq_none z] at hi; cases hi
  have sb : Sub F (fzH F H (fp i)) := fz_sub fun a ha => (hA a ha).1
  have rp : Rp w K (fzH F H (fp i)) v d := by
    generalize hq : fp i = A at rb hA ⊢
    cases rb with
    | mu ow nd => exact ow.fz (fun a ha => (hA a ha).1) hd
  refine ⟨fzH F H (fp i), ⟨⟨fun j => if j = i then [] else fp j, ?_, fun j a ha => ?_⟩, fz_ok k hA, fz_ext e hA (h2 i), sg.trans sb⟩, sb⟩
  · refine ⟨by rw [List.length_set]; exact h1.len, fun j b hb => ?_, fun j a ha => ?_, fun j l hjl a ha hl => ?_⟩
    · by_cases z : j = i
      · subst z
        rw [List.getElem?_set_self hlt] at hb
        cases hb
        exact ⟨v, hv, by rw [if_pos rfl]; exact .im rp⟩
      · rw [List.getElem?_set_ne (Ne.symm z)] at hb
        obtain ⟨u, hu, r⟩ := h1.rel j b hb
        refine ⟨u, hu, ?_⟩
        rw [if_neg z]
        generalize fp j = A at r
        cases r with
        | im r => exact .im (r.mono sb)
        | mu r nd => exact .mu (r.at sb fun _ _ _ z => z) nd
        | sp r => exact .sp r
    · by_cases z : j = i
      · rw [if_pos z] at ha; cases ha
      · rw [if_neg z] at ha
        obtain ⟨q1, q2, q3⟩ := h1.out j a ha
        exact ⟨by rw [fz_out fun q => h1.dis j i z a ha q]; exact q1, q2, q3⟩
    · by_cases z : j = i
      · rw [if_pos z] at ha; cases ha
      · rw [if_neg z] at ha
        by_cases z2 : l = i
        · rw [if_pos z2] at hl; cases hl
        · rw [if_neg z2] at hl; exact h1.dis j l hjl a ha hl
  · have ha : a ∈ (if j = i then [] else fp j) := ha
    by_cases z : j = i
    · rw [if_pos z] at ha; cases ha
    · rw [if_neg z] at ha; exact h2 j a ha
theorem Stt.frz : ∀ {is : List Nat} {E : En} {F : Hp}, Stt w K sp F0 H0 G E σ F H n → ∃ F', Stt w K sp F0 H0 G (Lk.frz E is) σ F' H n ∧ Sub F F'
  | [], E, F, s => ⟨F, s, Sub.refl F⟩
  | i :: is, E, F, s => by
    unfold Lk.frz
    split
    · rename_i t hi
      split
      · rename_i d hd
        obtain ⟨F1, s1, e1⟩ := s.fz1 hi hd
        obtain ⟨F2, s2, e2⟩ := Stt.frz (is := is) s1
        exact ⟨F2, s2, e1.trans e2⟩
      · exact Stt.frz s
    · exact Stt.frz s
end
/-! ### parts of So -/
theorem so_of {m : M α} {f : α → Int → Option So} {so : So} (h : So.of m f = some so) : (∃ a n, m = some (.ok a n) ∧ f a n = some so) ∨ ∃ c d n, m = some (.ex c d n) ∧ so = .ex c d n := by
  cases m with
  | none => cases h
  | some r =>
    cases r with
    | ok a n => exact .inl ⟨a, n, rfl, h⟩
    | ex c d n => cases h; exact .inr ⟨c, d, n, rfl, rfl⟩
theorem so_then {o : Option So} {f : En → Int → Option So} {so : So} (h : So.then o f = some so) : (∃ E n, o = some (.nx E n) ∧ f E n = some so) ∨ (o = some so ∧ ∀ E n, so ≠ .nx E n) := by
  cases o with
  | none => cases h
  | some r =>
    cases r with
    | nx E n => exact .inl ⟨E, n, rfl, h⟩
    | _ => cases h; exact .inr ⟨rfl, fun E n z => by cases z⟩
/-! ### readings -/
section
variable {X : Cx}
def wpSs (X : Cx) (sts : List Stmt) : TS := fun D σ H => ∀ (pins : List (Addr × Obj)) (s : Shared), Inv X pins σ H s → wpAny (model X.prog X.w) X.A (execs sts X.env) (SP X pins D) X.xe s
theorem pss_wp {sts : List Stmt} : PSs X sts (wpSs X sts) := ⟨fun pins s σ H D I h => h pins s I⟩
theorem wpSs_of {sts : List Stmt} {t : TS} {D : Ends} {σ : L2.St} {H : Hp} (p : PSs X sts t) (h : t D σ H) : wpSs X sts D σ H := fun pins s I => p.run pins s σ H D I h
end
def okS (X : Cx) (xc : XC) (EK : XK) (tb : Tb) (sp : Option Addr) (F0 H0 : Hp) (sts : List Stmt) (s : S) : Prop := ∀ ⦃G : Hp⦄ ⦃E : En⦄ ⦃σ : L2.St⦄ ⦃F H : Hp⦄ ⦃n : Int⦄ ⦃so : So⦄ ⦃D : Ends⦄, Stt X.w X.K sp F0 H0 G E σ F H n → evS tb s E n = some so →
  WishS X.w X.K xc sp F0 H0 G EK D so → wpSs X sts D σ H
section
variable {X : Cx} {CX : CXT} {k : Nat} {xc : XC} {EK : XK} {tb : Tb} {sp : Option Addr} {F0 H0 G : Hp} {sc : Scope}
theorem WishX.wx {F H : Hp} {α : Type} {c : Str} {d : Lk.D} {n : Int} (h : WishX xc sp F0 H0 EK c d n) (e : Ext sp F0 H0 F H) : WX xc sp F H EK (.ex c d n : Ro α) := fun c' d' n' z => by cases z; exact h.ext e
/-- an expression in a statement -/
theorem stE {e : Expr} {p : P} {f : R → Int → Option So} {so : So} {D : Ends} {Q : VK} {E : En} {σ : L2.St} {F H : Hp} {n : Int} (ha : okE X xc EK tb sp e p) (st : Stt X.w X.K sp F0 H0 G E σ F H n) (h : So.of (evE tb p E n) f = some so)
    (ws : WishS X.w X.K xc sp F0 H0 G EK D so) (next : ∀ r n1, f r n1 = some so → ∀ v F1 H1, PostE X.w X.K sp F H r n1 v F1 H1 → Q v H1) : wpE X e σ H Q := by
  obtain ⟨⟨fp, env, _⟩, ok, ext, _⟩ := st
  rcases so_of h with ⟨r, n1, e1, h1⟩ | ⟨c, d, n1, e1, rfl⟩
  · exact ha env ok e1 (fun c d n z => by cases z) fun r' n' z => by cases z; exact next r n1 h1
  · exact ha env ok e1 (WishX.wx ws ext) fun r' n' z => by cases z
theorem stT {e : Expr} {p : P} {f : Bool → Int → Option So} {so : So} {D : Ends} {Q : Bool → Hp → Prop} {E : En} {σ : L2.St} {F H : Hp} {n : Int} (ha : okT X xc EK tb sp e p) (st : Stt X.w X.K sp F0 H0 G E σ F H n) (h : So.of (evT tb p E n) f = some so)
    (ws : WishS X.w X.K xc sp F0 H0 G EK D so) (next : ∀ r n1, f r n1 = some so → ∀ F1 H1, Ext sp F H F1 H1 → Ok sp F1 H1 n1 → Q r H1) : wpT X e σ H Q := by
  obtain ⟨⟨fp, env, _⟩, ok, ext, _⟩ := st
  rcases so_of h with ⟨r, n1, e1, h1⟩ | ⟨c, d, n1, e1, rfl⟩
  · exact ha env ok e1 (fun c d n z => by cases z) fun r' n' z => by cases z; exact next r n1 h1
  · exact ha env ok e1 (WishX.wx ws ext) fun r' n' z => by cases z
theorem t_done : okS X xc EK tb sp F0 H0 [] .done := by
  intro G E σ F H n so D st h ws
  simp only [evS] at h
  cases h
  exact wpSs_of pss_nil (ws σ F H st)
theorem t_brk {pos : Pos} {r : List Stmt} : okS X xc EK tb sp F0 H0 (.Break pos :: r) .brk := by
  intro G E σ F H n so D st h ws
  simp only [evS] at h
  cases h
  exact wpSs_of (pss_cons ps_break pss_never) (ws σ F H st)
theorem t_cnt {pos : Pos} {r : List Stmt} : okS X xc EK tb sp F0 H0 (.Continue pos :: r) .cnt := by
  intro G E σ F H n so D st h ws
  simp only [evS] at h
  cases h
  exact wpSs_of (pss_cons ps_continue pss_never) (ws σ F H st)
theorem ret_ok {F1 H1 : Hp} {r : R} {v : V} {d : Lk.D} {n1 : Int} {E : En} {σ : L2.St} {F H : Hp} {n : Int} (st : Stt X.w X.K sp F0 H0 G E σ F H n) (p : PostE X.w X.K sp F H r n1 v F1 H1) (h : retD r = some d) : ∃ F', Ext sp F0 H0 F' H1 ∧ Ok sp F' H1 n1 ∧ Rp X.w X.K F' v d := by
  obtain ⟨e1, k1, A, r1, f1⟩ := p
  have hA := r1.there
  exact ⟨_, fz_ext (st.ext.trans e1) hA fun a ha => (st.ext).fresh (f1 a ha), fz_ok k1 hA, r1.fix k1 h⟩
theorem t_ret {e : Expr} {p : P} {pos : Pos} {r : List Stmt} (ha : okE X xc EK tb sp e p) : okS X xc EK tb sp F0 H0 (.Return (some e) pos :: r) (.ret p) := by
  intro G E σ F H n so D st h ws
  simp only [evS] at h
  obtain ⟨F1, st1, _⟩ := st.frz (is := varOf p ++ consP p)
  refine wpSs_of (pss_cons (ps_ret pe_wp) pss_never) (stE ha st1 h ws fun x n1 h1 v F2 H2 p2 => ?_)
  rw [Option.map_eq_some_iff] at h1
  obtain ⟨d, h2, rfl⟩ := h1
  obtain ⟨F', e', k', r'⟩ := ret_ok st1 p2 h2
  exact ws v F' H2 e' k' r'
theorem t_if {c : Expr} {a b r : List Stmt} {pc : P} {sa sb sr : S} {pos : Pos} (hc : okT X xc EK tb sp c pc) (ha : okS X xc EK tb sp F0 H0 a sa) (hb : okS X xc EK tb sp F0 H0 b sb) (hr : okS X xc EK tb sp F0 H0 r sr) : okS X xc EK tb sp F0 H0 (.If c a b pos :: r) (.ife pc sa sb sr) := by
  intro G E σ F H n so D st h ws
  simp only [evS] at h
  refine wpSs_of (pss_cons (ps_if pt_wp pss_wp pss_wp) pss_wp) (stT hc st h ws fun kk n1 h1 F1 H1 e1 k1 => ?_)
  have st1 := st.after e1 k1
  have br : ∀ {xs : List Stmt} {s : S}, okS X xc EK tb sp F0 H0 xs s → So.then (evS tb s E n1) (fun E n => evS tb sr E n) = some so → wpSs X xs { D with nx := wpSs X r D } σ H1 := by
    intro xs s hx h2
    rcases so_then h2 with ⟨E2, n2, h3, h4⟩ | ⟨h3, hn⟩
    · exact hx st1 h3 fun σ' F' H' st' => hr st' h4 ws
    · refine hx st1 h3 ?_
      cases so with
      | nx E n => exact absurd rfl (hn E n)
      | _ => exact ws
  cases kk with
  | true => rw [if_pos rfl] at h1 ⊢; exact br ha h1
  | false => rw [if_neg Bool.false_ne_true] at h1 ⊢; exact br hb h1
/-- a target in a statement -/
theorem st_bind {tg : Tg} {t : Expr} {r : R} {v : V} {E E' : En} {σ : L2.St} {F H F1 H1 : Hp} {n n1 : Int} {Q : L2.St → Hp → Prop} (B : Bd X CX k xc EK tb) (hs : ScOk X sc) (hm : mtG X.N sc tg t = true) (st : Stt X.w X.K sp F0 H0 G E σ F H n) (p : PostE X.w X.K sp F H r n1 v F1 H1) (h : bindT E tg r = some E')
    (q : ∀ σ', Stt X.w X.K sp F0 H0 G E' σ' F1 H1 n1 → Q σ' H1) : wpG X t v σ H1 Q := by
  obtain ⟨⟨fp, env, hf⟩, ok, ext, sg⟩ := st
  obtain ⟨e1, k1, A, r1, f1⟩ := p
  refine g_ok B.calm B.nodup hs.2.2.1 hm (env.ext e1) k1 r1 (fun j a ha z => ?_) h fun σ' fp' env' _ hsub => q σ' ⟨⟨fp', env', fun i a ha => ?_⟩, k1, ext.trans e1, sg.trans e1.sub⟩
  · exact (env.out j a z).2.1 (f1 a ha)
  · rcases hsub i a ha with z | z
    · exact hf i a z
    · exact ext.fresh (f1 a z)
theorem t_asg {t e : Expr} {tg : Tg} {p : P} {r : List Stmt} {sr : S} {pos : Pos} (B : Bd X CX k xc EK tb) (hs : ScOk X sc) (hm : mtG X.N sc tg t = true) (ha : okE X xc EK tb sp e p) (h1 : swapsWithSole [t] e pos.line X.env = pure false) (h2 : swappedStores [t] e X.env = pure none) (hr : okS X xc EK tb sp F0 H0 r sr) :
    okS X xc EK tb sp F0 H0 (.Assign [t] e pos :: r) (.asg tg p sr) := by
  intro G E σ F H n so D st h ws
  simp only [evS] at h
  obtain ⟨F1, st1, _⟩ := st.frz (is := consP p)
  have h3 : (assignEach [t] X.env).map (·.2) = [assign t X.env] := by
    cases tg <;> unfold mtG at hm <;> simp only at hm <;> split at hm
    · rename_i x hx; obtain ⟨_, rfl⟩ := asName_some hx; rfl
    · cases hm
    · rename_i x hx; obtain ⟨_, _, rfl⟩ := asTup_some hx; rfl
    · cases hm
  refine wpSs_of (pss_cons (ps_asg pe_wp pg_wp h1 h2 h3) pss_wp) (stE ha st1 h ws fun x n1 h4 v F2 H2 p2 => ?_)
  rw [Option.bind_eq_some_iff] at h4
  obtain ⟨E1, h5, h6⟩ := h4
  exact st_bind B hs hm st1 p2 h5 fun σ' st' => hr st' h6 ws
theorem loopS_cons {f : Lk.D → En → Int → Option So} {x : Lk.D} {xs : List Lk.D} {E : En} {n : Int} : loopS f (x :: xs) E n = match f x E n with
    | some (.nx E' n') => loopS f xs E' n'
    | some (.ct E' n') => loopS f xs E' n'
    | some (.bk E' n') => some (.nx E' n')
    | o => o := rfl
def forFrz (it : P) : List Nat := match it with | .itr (.var i) => [i] | .itr a => consP a | .zip a b => varOf a ++ varOf b | .enum a => varOf a | .enus a _ => varOf a | _ => []
theorem t_for {t it : Expr} {b r : List Stmt} {tg : Tg} {p : P} {sb sr : S} {pos : Pos} (B : Bd X CX k xc EK tb) (hs : ScOk X sc) (hp : PassesOwn (model X.prog X.w) X.A X.env X.xe) (hm : mtG X.N sc tg t = true) (hw : okW X xc EK tb sp true t it p) (hns : notSetB it = true)
    (hb : okS X xc EK tb sp F0 H0 b sb) (hr : okS X xc EK tb sp F0 H0 r sr) : okS X xc EK tb sp F0 H0 (.For t it b [] pos :: r) (.forr tg p sb sr) := by
  intro G E σ F H n so D st h ws
  have h : So.of (evW tb true p (frz E (forFrz p)) n) (fun xs n => So.then (loopS (fun x E n => (bindT E tg (.im x)).bind fun E => evS tb sb E n) xs (frz E (forFrz p)) n) fun E n => evS tb sr E n) = some so := by
    rw [← h]
    simp only [evS]
    rfl
  obtain ⟨F1, st1, s1⟩ := st.frz (is := forFrz p)
  refine wpSs_of (pss_cons (ps_for hp B.calm pi_wp pg_wp pss_wp (fold_plain hns)) pss_wp) ?_
  obtain ⟨⟨fp, env, hf⟩, ok, ext, sg⟩ := id st1
  rcases so_of h with ⟨xs, n1, e1, h1⟩ | ⟨c, d, n1, e1, rfl⟩
  rotate_left
  · exact hw env ok e1 (WishX.wx ws ext) fun r' n' z => by cases z
  refine hw env ok e1 (fun c d n z => by cases z) fun xs' n' z J F2 H2 e2 k2 wk => ?_
  cases z
  have st2 := st1.after e2 k2
  refine ⟨fun i m σ H => m = xs.length - i ∧ i ≤ xs.length ∧ ∃ E F n, Stt X.w X.K sp F0 H0 G E σ F H n ∧ Sub F2 F ∧ So.then (loopS (fun x E n => (bindT E tg (.im x)).bind fun E => evS tb sb E n) (xs.drop i) E n) (fun E n => evS tb sr E n) = some so,
    ⟨xs.length, by simp, Nat.zero_le _, _, F2, n1, st2, Sub.refl F2, h1⟩, ?_⟩
  rintro i m σ' H' ⟨rfl, hi, E', F', n', st', s', h'⟩
  obtain ⟨wk1, wk2⟩ := wk F' H' n' (.inl rfl) s' st'.ok i
  by_cases hlt : i < xs.length
  rotate_left
  · have e : i = xs.length := by omega
    rw [e, List.drop_length] at h'
    exact .inl ⟨wk2 (by omega), hr st' h' ws⟩
  obtain ⟨go, yld⟩ := wk1 hlt
  have hdr : xs.drop i = xs[i] :: xs.drop (i + 1) := List.drop_eq_getElem_cons hlt
  rw [hdr, loopS_cons] at h'
  refine .inr ⟨go, fun σ'' H'' => ∃ E F n, Stt X.w X.K sp F0 H0 G E σ'' F H'' n ∧ Sub F2 F ∧ So.then (loopS (fun x E n => (bindT E tg (.im x)).bind fun E => evS tb sb E n) (xs.drop (i + 1)) E n) (fun E n => evS tb sr E n) = some so,
    fun σ'' H'' ⟨E3, F3, n3, a, b, c⟩ => ⟨xs.length - (i + 1), by omega, rfl, hlt, E3, F3, n3, a, b, c⟩, fun x H3 y => ?_⟩
  obtain ⟨F3, d, hd, e3, k3, r3⟩ := yld x H3 y
  rw [List.getElem?_eq_getElem hlt] at hd
  cases hd
  have st3 := st'.after e3 k3
  -- the turn
  cases hbd : bindT E' tg (.im xs[i]) with
  | none => rw [hbd] at h'; cases h'
  | some E1 =>
    rw [hbd] at h'
    refine st_bind B hs hm st3 (post_im k3 r3) hbd fun σ4 st4 => ?_
    have st4' : Stt X.w X.K sp F0 H0 F2 E1 σ4 F3 H3 n' := ⟨st4.ex, st4.ok, st4.ext, s'.trans e3.sub⟩
    have back : ∀ {E σ F H n}, Stt X.w X.K sp F0 H0 F2 E σ F H n → Stt X.w X.K sp F0 H0 G E σ F H n ∧ Sub F2 F := fun s => ⟨⟨s.ex, s.ok, s.ext, (st2.sub).trans s.sub⟩, s.sub⟩
    have h' : So.then (match evS tb sb E1 n' with
        | some (.nx E' n') => loopS (fun x E n => (bindT E tg (.im x)).bind fun E => evS tb sb E n) (xs.drop (i + 1)) E' n'
        | some (.ct E' n') => loopS (fun x E n => (bindT E tg (.im x)).bind fun E => evS tb sb E n) (xs.drop (i + 1)) E' n'
        | some (.bk E' n') => some (.nx E' n')
        | o => o) (fun E n => evS tb sr E n) = some so := h'
    cases hev : evS tb sb E1 n' with
    | none => rw [hev] at h'; cases h'
    | some so1 =>
      rw [hev] at h'
      refine hb st4' hev ?_
      cases so1 with
      | nx E n => exact fun σ5 F5 H5 s5 => ⟨E, F5, n, (back s5).1, (back s5).2, h'⟩
      | ct E n => exact fun σ5 F5 H5 s5 => ⟨E, F5, n, (back s5).1, (back s5).2, h'⟩
      | bk E n => exact fun σ5 F5 H5 s5 => hr (back s5).1 h' ws
      | rt d n => cases h'; exact ws
      | ex c d n => cases h'; exact ws
end
end Lk
end
section
set_option linter.all false
set_option maxRecDepth 100000
set_option maxHeartbeats 4000000
/-! Statements that change a thing that is being made; while. -/
namespace Lk
open PySem PySem.Spec PyProof.Rows L2
section
variable {w : World} {K : KF} {sp : Option Addr} {F0 H0 G F H F' H' : Hp} {n n' : Int} {E : En} {σ : L2.St} {fp : Nat → List Addr}
/-- a name's thing changes -/
theorem Stt.upd {o : Nat} {t t' : OT} {v : V} {A' : List Addr} (env : EnvRel w K sp F H E σ fp) (hf : ∀ i, ∀ a ∈ fp i, H0 a = none) (ext : Ext sp F0 H0 F H) (sg : Sub G F) (hE : E[o]? = some (some (.mu t))) (hv : σ[o]? = some (some v))
    (keep : ∀ a, a ∉ fp o → ∀ ob, H a = some ob → H' a = some ob) (there : ∀ a, H a ≠ none → H' a ≠ none) (ok' : Ok sp F H' n) (ow : Ow w K F H' v t' A') (nd : A'.Nodup)
    (hA : ∀ a ∈ A', (a ∈ fp o ∨ (H a = none ∧ H' a ≠ none ∧ sp ≠ some a ∧ F a = none))) : Stt w K sp F0 H0 G (E.set o (some (.mu t'))) σ F H' n := by
  have hlt : o < E.length := by
    rcases Nat.lt_or_ge o E.length with z | z
    · exact z
    · rw [List.getElem?_eq_none z] at hE; cases hE
  have all : ∀ a ∈ A', F a = none ∧ H' a ≠ none ∧ sp ≠ some a ∧ H0 a = none := fun a ha => by
    rcases hA a ha with z | ⟨z1, z2, z3, z4⟩
    · obtain ⟨h1, h2, h3⟩ := env.out o a z
      exact ⟨h1, there a h2, h3, hf o a z⟩
    · exact ⟨z4, z2, z3, ext.fresh z1⟩
  have apart : ∀ j, j ≠ o → ∀ a ∈ A', a ∉ fp j := fun j hj a ha hm => by
    rcases hA a ha with z | ⟨z1, _⟩
    · exact env.dis j o hj a hm z
    · exact (env.out j a hm).2.1 z1
  refine ⟨⟨fun j => if j = o then A' else fp j, ⟨by rw [List.length_set]; exact env.len, fun j b hb => ?_, fun j a ha => ?_, fun j l hjl a ha hl => ?_⟩, fun j a ha => ?_⟩, ok', ⟨ext.sub, fun a ob hs h => ?_, ext.own, fun a h => there a (ext.there a h)⟩, sg⟩
  · by_cases z : j = o
    · subst z
      rw [List.getElem?_set_self hlt] at hb
      cases hb
      exact ⟨v, hv, by rw [if_pos rfl]; exact .mu ow nd⟩
    · rw [List.getElem?_set_ne (Ne.symm z)] at hb
      obtain ⟨u, hu, r⟩ := env.rel j b hb
      refine ⟨u, hu, ?_⟩
      rw [if_neg z]
      have hd := fun a (ha : a ∈ fp j) => env.dis j o z a ha
      generalize fp j = A at r hd
      cases r with
      | im r => exact .im r
      | mu r nd => exact .mu (r.at (Sub.refl F) fun a ha ob hob => keep a (hd a ha) ob hob) nd
      | sp r => exact .sp r
  · have ha : a ∈ (if j = o then A' else fp j) := ha
    by_cases z : j = o
    · rw [if_pos z] at ha
      exact ⟨(all a ha).1, (all a ha).2.1, (all a ha).2.2.1⟩
    · rw [if_neg z] at ha
      obtain ⟨h1, h2, h3⟩ := env.out j a ha
      exact ⟨h1, there a h2, h3⟩
  · have ha : a ∈ (if j = o then A' else fp j) := ha
    have hl : a ∈ (if l = o then A' else fp l) := hl
    by_cases z : j = o
    · rw [if_pos z] at ha
      rw [if_neg fun q => hjl (z.trans q.symm)] at hl
      exact apart l (fun q => hjl (z.trans q.symm)) a ha hl
    · rw [if_neg z] at ha
      by_cases z2 : l = o
      · rw [if_pos z2] at hl
        exact apart j z a hl ha
      · rw [if_neg z2] at hl
        exact env.dis j l hjl a ha hl
  · have ha : a ∈ (if j = o then A' else fp j) := ha
    by_cases z : j = o
    · rw [if_pos z] at ha; exact (all a ha).2.2.2
    · rw [if_neg z] at ha; exact hf j a ha
  · refine keep a (fun q => ?_) ob (ext.keep a ob hs h)
    rw [hf o a q] at h; cases h
end
theorem muAt_some {E : En} {o : Nat} {t : OT} (h : muAt E o = some t) : E[o]? = some (some (.mu t)) := by
  unfold muAt at h
  split at h
  · rename_i t' e; cases h; exact e
  · cases h
section
variable {X : Cx} {CX : CXT} {k : Nat} {xc : XC} {EK : XK} {tb : Tb} {sp : Option Addr} {F0 H0 G : Hp} {sc : Scope}
/-- while -/
theorem t_whl {c : Expr} {b r : List Stmt} {pc : P} {sb sr : S} {fuel : Nat} {pos : Pos} (hp : PassesOwn (model X.prog X.w) X.A X.env X.xe) (hc : okT X xc EK tb sp c pc) (hb : okS X xc EK tb sp F0 H0 b sb) (hr : okS X xc EK tb sp F0 H0 r sr) :
    okS X xc EK tb sp F0 H0 (.While c b [] pos :: r) (.whl fuel pc sb sr) := by
  intro G E σ F H n so D st h ws
  have h : So.then (loopW (fun E n => evT tb pc E n) (fun E n => evS tb sb E n) fuel E n) (fun E n => evS tb sr E n) = some so := by
    rw [← h]
    simp only [evS]
  refine wpSs_of (pss_cons (ps_while hp pt_wp pss_wp) pss_wp) ⟨fun m σ H => ∃ E F n, Stt X.w X.K sp F0 H0 G E σ F H n ∧ So.then (loopW (fun E n => evT tb pc E n) (fun E n => evS tb sb E n) m E n) (fun E n => evS tb sr E n) = some so, ⟨fuel, E, F, n, st, h⟩, ?_⟩
  rintro m σ' H' ⟨E', F', n', st', h'⟩
  cases m with
  | zero => cases h'
  | succ m =>
    unfold loopW at h'
    have h2 : So.of (evT tb pc E' n') (fun b n => So.then (if b = true then (match evS tb sb E' n with
        | some (.nx E' n') => loopW (fun E n => evT tb pc E n) (fun E n => evS tb sb E n) m E' n'
        | some (.ct E' n') => loopW (fun E n => evT tb pc E n) (fun E n => evS tb sb E n) m E' n'
        | some (.bk E' n') => some (.nx E' n')
        | o => o) else some (.nx E' n)) fun E n => evS tb sr E n) = some so := by
      rw [← h']
      cases evT tb pc E' n' with
      | none => rfl
      | some q => cases q <;> rfl
    refine stT hc st' h2 ws fun kk n1 h3 F1 H1 e1 k1 => ?_
    have st1 := st'.after e1 k1
    cases kk with
    | false =>
      rw [if_neg Bool.false_ne_true] at h3 ⊢
      exact hr st1 h3 ws
    | true =>
      rw [if_pos rfl] at h3 ⊢
      refine ⟨fun σ H => ∃ E F n, Stt X.w X.K sp F0 H0 G E σ F H n ∧ So.then (loopW (fun E n => evT tb pc E n) (fun E n => evS tb sb E n) m E n) (fun E n => evS tb sr E n) = some so, fun σ' H' hh => ⟨m, Nat.lt_succ_self m, hh⟩, ?_⟩
      cases hev : evS tb sb E' n1 with
      | none => rw [hev] at h3; cases h3
      | some so1 =>
        rw [hev] at h3
        refine hb st1 hev ?_
        cases so1 with
        | nx E n => exact fun σ5 F5 H5 s5 => ⟨E, F5, n, s5, h3⟩
        | ct E n => exact fun σ5 F5 H5 s5 => ⟨E, F5, n, s5, h3⟩
        | bk E n => exact fun σ5 F5 H5 s5 => hr s5 h3 ws
        | rt d n => cases h3; exact ws
        | ex c d n => cases h3; exact ws
/-- o.append(e) -/
theorem t_app {o : Nat} {x : Str} {e : Expr} {p : P} {r : List Stmt} {sr : S} {px apos cpos pos : Pos} (hN : X.N[o]? = some x) (hx : Vis X.env.scope x ∧ (x == ("__debug__" : Str)) = false ∧ (x == ("__classdict__" : Str)) = false) (hpl : plainB e = true)
    (hline : (apos.endLine == cpos.line) = true) (ha : okE X xc EK tb sp e p) (hr : okS X xc EK tb sp F0 H0 r sr) : okS X xc EK tb sp F0 H0 (.Expr (.Call (.Attribute (.Name x px) "append" apos) [e] [] cpos) pos :: r) (.app o p sr) := by
  intro G E σ F H n so D st h ws
  simp only [evS] at h
  obtain ⟨F1, st1, _⟩ := st.frz (is := varOf p ++ consP p)
  generalize hE1 : frz E (varOf p ++ consP p) = E1 at h st1
  have pe := pe_bm (X := X) (T := "list") (id := "list.append") (name := "append") (cpos := cpos) (apos := apos) PySem.F.plainAttrs_list PySem.F.slot_list_append rfl mt_append (pe_var (pos := px) hN hx.1 hx.2.1 hx.2.2) (pa_cons pe_wp pa_nil (star_plain hpl)) rfl (by rw [star_plain hpl]; rfl) hline (star_plain hpl) rfl
  refine wpSs_of (pss_cons (ps_expr pe) pss_wp) ?_
  -- the name's thing
  split at h
  rotate_left
  · cases h
  rename_i hli
  have hmu : ∃ xs, E1[o]? = some (some (.mu (.li xs))) := by
    unfold liAt at hli
    split at hli
    · rename_i xs e; exact ⟨xs, e⟩
    · cases hli
  obtain ⟨xs, hE⟩ := hmu
  have hm : muAt E1 o = some (.li xs) := by unfold muAt; rw [hE]
  obtain ⟨⟨fp, env, hf⟩, ok, ext, sg⟩ := id st1
  obtain ⟨v, hv, rb⟩ := env.rel o _ (muAt_some hm)
  have hA := env.out o
  generalize hfo : fp o = A at rb
  cases rb with
  | mu ow nd =>
    cases ow with
    | @li l vs _ q1 q2 =>
      refine ⟨.ref l, hv, .inl ⟨rfl, vs, .inl (.inl q1)⟩, ?_⟩
      refine stE ha st1 h ws fun y n1 h1 yv F2 H2 p2 => ?_
      rw [Option.bind_eq_some_iff] at h1
      obtain ⟨t1, h2, h3⟩ := h1
      rw [hm] at h2
      cases h2
      rw [Option.bind_eq_some_iff] at h3
      obtain ⟨t', h4, h5⟩ := h3
      obtain ⟨d, hd, hz, rfl⟩ : ∃ d, y.fix = some d ∧ xs.length < cap ∧ t' = .li (xs ++ [d]) := by
        unfold appT at h4
        cases hq : y.fix with
        | none => rw [hq] at h4; cases h4
        | some d =>
          rw [hq] at h4
          simp only at h4
          split at h4
          · rename_i hz; cases h4; exact ⟨d, rfl, hz, rfl⟩
          · cases h4
      obtain ⟨e2, k2, B, r2, f2⟩ := p2
      have hB := r2.there
      have kz := fz_ok k2 hB
      have ez := fz_ext e2 hB f2
      have rp := r2.fix k2 hd
      have hl := hA l (by rw [hfo]; exact List.mem_cons_self ..)
      have e3 := ext.trans ez
      have envz := env.ext ez
      have q1' : H2 l = some (.lst vs) := e2.keep l _ hl.2.2 q1
      have hlF : fzH F2 H2 B l = none := (envz.out o l (by rw [hfo]; exact List.mem_cons_self ..)).1
      refine ⟨l, vs, yv, rfl, rfl, q1', ?_, ?_⟩
      · rw [q2.length]; exact cap_lt hz
      refine hr (Stt.upd envz hf e3 (sg.trans ez.sub) (muAt_some hm) hv (A' := [l]) (t' := .li (xs ++ [d])) (fun a ha ob hob => ?_) (fun a ha => upd_none ha) (kz.updl hlF hl.2.2 (fun _ z => by cases z) rfl) (.li upd_same ((q2.mono ez.sub).append (.one rp))) (by simp) fun a ha => ?_) h5 ws
      · rw [upd_ne (fun z => ha (by rw [z, hfo]; exact List.mem_cons_self ..))]; exact hob
      · rw [List.mem_singleton] at ha; subst ha
        exact .inl (by rw [hfo]; exact List.mem_cons_self ..)
end
end Lk
end
section
set_option linter.all false
set_option maxRecDepth 100000
set_option maxHeartbeats 4000000
/-! Stores into a named list or dict; an item moved from one list to another. -/
namespace Lk
open PySem PySem.Spec PyProof.Rows L2
/-- a store, by its meaning -/
def semSet (X : Cx) : TSet := fun o i v H Q => ∀ (pins : List (Addr × Obj)) (s : Shared) (σ : L2.St) (ov iv u : Value), Inv X pins σ H s → RelV o ov → RelV i iv → RelV v u →
  wpAny (model X.prog X.w) X.A (setItem ov iv u) (fun _ s' => ∃ H', Inv X pins σ H' s' ∧ Q H') X.xe s
theorem set_sem {X : Cx} : PSet X (semSet X) := fun pins s σ H o i v ov iv u Q I ro ri rv h => h pins s σ ov iv u I ro ri rv
section
variable {X : Cx} {CX : CXT} {k : Nat} {xc : XC} {EK : XK} {tb : Tb} {sp : Option Addr} {F0 H0 : Hp} {sc : Scope}
theorem RpA.erase {w : World} {K : KF} {F : Hp} : ∀ {vs : List V} {ds : List Lk.D} (n : Nat), RpA w K F vs ds → RpA w K F (vs.eraseIdx n) (ds.eraseIdx n)
  | _, _, _, .nil => .nil
  | _, _, 0, .cons _ b => b
  | _, _, n + 1, .cons a b => .cons a (RpA.erase n b)
theorem putAt_li {xs : List Lk.D} {k v : R} {t' : OT} (h : putAt (.li xs) k v = some t') : ∃ i j d, k.fix = some (.int i) ∧ v.fix = some d ∧ ixN xs.length i = some j ∧ t' = .li (xs.set j d) := by
  unfold putAt at h
  cases hk : k.fix with
  | none => rw [hk] at h; cases h
  | some kd =>
    rw [hk] at h
    cases kd with
    | int i =>
      simp only at h
      cases hj : ixN xs.length i with
      | none => rw [hj] at h; cases h
      | some j =>
        cases hd : v.fix with
        | none => rw [hj, hd] at h; cases h
        | some d =>
          rw [hj, hd] at h
          cases h
          exact ⟨i, j, d, rfl, rfl, hj, rfl⟩
    | _ => cases h
theorem putAt_di {kvs : List (Lk.D × Lk.D)} {k v : R} {t' : OT} (h : putAt (.di kvs) k v = some t') : ∃ kd d, k.fix = some kd ∧ v.fix = some d ∧ keyOk kvs kd = true ∧ kvs.length < cap ∧ t' = .di (dput kvs kd d) := by
  unfold putAt at h
  cases hk : k.fix with
  | none => rw [hk] at h; cases h
  | some kd =>
    rw [hk] at h
    have h : (match v.fix with
      | some d => if (keyOk kvs kd && decide (kvs.length < cap)) = true then some (OT.di (dput kvs kd d)) else none
      | none => none) = some t' := by
      cases kd <;> exact h
    cases hd : v.fix with
    | none => rw [hd] at h; cases h
    | some d =>
      rw [hd] at h
      simp only at h
      split at h
      · rename_i hc
        cases h
        rw [Bool.and_eq_true, decide_eq_true_eq] at hc
        exact ⟨kd, d, rfl, rfl, hc.1, hc.2, rfl⟩
      · cases h
theorem fz_none {F H : Hp} {A : List Addr} {a : Addr} (h : a ∉ A) (hF : F a = none) : fzH F H A a = none := by rw [fz_out h]; exact hF
/-- o[i] = e -/
theorem t_sti {o : Nat} {x : Str} {j v : Expr} {i e : P} {r : List Stmt} {sr : S} {p1 p2 p3 : Pos} (hu : X.A.units + 65 < cLine) (hN : X.N[o]? = some x) (hx : Vis X.env.scope x ∧ (x == ("__debug__" : Str)) = false ∧ (x == ("__classdict__" : Str)) = false)
    (hcv : (match v with | .ListComp _ _ _ _ => true | .SetComp _ _ _ _ => true | .DictComp _ _ _ _ _ => true | _ => false) = false)
    (hi : okE X xc EK tb sp j i) (he : okE X xc EK tb sp v e) (hpj : plainB j = true) (hr : okS X xc EK tb sp F0 H0 r sr) : okS X xc EK tb sp F0 H0 (.Assign [.Subscript (.Name x p1) j p2] v p3 :: r) (.sti o i e sr) := by
  intro G E σ F H n so D st h ws
  simp only [evS] at h
  obtain ⟨F1, st1, _⟩ := st.frz (is := consP e)
  generalize hE1 : frz E (consP e) = E1 at h st1
  have h1 : swapsWithSole [.Subscript (.Name x p1) j p2] v p3.line X.env = pure false := by cases v <;> first | rfl | cases hcv
  have h2 : swappedStores [.Subscript (.Name x p1) j p2] v X.env = pure none := by cases v <;> rfl
  refine wpSs_of (pss_cons (ps_asg pe_wp (pg_sub (pe_var hN hx.1 hx.2.1 hx.2.2) pe_wp set_sem (by intro u; cases j <;> first | rfl | cases hpj)) h1 h2) pss_wp) ?_
  split at h
  rotate_left
  · cases h
  rename_i hsome
  obtain ⟨t, ht⟩ := Option.isSome_iff_exists.mp hsome
  refine stE he st1 h ws fun y n1 h3 yv F2 H2 q1 => ?_
  have st2 := st1.after q1.1 q1.2.1
  have hE := muAt_some ht
  obtain ⟨⟨fp, env, hf⟩, ok, ext, sg⟩ := id st2
  obtain ⟨w, hw, rb⟩ := env.rel o _ hE
  refine ⟨w, hw, ?_⟩
  refine stE hi st2 h3 ws fun z n2 h4 zv F3 H3 q2 => ?_
  rw [ht] at h4
  have h4 : ((putAt t z y).bind fun t => evS tb sr (E1.set o (some (.mu t))) n2) = some so := h4
  rw [Option.bind_eq_some_iff] at h4
  obtain ⟨t', h5, h6⟩ := h4
  -- both as things that stay
  have pa : PostA X.w X.K sp F2 H2 [z] n2 [zv] F3 H3 := q2.cons ⟨Ext.refl _ _ _, q2.2.1, [], .nil, fun a z => nomatch z⟩
  obtain ⟨e1, k1, A, r1, f1⟩ := q1
  obtain ⟨e2, k2, B, r2, f2⟩ := q2
  obtain ⟨e3, k3, C, r3, f3⟩ := PostE.cons ⟨e1, k1, A, r1, f1⟩ pa
  have hC := r3.there
  have kz := fz_ok k3 hC
  have ez : Ext sp _ _ (fzH F3 H3 C) H3 := fz_ext e3 hC f3
  -- the owner's thing at the end
  obtain ⟨⟨fp0, env0, hf0⟩, ok0, ext0, sg0⟩ := id st1
  obtain ⟨w', hw', rb0⟩ := env0.rel o _ hE
  obtain rfl : w = w' := by rw [hw] at hw'; exact Option.some.inj (Option.some.inj hw')
  have envz := env0.ext ez
  have eq3 := ext0.trans ez
  have hA := env0.out o
  have hAz := envz.out o
  obtain ⟨w'', hw'', rbz⟩ := envz.rel o _ hE
  obtain rfl : w = w'' := by rw [hw] at hw''; exact Option.some.inj (Option.some.inj hw'')
  have fin : ∀ {d dk : Lk.D}, y.fix = some d → z.fix = some dk → Rp X.w X.K (fzH F3 H3 C) yv d ∧ Rp X.w X.K (fzH F3 H3 C) zv dk := fun {d dk} g1 g2 => by
    have := r3.fix (ds := [d, dk]) k3 (by unfold fixAll fixAll fixAll; rw [g1, g2])
    cases this with
    | cons a b => cases b with
      | cons b c => exact ⟨a, b⟩
  -- the store done
  have done : ∀ {l : Addr} {ob : HO} {t'' : OT}, w = .ref l → fp0 o = [l] → t'' = t' → isFrz ob = false → (∀ xs, ob ≠ .tup xs) → Ow X.w X.K (fzH F3 H3 C) (upd H3 l ob) (.ref l) t'' [l] → wpSs X r D σ (upd H3 l ob) := fun {l ob t''} g1 g2 g3 g4 g5 g6 => by
    subst g1 g3
    have hl := hAz l (by rw [g2]; exact List.mem_cons_self ..)
    refine hr (Stt.upd envz hf0 eq3 (sg0.trans ez.sub) hE hw (A' := [l]) (t' := t'') (fun a ha obj hob => ?_) (fun a ha => upd_none ha) (kz.updl hl.1 hl.2.2 g5 g4) g6 (by simp) fun a ha => .inl ?_) h6 ws
    · rw [upd_ne (fun z => ha (by rw [z, g2]; exact List.mem_cons_self ..))]; exact hob
    · rw [List.mem_singleton] at ha; subst ha; rw [g2]; exact List.mem_cons_self ..
  generalize hfo : fp0 o = A0 at rbz done
  cases rbz with
  | mu ow nd =>
    intro pins s σ' ov iv u I ro ri rv
    cases ow with
    | @li l vs ds g1 g2 =>
      obtain ⟨i, jj, d, hz', hd, hj, rfl⟩ := putAt_li h5
      obtain ⟨ry, rz⟩ := fin hd hz'
      cases rz
      have hl : vs.length = ds.length := g2.length
      exact thn (set_list (X := X) pins s σ' H3 (.ref l) (.int i) yv ov iv u _ I ro ri rv ⟨l, vs, i, jj, rfl, rfl, g1, by rw [hl]; exact hj, done rfl rfl rfl rfl (fun _ z => nomatch z) (.li upd_same (g2.set jj ry))⟩) fun _ s' q => q
    | @di l es ds g1 g2 =>
      obtain ⟨kd, d, hz', hd, c1, c2, rfl⟩ := putAt_di h5
      obtain ⟨ry, rz⟩ := fin hd hz'
      obtain ⟨ke, rk, rfl⟩ := key_of_data rz ((keyOk_or c1).imp And.left And.left)
      cases ro
      exact dct_set (X := X) (by omega) I g1 (g2.lift kz.sub) (rk.lift kz.sub) c1 c2 ri rv fun s' ob I' n1 n2 dx => ⟨_, I', done rfl rfl rfl n1 n2 (.di dx (RpE.put rk ry g2))⟩
    | _ => cases h5
/-- o.append(p.pop(e)) -/
theorem t_apop {o p : Nat} {x y : Str} {e : Expr} {pe : P} {r : List Stmt} {sr : S} {px py apos apos2 cpos cpos2 pos : Pos} (hN : X.N[o]? = some x) (hx : Vis X.env.scope x ∧ (x == ("__debug__" : Str)) = false ∧ (x == ("__classdict__" : Str)) = false)
    (hN2 : X.N[p]? = some y) (hy : Vis X.env.scope y ∧ (y == ("__debug__" : Str)) = false ∧ (y == ("__classdict__" : Str)) = false) (hpl : plainB e = true)
    (hline : (apos.endLine == cpos.line) = true) (hline2 : (apos2.endLine == cpos2.line) = true) (ha : okE X xc EK tb sp e pe) (hr : okS X xc EK tb sp F0 H0 r sr) :
    okS X xc EK tb sp F0 H0 (.Expr (.Call (.Attribute (.Name x px) "append" apos) [.Call (.Attribute (.Name y py) "pop" apos2) [e] [] cpos2] [] cpos) pos :: r) (.apop o p pe sr) := by
  intro G E σ F H n so D st h ws
  simp only [evS] at h
  split at h
  rotate_left
  · cases h
  rename_i hcnd
  obtain ⟨hop, hlo, hlp⟩ := hcnd
  have li : ∀ {q}, liAt E q = true → ∃ xs, E[q]? = some (some (.mu (.li xs))) := fun {q} hq => by
    unfold liAt at hq
    split at hq
    · rename_i xs e; exact ⟨xs, e⟩
    · cases hq
  obtain ⟨ys, hEo⟩ := li hlo
  obtain ⟨xs, hEp⟩ := li hlp
  have inner := pe_bm (X := X) (T := "list") (id := "list.pop") (name := "pop") (cpos := cpos2) (apos := apos2) PySem.F.plainAttrs_list PySem.F.slot_list_pop rfl mt_popAt (pe_var (pos := py) hN2 hy.1 hy.2.1 hy.2.2) (pa_cons pe_wp pa_nil (star_plain hpl)) rfl (by rw [star_plain hpl]; rfl) hline2 (star_plain hpl) rfl
  have outer := pe_bm (X := X) (T := "list") (id := "list.append") (name := "append") (cpos := cpos) (apos := apos) PySem.F.plainAttrs_list PySem.F.slot_list_append rfl mt_append (pe_var (pos := px) hN hx.1 hx.2.1 hx.2.2) (pa_cons inner pa_nil rfl) rfl rfl hline rfl rfl
  refine wpSs_of (pss_cons (ps_expr outer) pss_wp) ?_
  obtain ⟨⟨fp, env, hf⟩, ok, ext, sg⟩ := id st
  obtain ⟨v, hv, rb⟩ := env.rel o _ hEo
  obtain ⟨u, hu, rb2⟩ := env.rel p _ hEp
  have hA := env.out o
  have hA2 := env.out p
  generalize hfo : fp o = A at rb
  generalize hfp : fp p = A2 at rb2
  cases rb with
  | mu ow nd =>
    cases ow with
    | @li l vs _ q1 q2 =>
      cases rb2 with
      | mu ow2 nd2 =>
        cases ow2 with
        | @li l2 us _ p1 p2 =>
          refine ⟨.ref l, hv, .inl ⟨rfl, vs, .inl (.inl q1)⟩, ⟨.ref l2, hu, .inl ⟨rfl, us, .inl (.inl p1)⟩, ?_⟩⟩
          refine stE ha st h ws fun z n1 h1 zv F2 H2 pz => ?_
          have h1 : (match muAt E p, muAt E o, opInt z with
            | some (.li xs), some (.li ys), some i => (ixN xs.length i).bind fun j => (xs[j]?).bind fun d => if xs.length ≤ cap ∧ ys.length < cap then evS tb sr ((E.set p (some (.mu (.li (xs.eraseIdx j))))).set o (some (.mu (.li (ys ++ [d]))))) n1 else none
            | _, _, _ => none) = some so := h1
          rw [show muAt E p = some (.li xs) by unfold muAt; rw [hEp], show muAt E o = some (.li ys) by unfold muAt; rw [hEo]] at h1
          cases hi : opInt z with
          | none => rw [hi] at h1; cases h1
          | some i =>
            rw [hi] at h1
            have h1 : ((ixN xs.length i).bind fun j => (xs[j]?).bind fun d => if xs.length ≤ cap ∧ ys.length < cap then evS tb sr ((E.set p (some (.mu (.li (xs.eraseIdx j))))).set o (some (.mu (.li (ys ++ [d]))))) n1 else none) = some so := h1
            rw [Option.bind_eq_some_iff] at h1
            obtain ⟨j, h2, h3⟩ := h1
            rw [Option.bind_eq_some_iff] at h3
            obtain ⟨d, h4, h5⟩ := h3
            split at h5
            rotate_left
            · cases h5
            rename_i hz
            obtain ⟨e2, k2, B, r2, f2⟩ := pz
            have ez : zv = .int i := r2.int k2 (opInt_some hi)
            subst ez
            have hl := hA l (by rw [hfo]; exact List.mem_cons_self ..)
            have hl2 := hA2 l2 (by rw [hfp]; exact List.mem_cons_self ..)
            have hne : l ≠ l2 := fun z => env.dis o p hop l (by rw [hfo]; exact List.mem_cons_self ..) (by rw [hfp, z]; exact List.mem_cons_self ..)
            have q1' : H2 l = some (.lst vs) := e2.keep l _ hl.2.2 q1
            have p1' : H2 l2 = some (.lst us) := e2.keep l2 _ hl2.2.2 p1
            obtain ⟨s1, s2, s3, s4⟩ := ixN_seq h2
            obtain ⟨dv, g1, g2⟩ := (p2.mono e2.sub).get h4
            have hlen := p2.length
            have hcap : xs.length ≤ 16000000 := hz.1
            refine ⟨l2, us, i, j, dv, rfl, rfl, p1', by omega, by omega, by rw [hlen]; exact s1, g1, ?_⟩
            have st2 := st.after e2 k2
            have env2 := env.ext e2
            have st3 : Stt X.w X.K sp F0 H0 G (E.set p (some (.mu (.li (xs.eraseIdx j))))) σ F2 (upd H2 l2 (.lst (us.eraseIdx j))) n1 := by
              refine Stt.upd env2 hf (ext.trans e2) (sg.trans e2.sub) hEp hu (A' := [l2]) (fun a ha ob hob => ?_) (fun a ha => upd_none ha) (k2.updl (env2.out p l2 (by rw [hfp]; exact List.mem_cons_self ..)).1 hl2.2.2 (fun _ z => nomatch z) rfl) (.li upd_same (RpA.erase j (p2.mono e2.sub))) (by simp) fun a ha => ?_
              · rw [upd_ne (fun z => ha (by rw [z, hfp]; exact List.mem_cons_self ..))]; exact hob
              · rw [List.mem_singleton] at ha; subst ha; exact .inl (by rw [hfp]; exact List.mem_cons_self ..)
            have hEo3 : (E.set p (some (.mu (.li (xs.eraseIdx j)))))[o]? = some (some (.mu (.li ys))) := by rw [List.getElem?_set_ne (Ne.symm hop)]; exact hEo
            obtain ⟨⟨fp3, env3, hf3⟩, ok3, ext3, sg3⟩ := id st3
            obtain ⟨v3, hv3, rb3⟩ := env3.rel o _ hEo3
            obtain rfl : V.ref l = v3 := by rw [hv] at hv3; exact Option.some.inj (Option.some.inj hv3)
            have hA3 := env3.out o
            generalize hfo3 : fp3 o = A3 at rb3
            cases rb3 with
            | mu ow3 nd3 =>
              cases ow3 with
              | @li _ vs3 _ w1 w2 =>
                have hl3 := hA3 l (by rw [hfo3]; exact List.mem_cons_self ..)
                refine ⟨l, vs3, dv, rfl, rfl, w1, by rw [w2.length]; exact cap_lt hz.2, ?_⟩
                refine hr (Stt.upd env3 hf3 ext3 sg3 hEo3 hv (A' := [l]) (fun a ha ob hob => ?_) (fun a ha => upd_none ha) (ok3.updl hl3.1 hl3.2.2 (fun _ z => nomatch z) rfl) (.li upd_same (w2.append (.one g2))) (by simp) fun a ha => ?_) h5 ws
                · rw [upd_ne (fun z => ha (by rw [z, hfo3]; exact List.mem_cons_self ..))]; exact hob
                · rw [List.mem_singleton] at ha; subst ha; exact .inl (by rw [hfo3]; exact List.mem_cons_self ..)
end
end Lk
end
section
set_option linter.all false
set_option maxRecDepth 100000
set_option maxHeartbeats 4000000
/-! More statements: lists that grow and shrink, x += .., errors raised and caught. -/
namespace Lk
open PySem PySem.Spec PyProof.Rows L2
section
variable {w : World} {K : KF} {sp : Option Addr} {F0 H0 G F H : Hp} {n : Int} {E : En} {σ : L2.St}
/-- a name's list, and what comes of it -/
theorem stt_li {o : Nat} {xs : List Lk.D} (st : Stt w K sp F0 H0 G E σ F H n) (hE : E[o]? = some (some (.mu (.li xs)))) :
    ∃ l vs, σ[o]? = some (some (.ref l)) ∧ H l = some (.lst vs) ∧ RpA w K F vs xs ∧ ∀ {F' H' n' xs' vs'}, Ext sp F H F' H' → Ok sp F' H' n' → RpA w K F' vs' xs' →
      H' l = some (.lst vs) ∧ Stt w K sp F0 H0 G (E.set o (some (.mu (.li xs')))) σ F' (upd H' l (.lst vs')) n' := by
  obtain ⟨⟨fp, env, hf⟩, ok, ext, sg⟩ := st
  obtain ⟨v, hv, rb⟩ := env.rel o _ hE
  have hA := env.out o
  generalize hfo : fp o = A at rb
  cases rb with
  | mu ow nd =>
    cases ow with
    | @li l vs _ q1 q2 =>
      have hl := hA l (by rw [hfo]; exact List.mem_cons_self ..)
      refine ⟨l, vs, hv, q1, q2, fun {F' H' n' xs' vs'} e k r => ⟨e.keep l _ hl.2.2 q1, ?_⟩⟩
      have env' := env.ext e
      have hl' := env'.out o l (by rw [hfo]; exact List.mem_cons_self ..)
      refine Stt.upd env' hf (ext.trans e) (sg.trans e.sub) hE hv (A' := [l]) (fun a ha ob hob => ?_) (fun a ha => upd_none ha) (k.updl hl'.1 hl.2.2 (fun _ z => by cases z) rfl) (.li upd_same r) (by simp) fun a ha => ?_
      · rw [upd_ne (fun z => ha (by rw [z, hfo]; exact List.mem_cons_self ..))]; exact hob
      · rw [List.mem_singleton] at ha; subst ha
        exact .inl (by rw [hfo]; exact List.mem_cons_self ..)
theorem liAt_mu {E : En} {o : Nat} (h : Lk.liAt E o = true) : ∃ xs, E[o]? = some (some (.mu (.li xs))) ∧ muAt E o = some (.li xs) := by
  unfold Lk.liAt at h
  split at h
  · rename_i xs e; exact ⟨xs, e, by unfold muAt; rw [e]⟩
  · cases h
end
section
variable {X : Cx} {CX : CXT} {k : Nat} {xc : XC} {EK : XK} {tb : Tb} {sp : Option Addr} {F0 H0 : Hp} {sc : Scope}
/-- o.extend(e), e a new list -/
theorem t_ext {o : Nat} {x : Str} {e : Expr} {p : P} {r : List Stmt} {sr : S} {px apos cpos pos : Pos} (hN : X.N[o]? = some x) (hx : Vis X.env.scope x ∧ (x == ("__debug__" : Str)) = false ∧ (x == ("__classdict__" : Str)) = false) (hpl : plainB e = true)
    (hline : (apos.endLine == cpos.line) = true) (ha : okE X xc EK tb sp e p) (hr : okS X xc EK tb sp F0 H0 r sr) : okS X xc EK tb sp F0 H0 (.Expr (.Call (.Attribute (.Name x px) "extend" apos) [e] [] cpos) pos :: r) (.ext o p sr) := by
  intro G E σ F H n so D st h ws
  simp only [evS] at h
  obtain ⟨F1, st1, _⟩ := st.frz (is := consP p)
  generalize hE1 : frz E (consP p) = E1 at h st1
  have pe := pe_bm (X := X) (T := "list") (id := "list.extend") (name := "extend") (cpos := cpos) (apos := apos) PySem.F.plainAttrs_list PySem.F.slot_list_extend rfl mt_extend (pe_var (pos := px) hN hx.1 hx.2.1 hx.2.2) (pa_cons pe_wp pa_nil (star_plain hpl)) rfl (by rw [star_plain hpl]; rfl) hline (star_plain hpl) rfl
  refine wpSs_of (pss_cons (ps_expr pe) pss_wp) ?_
  split at h
  rotate_left
  · cases h
  rename_i hli
  obtain ⟨xs, hE, hm⟩ := liAt_mu hli
  obtain ⟨l, vs, hv, q1, q2, go⟩ := stt_li st1 hE
  refine ⟨.ref l, hv, .inl ⟨rfl, vs, .inl (.inl q1)⟩, ?_⟩
  refine stE ha st1 h ws fun y n1 h1 yv F2 H2 p2 => ?_
  rw [hm] at h1
  have h1 : ((extT (.li xs) y).bind fun t => evS tb sr (E1.set o (some (.mu t))) n1) = some so := h1
  rw [Option.bind_eq_some_iff] at h1
  obtain ⟨t', h4, h5⟩ := h1
  unfold extT at h4
  split at h4
  · rename_i _ _ xs' ys hx'
    cases hx'
    split at h4
    · rename_i hz
      cases h4
      obtain ⟨e2, k2, B, r2, f2⟩ := p2
      cases r2 with
      | fr ow hF nd =>
        cases ow with
        | @li b us _ g1 g2 =>
          obtain ⟨k1', st3⟩ := go e2 k2 ((q2.mono e2.sub).append g2)
          refine ⟨l, b, vs, us, rfl, rfl, k1', g1, ?_, hr st3 h5 ws⟩
          rw [q2.length, g2.length]
          exact Nat.le_trans hz (by rw [sizeLine_eq]; decide)
    · cases h4
  · cases h4
/-- o.pop(e), its item left alone -/
theorem t_lpop {o : Nat} {x : Str} {e : Expr} {p : P} {r : List Stmt} {sr : S} {px apos cpos pos : Pos} (hN : X.N[o]? = some x) (hx : Vis X.env.scope x ∧ (x == ("__debug__" : Str)) = false ∧ (x == ("__classdict__" : Str)) = false) (hpl : plainB e = true)
    (hline : (apos.endLine == cpos.line) = true) (ha : okE X xc EK tb sp e p) (hr : okS X xc EK tb sp F0 H0 r sr) : okS X xc EK tb sp F0 H0 (.Expr (.Call (.Attribute (.Name x px) "pop" apos) [e] [] cpos) pos :: r) (.lpop o p sr) := by
  intro G E σ F H n so D st h ws
  simp only [evS] at h
  have pe := pe_bm (X := X) (T := "list") (id := "list.pop") (name := "pop") (cpos := cpos) (apos := apos) PySem.F.plainAttrs_list PySem.F.slot_list_pop rfl mt_popAt (pe_var (pos := px) hN hx.1 hx.2.1 hx.2.2) (pa_cons pe_wp pa_nil (star_plain hpl)) rfl (by rw [star_plain hpl]; rfl) hline (star_plain hpl) rfl
  refine wpSs_of (pss_cons (ps_expr pe) pss_wp) ?_
  split at h
  rotate_left
  · cases h
  rename_i hli
  obtain ⟨xs, hE, hm⟩ := liAt_mu hli
  obtain ⟨l, vs, hv, q1, q2, go⟩ := stt_li st hE
  refine ⟨.ref l, hv, .inl ⟨rfl, vs, .inl (.inl q1)⟩, ?_⟩
  refine stE ha st h ws fun y n1 h1 yv F2 H2 p2 => ?_
  rw [hm] at h1
  split at h1
  rotate_left
  · cases h1
  rename_i xs' i hx' hi
  cases hx'
  rw [Option.bind_eq_some_iff] at h1
  obtain ⟨j, h2, h5⟩ := h1
  split at h5
  rotate_left
  · cases h5
  rename_i hz
  obtain ⟨e2, k2, B, r2, f2⟩ := p2
  obtain rfl : yv = .int i := r2.int k2 (opInt_some hi)
  obtain ⟨s1, s2, s3, s4⟩ := ixN_seq h2
  have hlen := q2.length
  obtain ⟨k1', st3⟩ := go e2 k2 (RpA.erase j (q2.mono e2.sub))
  have hj : j < vs.length := by omega
  have hcap : xs.length ≤ 16000000 := hz
  exact ⟨l, vs, i, j, vs[j], rfl, rfl, k1', by omega, by omega, by rw [hlen]; exact s1, by simp, hr st3 h5 ws⟩
/-- o.insert(i, e) -/
theorem t_ins {o : Nat} {x : Str} {j e : Expr} {pi p : P} {r : List Stmt} {sr : S} {px apos cpos pos : Pos} (hN : X.N[o]? = some x) (hx : Vis X.env.scope x ∧ (x == ("__debug__" : Str)) = false ∧ (x == ("__classdict__" : Str)) = false) (hplj : plainB j = true) (hpl : plainB e = true)
    (hline : (apos.endLine == cpos.line) = true) (hi : okE X xc EK tb sp j pi) (ha : okE X xc EK tb sp e p) (hr : okS X xc EK tb sp F0 H0 r sr) : okS X xc EK tb sp F0 H0 (.Expr (.Call (.Attribute (.Name x px) "insert" apos) [j, e] [] cpos) pos :: r) (.ins o pi p sr) := by
  intro G E σ F H n so D st h ws
  simp only [evS] at h
  obtain ⟨F1, st1, _⟩ := st.frz (is := varOf p ++ consP p)
  generalize hE1 : frz E (varOf p ++ consP p) = E1 at h st1
  have pe := pe_bm (X := X) (T := "list") (id := "list.insert") (name := "insert") (cpos := cpos) (apos := apos) PySem.F.plainAttrs_list PySem.F.slot_list_insert rfl mt_insert (pe_var (pos := px) hN hx.1 hx.2.1 hx.2.2) (pa_cons pe_wp (pa_cons pe_wp pa_nil (star_plain hpl)) (star_plain hplj)) rfl (by rw [star_plain hplj, star_plain hpl]; rfl) hline (star_plain hplj) (back_plain (by simpa using hpl))
  refine wpSs_of (pss_cons (ps_expr pe) pss_wp) ?_
  split at h
  rotate_left
  · cases h
  rename_i hli
  obtain ⟨xs, hE, hm⟩ := liAt_mu hli
  obtain ⟨l, vs, hv, q1, q2, go⟩ := stt_li st1 hE
  refine ⟨.ref l, hv, .inl ⟨rfl, vs, .inl (.inl q1)⟩, ?_⟩
  refine stE hi st1 h ws fun y n1 h1 yv F2 H2 p2 => ?_
  have st2 := st1.after p2.1 p2.2.1
  refine stE ha st2 h1 ws fun z n2 h2 zv F3 H3 p3 => ?_
  rw [hm] at h2
  split at h2
  rotate_left
  · cases h2
  rename_i xs' i d hx' hi' hd
  cases hx'
  split at h2
  rotate_left
  · cases h2
  rename_i hz
  obtain ⟨e2, k2, A, r2, f2⟩ := p2
  obtain ⟨e3, k3, B, r3, f3⟩ := p3
  obtain rfl : yv = .int i := r2.int k2 (opInt_some hi')
  have hB := r3.there
  have kz := fz_ok k3 hB
  have ez := fz_ext e3 hB f3
  have rp := r3.fix k3 hd
  have e23 := e2.trans ez
  obtain ⟨k1', st3⟩ := go (xs' := xs.take i.toNat ++ [d] ++ xs.drop i.toNat) e23 kz ((((q2.mono e23.sub).take i.toNat).append (.one rp)).append ((q2.mono e23.sub).drop i.toNat))
  exact ⟨l, vs, i, zv, rfl, rfl, k1', by rw [q2.length]; exact cap_lt hz.2.2, hz.1, hz.2.1, hr st3 h2 ws⟩
/-- o.append(o.pop(e)) -/
theorem t_rot {o : Nat} {x : Str} {e : Expr} {p : P} {r : List Stmt} {sr : S} {px apos cpos px' apos' cpos' pos : Pos} (hN : X.N[o]? = some x) (hx : Vis X.env.scope x ∧ (x == ("__debug__" : Str)) = false ∧ (x == ("__classdict__" : Str)) = false) (hpl : plainB e = true)
    (hline : (apos.endLine == cpos.line) = true) (hline' : (apos'.endLine == cpos'.line) = true) (ha : okE X xc EK tb sp e p) (hr : okS X xc EK tb sp F0 H0 r sr) : okS X xc EK tb sp F0 H0 (.Expr (.Call (.Attribute (.Name x px) "append" apos) [.Call (.Attribute (.Name x px') "pop" apos') [e] [] cpos'] [] cpos) pos :: r) (.rot o p sr) := by
  intro G E σ F H n so D st h ws
  simp only [evS] at h
  have pp := pe_bm (X := X) (T := "list") (id := "list.pop") (name := "pop") (cpos := cpos') (apos := apos') PySem.F.plainAttrs_list PySem.F.slot_list_pop rfl mt_popAt (pe_var (pos := px') hN hx.1 hx.2.1 hx.2.2) (pa_cons pe_wp pa_nil (star_plain hpl)) rfl (by rw [star_plain hpl]; rfl) hline' (star_plain hpl) rfl
  have pe := pe_bm (X := X) (T := "list") (id := "list.append") (name := "append") (cpos := cpos) (apos := apos) PySem.F.plainAttrs_list PySem.F.slot_list_append rfl mt_append (pe_var (pos := px) hN hx.1 hx.2.1 hx.2.2) (pa_cons pp pa_nil (star_plain rfl)) rfl rfl hline (star_plain rfl) rfl
  refine wpSs_of (pss_cons (ps_expr pe) pss_wp) ?_
  split at h
  rotate_left
  · cases h
  rename_i hli
  obtain ⟨xs, hE, hm⟩ := liAt_mu hli
  obtain ⟨l, vs, hv, q1, q2, go⟩ := stt_li st hE
  refine ⟨.ref l, hv, .inl ⟨rfl, vs, .inl (.inl q1)⟩, ?_⟩
  refine ⟨.ref l, hv, .inl ⟨rfl, vs, .inl (.inl q1)⟩, ?_⟩
  refine stE ha st h ws fun y n1 h1 yv F2 H2 p2 => ?_
  rw [hm] at h1
  split at h1
  rotate_left
  · cases h1
  rename_i xs' i hx' hi
  cases hx'
  rw [Option.bind_eq_some_iff] at h1
  obtain ⟨j, h2, h3⟩ := h1
  rw [Option.bind_eq_some_iff] at h3
  obtain ⟨d, hd, h5⟩ := h3
  split at h5
  rotate_left
  · cases h5
  rename_i hz
  obtain ⟨e2, k2, B, r2, f2⟩ := p2
  obtain rfl : yv = .int i := r2.int k2 (opInt_some hi)
  obtain ⟨s1, s2, s3, s4⟩ := ixN_seq h2
  have hlen := q2.length
  obtain ⟨dv, hdv, rd⟩ := (q2.mono e2.sub).get hd
  obtain ⟨k1', st3⟩ := go (xs' := xs.eraseIdx j ++ [d]) e2 k2 ((RpA.erase j (q2.mono e2.sub)).append (.one rd))
  have hj : j < vs.length := by omega
  have hcap : xs.length < 16000000 := hz
  refine ⟨l, vs, i, j, dv, rfl, rfl, k1', by omega, by omega, by rw [hlen]; exact s1, hdv, ?_⟩
  refine ⟨l, vs.eraseIdx j, dv, rfl, rfl, upd_same, ?_, ?_⟩
  · rw [List.length_eraseIdx_of_lt hj, sizeLine_eq]; omega
  · rw [upd_upd]
    exact hr st3 h5 ws
/-- x += e, of whole numbers -/
theorem t_aug {o : Nat} {x : Str} {e : Expr} {p : P} {r : List Stmt} {sr : S} {px pos : Pos} (hD : X.N.Nodup) (hN : X.N[o]? = some x) (hx : LocOk X x) (ha : okE X xc EK tb sp e p) (hr : okS X xc EK tb sp F0 H0 r sr) :
    okS X xc EK tb sp F0 H0 (.AugAssign (.Name x px) .Add e pos :: r) (.aug o p sr) := by
  intro G E σ F H n so D st h ws
  simp only [evS] at h
  refine wpSs_of (pss_cons (ps_aug hD hN hx.1 pe_wp ip_add hx.2) pss_wp) ?_
  split at h
  rotate_left
  · cases h
  rename_i i hE
  obtain ⟨⟨fp, env, hf⟩, ok, ext, sg⟩ := id st
  obtain ⟨v, hv, rb⟩ := env.rel o _ hE
  obtain rfl : v = .int i := by
    generalize fp o = A at rb
    cases rb with
    | im r => cases r; rfl
  refine ⟨_, hv, stE ha st h ws fun y n1 h1 yv F2 H2 p2 => ?_⟩
  rw [Option.bind_eq_some_iff] at h1
  obtain ⟨j, hj, h2⟩ := h1
  obtain ⟨e2, k2, B, r2, f2⟩ := p2
  obtain rfl : yv = .int j := r2.int k2 (opInt_some hj)
  have hlt : o < E.length := by
    rcases Nat.lt_or_ge o E.length with z | z
    · exact z
    · rw [List.getElem?_eq_none z] at hE; cases hE
  refine ⟨i, j, rfl, rfl, hr ⟨⟨_, (env.ext e2).setIm hlt (.int (i + j)), fun m a ha => ?_⟩, k2, ext.trans e2, sg.trans e2.sub⟩ h2 ws⟩
  have ha : a ∈ (if m = o then [] else fp m) := ha
  by_cases z : m = o
  · rw [if_pos z] at ha; cases ha
  · rw [if_neg z] at ha; exact hf m a ha
/-- raise C(e) -/
theorem t_rse {c : Str} {e : Expr} {p : P} {r : List Stmt} {px pos pos' : Pos} (B : Bd X CX k xc EK tb) (hg : Gl X c ∧ (c == ("__debug__" : Str)) = false ∧ c ≠ "__name__") (hpl : plainB e = true) (ha : okE X xc EK tb sp e p) :
    okS X xc EK tb sp F0 H0 (.Raise (some (.Call (.Name c px) [e] [] pos)) none pos' :: r) (.rse c p) := by
  intro G E σ F H n so D st h ws
  simp only [evS] at h
  split at h
  rotate_left
  · cases h
  rename_i hc
  obtain ⟨f, hf⟩ := Option.isSome_iff_exists.mp hc
  obtain ⟨h2, C, O, hxc⟩ := B.own.ex c f hf
  obtain ⟨fI, fd, Fi, iC, tI, hb, _⟩ := O.init
  obtain ⟨F1, st1, _⟩ := st.frz (is := varOf p ++ consP p)
  have pm := Lx.pmk1 (X := X) (p := px) (pos := pos) (es := []) O.cls iC tI Fi (B.room.mono h2) hb passL hg.1 O.at_ (pa_cons (pe_wp (X := X) (e := e)) pa_nil (star_plain hpl)) hg.2.1 (star_plain hpl) rfl
  refine wpSs_of (pss_cons (ps_raise B.calm B.tk pm) pss_wp) (stE ha st1 h ws fun y n1 h1 yv F2 H2 p2 => ?_)
  rw [Option.map_eq_some_iff] at h1
  obtain ⟨d, h3, rfl⟩ := h1
  obtain ⟨F', e', k', r'⟩ := ret_ok st1 p2 h3
  refine ⟨by simp, fun a hna => ⟨a, yv, rfl, upd_same, fun dx hdx hne => ?_⟩⟩
  have hdx2 : H2 dx = none := by rw [upd_ne hne] at hdx; exact hdx
  refine ⟨rfl, dx, [(f, yv)], upd_same, by rw [upd_ne hne, upd_same], hdx2, ?_⟩
  have eh : upd (del (upd (upd (upd H2 a (exo a C none)) dx (exd dx [(f, yv)])) a (exo a C (some dx))) a) dx (.xd [(f, yv)]) = upd H2 dx (.xd [(f, yv)]) := by
    funext b
    by_cases hb : b = dx
    · rw [hb, upd_same, upd_same]
    · rw [upd_ne hb, upd_ne hb]
      by_cases hb2 : b = a
      · rw [hb2, del_same, hna]
      · rw [del_ne hb2, upd_ne hb2, upd_ne hb, upd_ne hb2]
  rw [eh]
  exact ws (.ref C) (some dx) F' _ (e'.trans (Ext.new hdx2)) (k'.new hdx2 rfl fun _ z => nomatch z) ((hxc ..).mpr ⟨rfl, dx, yv, rfl, upd_same, r'⟩)
/-- raise C() -/
theorem t_rs0 {c : Str} {r : List Stmt} {px pos pos' : Pos} (B : Bd X CX k xc EK tb) (hg : Gl X c ∧ (c == ("__debug__" : Str)) = false ∧ c ≠ "__name__") :
    okS X xc EK tb sp F0 H0 (.Raise (some (.Call (.Name c px) [] [] pos)) none pos' :: r) (.rs0 c) := by
  intro G E σ F H n so D st h ws
  simp only [evS] at h
  split at h
  rotate_left
  · cases h
  rename_i hc
  cases h
  obtain ⟨h2, C, O, hxc⟩ := B.own.ex0 c hc
  obtain ⟨fI, fd, Fi, iC, tI, hb⟩ := O.init
  have pm := Lx.pmk0 (X := X) (p := px) (pos := pos) O.q1 (raises_own O.exC O.ty) O.kC iC tI Fi (B.room.mono h2) hb passL hg.1 O.at_ hg.2.1
  refine wpSs_of (pss_cons (ps_raise B.calm B.tk pm) pss_wp) fun a hna => ?_
  exact ⟨a, rfl, upd_same, rfl, rfl, ws (.ref C) none F H st.ext st.ok ((hxc ..).mpr ⟨rfl, rfl, rfl⟩)⟩
/-- in a try's body: what is wanted of an error, whatever the names hold -/
def anyW (N : List Str) (W : L2.WX) : XK := fun cls d H => ∀ σ : L2.St, σ.length = N.length → W cls d σ H
theorem tk_any {W : L2.WX} (t : Takes X W) : Takes X (fun cls d _ H => anyW X.N W cls d H) := fun u s' ⟨a, B, sI, pins, σ, H, cls, d, e, I, nb, up, sky, na, os, ag, q⟩ =>
  t u s' ⟨a, B, sI, pins, σ, H, cls, d, e, I, nb, up, sky, na, os, ag, q σ I.len⟩
theorem Bd.try {W : L2.WX} {pn : List (Addr × Obj)} {xe : Value → Shared → Prop} (B : Bd X CX k xc EK tb) (t : Takes (X.tr pn xe) W) : Bd (X.tr pn xe) CX k xc (anyW X.N W) tb :=
  { cx := B.cx, nodup := B.nodup, calm := B.calm, pass := by rw [B.cx]; exact passes_call (tk_any t) (fun _ _ _ _ h => h), room := B.room, blt := B.blt, isi := B.isi, rng := B.rng, zip := B.zip, enm := B.enm, tys := B.tys, fns := fun x fn e => ⟨(B.fns x fn e).ex⟩, gls := B.gls, tk := tk_any t, own := B.own }
/-- try: return e, except C as n: return (t, n.f) -/
theorem t_tryr {o : Nat} {c nm t f : Str} {e : Expr} {p : P} {r : List Stmt} {p1 p2 p3 p4 p5 p6 p7 p8 p9 : Pos} {j1 j2} (B : Bd X CX k xc EK tb) (hs : ScOk X sc) (stk : X.stack = X.env :: X.outer) (frm : X.env.frame = some X.env.locals) (hg : Gl X c ∧ (c == ("__debug__" : Str)) = false ∧ c ≠ "__name__")
    (hN : X.N[o]? = some nm) (hl : X.env.kindOf nm = some .local) (hv : Vis X.env.scope nm ∧ (nm == ("__debug__" : Str)) = false ∧ (nm == ("__classdict__" : Str)) = false) (he : mtE X.N p sc e = true) (hns : ∀ env, starEach [Expr.Constant (.str t) j1 p1, .Attribute (.Name nm p2) f p3] env = [(false, eval (.Constant (.str t) j1 p1) env), (false, eval (.Attribute (.Name nm p2) f p3) env)] := by intro _; rfl) :
    okS X xc EK tb sp F0 H0 (.Try [.Return (some e) p4] [.ExceptHandler (some (.Name c p5)) (some nm) [.Return (some (.Tuple [.Constant (.str t) j1 p1, .Attribute (.Name nm p2) f p3] j2 p6)) p7] p8] [] [] p9 :: r) (.tryr p c t o f) := by
  intro G E σ F H n so D st h ws
  simp only [evS] at h
  split at h
  rotate_left
  · cases h
  rename_i hf
  obtain ⟨h2, C, O, hxc⟩ := B.own.ex c f hf
  obtain ⟨F1, st1, _⟩ := st.frz (is := varOf p ++ consP p)
  have bdy : ∀ (W : L2.WX) (pn : List (Addr × Obj)) (xe : Value → Shared → Prop), Takes (X.tr pn xe) W → PassesOwn (model X.prog X.w) X.A X.env xe → PSs (X.tr pn xe) [.Return (some e) p4] (fun D σ H => ∀ pn xe, Takes (X.tr pn xe) W → wpSs (X.tr pn xe) [.Return (some e) p4] D σ H) :=
    fun W pn xe tk _ => ⟨fun pins s σ H D I q => q pn xe tk pins s I⟩
  refine wpSs_of (pss_cons (ps_try_as (i := o) (Wout := fun cls d _ H => EK cls d H) stk frm B.nodup hN hl ⟨hg.1, hg.2.1, .inl O.at_⟩ B.tk bdy (fun a oe cls d pn hz hfl => pss_one (ps_ret (pe_tup (pa_cons pe_str (pa_cons (pe_xf O.cls.xf O.cls.no hz hfl (pe_var hN hv.1 hv.2.1 hv.2.2)) pa_nil)))))) pss_wp) ?_
  intro pn xe tk
  have ok2 := (sound p (X.tr pn xe) CX k _ sp sc (B.try tk) hs).e e he
  refine wpSs_of (pss_one (ps_ret pe_wp)) ?_
  obtain ⟨⟨fp, env, hfp⟩, ok, ext, sg⟩ := id st1
  split at h
  · rename_i x n1 e1
    rw [Option.map_eq_some_iff] at h
    obtain ⟨d, h3, rfl⟩ := h
    refine ok2 env ok e1 (fun c d n z => by cases z) fun r' n' z v F2 H2 p2 => ?_
    cases z
    obtain ⟨F', e', k', r'⟩ := ret_ok st1 p2 h3
    exact ws v F' H2 e' k' r'
  · rename_i c' d n1 e1
    split at h
    rotate_left
    · cases h
    rename_i hcc
    obtain ⟨rfl, hlt⟩ := hcc
    cases h
    refine ok2 env ok e1 (fun c2 d2 n2 z => ?_) fun _ _ z => by cases z
    cases z
    intro ev od F' H' e' k' hx σ' hlen
    obtain ⟨rfl, dx, v, rfl, hxd, rv⟩ := (hxc ..).mp hx
    refine ⟨true, O.cls.me, fun _ a hna => ?_, fun z => by cases z⟩
    have ho : o < σ'.length := by
      have := env.len
      have h1 := (List.getElem?_eq_some_iff.mp hN).1
      have hlen : σ'.length = X.N.length := hlen
      omega
    refine ⟨.ref a, List.getElem?_set_self ho, rfl, rfl, dx, [(f, v)], v, rfl, hxd, by simp [List.lookup], ?_, fun q hq => ?_⟩
    · show 2 ≤ sizeLine
      rw [sizeLine_eq]; decide
    · obtain ⟨e2, k2, A, r1, _⟩ := post_tup k' hq (.cons (.str t) (.cons rv .nil) : RpA X.w X.K F' [.str t, v] [.str t, d])
      cases r1 with
      | im r1 => exact ws (.ref q) _ _ (ext.trans (e'.trans e2)) k2 r1
  · cases h
/-- try: .., except C as n: return isinstance(n, C2) -/
theorem t_tryx {o : Nat} {cb nm ct : Str} {body : List Stmt} {b : S} {r : List Stmt} {p1 p2 p3 p4 p5 p6 p7 p8 : Pos} (B : Bd X CX k xc EK tb) (stk : X.stack = X.env :: X.outer) (frm : X.env.frame = some X.env.locals)
    (hg : Gl X cb ∧ (cb == ("__debug__" : Str)) = false ∧ cb ≠ "__name__") (hgc : Gl X ct ∧ (ct == ("__debug__" : Str)) = false ∧ ct ≠ "__name__") (hgi : Gl X "isinstance")
    (hN : X.N[o]? = some nm) (hl : X.env.kindOf nm = some .local) (hv : Vis X.env.scope nm ∧ (nm == ("__debug__" : Str)) = false ∧ (nm == ("__classdict__" : Str)) = false)
    (hb : ∀ (W : L2.WX) (pn : List (Addr × Obj)) (xe : Value → Shared → Prop), Takes (X.tr pn xe) W → PassesOwn (model X.prog X.w) X.A X.env xe → okS (X.tr pn xe) xc (anyW X.N W) tb sp F0 H0 body b) :
    okS X xc EK tb sp F0 H0 (.Try body [.ExceptHandler (some (.Name cb p1)) (some nm) [.Return (some (.Call (.Name "isinstance" p2) [.Name nm p3, .Name ct p4] [] p5)) p6] p7] [] [] p8 :: r) (.tryx b cb o ct) := by
  intro G E σ F H n so D st h ws
  simp only [evS] at h
  split at h
  rotate_left
  · cases h
  rename_i hcb
  obtain ⟨bb, hcb⟩ := Option.isSome_iff_exists.mp hcb
  obtain ⟨⟨ub, vb, hub, _⟩, _⟩ := B.own.ix cb cb bb hcb
  have nms : Names X cb ub := ⟨hg.1, hg.2.1, hub.imp id fun z => ⟨z.1, z.2, hg.2.2⟩⟩
  have bdy : ∀ (W : L2.WX) (pn : List (Addr × Obj)) (xe : Value → Shared → Prop), Takes (X.tr pn xe) W → PassesOwn (model X.prog X.w) X.A X.env xe → PSs (X.tr pn xe) body (fun D σ H => ∀ pn xe, Takes (X.tr pn xe) W → PassesOwn (model X.prog X.w) X.A X.env xe → wpSs (X.tr pn xe) body D σ H) :=
    fun W pn xe tk ps => ⟨fun pins s σ H D I q => q pn xe tk ps pins s I⟩
  have sut : ∀ (a : Addr) (oe : Obj) (cls : Value) (d : Option Addr) (pn : List (Addr × Obj)), Zc cls d oe → (∃ vs, oe.data = .fields vs) → PSs (X.suite a ((a, oe) :: pn)) [.Return (some (.Call (.Name "isinstance" p2) [.Name nm p3, .Name ct p4] [] p5)) p6]
      (fun D σ H => ∀ oe pn, Zc cls d oe → (∃ vs, oe.data = .fields vs) → wpSs (X.suite a ((a, oe) :: pn)) [.Return (some (.Call (.Name "isinstance" p2) [.Name nm p3, .Name ct p4] [] p5)) p6] D σ H) :=
    fun a oe cls d pn hz hf => ⟨fun pins s σ H D I q => q oe pn hz hf pins s I⟩
  refine wpSs_of (pss_cons (ps_try_as (i := o) (Wout := fun cls d _ H => EK cls d H) (ts := fun a cls d D σ H => ∀ oe pn, Zc cls d oe → (∃ vs, oe.data = .fields vs) → wpSs (X.suite a ((a, oe) :: pn)) [.Return (some (.Call (.Name "isinstance" p2) [.Name nm p3, .Name ct p4] [] p5)) p6] D σ H)
    stk frm B.nodup hN hl nms B.tk bdy sut) pss_wp) ?_
  intro pn xe tk ps
  split at h
  · rename_i d n1 e1
    cases h
    exact hb _ pn xe tk ps st e1 ws
  · rename_i c d n1 e1
    split at h
    rotate_left
    · cases h
    rename_i hcc
    obtain ⟨hcc, hlt⟩ := hcc
    rw [Option.map_eq_some_iff] at h
    obtain ⟨q, hq, rfl⟩ := h
    obtain ⟨⟨u1, v1, hu1, _, _, _, _, hex⟩, hxc⟩ := B.own.ix c cb true hcc
    obtain ⟨⟨u2, v2, hu2, ru2, cv2, cx2, hk2, _⟩, _⟩ := B.own.ix c ct q hq
    have eu : u1 = ub := by
      rcases hu1 with z | ⟨z, z2⟩ <;> rcases hub with y | ⟨y, y2⟩
      · rw [z] at y; exact Option.some.inj y
      · rw [z] at y; cases y
      · rw [y] at z; cases z
      · rw [z2] at y2; exact Option.some.inj y2
    subst eu
    refine hb _ pn xe tk ps st e1 ?_
    intro ev od F' H' e' k' hx σ' hlen
    obtain ⟨rfl, hod⟩ := hxc d ev od F' H' hx
    refine ⟨true, hex, fun _ a hna oe pn' hz hfl => ?_, fun z => by cases z⟩
    have ho : o < σ'.length := by
      have h1 := (List.getElem?_eq_some_iff.mp hN).1
      have hlen : σ'.length = X.N.length := hlen
      omega
    have pct : PE (X.suite a ((a, oe) :: pn')) (.Name ct p4) (tC v2) := by
      rcases hu2 with z | ⟨z, z2⟩
      · exact pe_glob hgc.1 z ru2 hgc.2.1
      · exact pe_bltn hgc.1 z z2 ru2 hgc.2.2 hgc.2.1
    refine wpSs_of (pss_one (ps_ret (pe_callB (X := X.suite a ((a, oe) :: pn')) (Lx.call_isS hz hfl) hgi B.isi rfl (pa_cons (pe_var hN hv.1 hv.2.1 hv.2.2) (pa_cons pct pa_nil (star_plain rfl)) (star_plain rfl)) (by decide) (by decide) (star_plain rfl) (back_plain (by rfl))))) ?_
    · refine ⟨.ref a, List.getElem?_set_self ho, _, v2, u2, q, rfl, cv2, rfl, cx2, hod, hk2, ?_⟩
      exact ws (.bl q) F' H' e' k' (.bl q)
  · cases h
end
end Lk
end
section
set_option linter.all false
set_option maxRecDepth 100000
set_option maxHeartbeats 4000000
/-! Statements: all of it. -/
namespace Lk
open PySem PySem.Spec PyProof.Rows L2
def asAssign : Stmt → Option (Expr × Expr)
  | .Assign [t] v _ => some (t, v)
  | _ => none
theorem asAssign_some {st : Stmt} {t v : Expr} (h : asAssign st = some (t, v)) : ∃ p, st = .Assign [t] v p := by
  unfold asAssign at h
  split at h
  · cases h; exact ⟨_, rfl⟩
  · cases h
def asApp : Stmt → Option (Str × Expr)
  | .Expr (.Call (.Attribute (.Name x _) m ap) [v] [] cp) _ => if m = "append" ∧ (ap.endLine == cp.line) = true then some (x, v) else none
  | _ => none
theorem asApp_some {st : Stmt} {x : Str} {v : Expr} (h : asApp st = some (x, v)) : ∃ px ap cp p, st = .Expr (.Call (.Attribute (.Name x px) "append" ap) [v] [] cp) p ∧ (ap.endLine == cp.line) = true := by
  unfold asApp at h
  split at h
  · split at h
    · rename_i hh
      cases h
      obtain ⟨rfl, h2⟩ := hh
      exact ⟨_, _, _, _, rfl, h2⟩
    · cases h
  · cases h
def asSpt : Stmt → Option (Str × Expr × Expr)
  | .Assign [.Subscript (.Name x _) i _] v _ => some (x, i, v)
  | _ => none
theorem asSpt_some {st : Stmt} {x : Str} {i v : Expr} (h : asSpt st = some (x, i, v)) : ∃ p1 p2 p3, st = .Assign [.Subscript (.Name x p1) i p2] v p3 := by
  unfold asSpt at h
  split at h
  · cases h; exact ⟨_, _, _, rfl⟩
  · cases h
def asApop : Stmt → Option (Str × Str × Expr)
  | .Expr (.Call (.Attribute (.Name x _) m ap) [.Call (.Attribute (.Name y _) m2 ap2) [v] [] cp2] [] cp) _ => if m = "append" ∧ m2 = "pop" ∧ (ap.endLine == cp.line) = true ∧ (ap2.endLine == cp2.line) = true then some (x, y, v) else none
  | _ => none
theorem asApop_some {st : Stmt} {x y : Str} {v : Expr} (h : asApop st = some (x, y, v)) : ∃ px py ap ap2 cp cp2 p, st = .Expr (.Call (.Attribute (.Name x px) "append" ap) [.Call (.Attribute (.Name y py) "pop" ap2) [v] [] cp2] [] cp) p ∧ (ap.endLine == cp.line) = true ∧ (ap2.endLine == cp2.line) = true := by
  unfold asApop at h
  split at h
  · split at h
    · rename_i hh
      cases h
      obtain ⟨rfl, rfl, h2, h3⟩ := hh
      exact ⟨_, _, _, _, _, _, _, rfl, h2, h3⟩
    · cases h
  · cases h
def asRet : Stmt → Option Expr
  | .Return (some e) _ => some e
  | _ => none
theorem asRet_some {st : Stmt} {e : Expr} (h : asRet st = some e) : ∃ p, st = .Return (some e) p := by
  unfold asRet at h
  split at h
  · cases h; exact ⟨_, rfl⟩
  · cases h
def asIfS : Stmt → Option (Expr × List Stmt × List Stmt)
  | .If c a b _ => some (c, a, b)
  | _ => none
theorem asIfS_some {st : Stmt} {c : Expr} {a b : List Stmt} (h : asIfS st = some (c, a, b)) : ∃ p, st = .If c a b p := by
  unfold asIfS at h
  split at h
  · cases h; exact ⟨_, rfl⟩
  · cases h
def asWhl : Stmt → Option (Expr × List Stmt)
  | .While c a [] _ => some (c, a)
  | _ => none
theorem asWhl_some {st : Stmt} {c : Expr} {a : List Stmt} (h : asWhl st = some (c, a)) : ∃ p, st = .While c a [] p := by
  unfold asWhl at h
  split at h
  · cases h; exact ⟨_, rfl⟩
  · cases h
def asFor : Stmt → Option (Expr × Expr × List Stmt)
  | .For t i a [] _ => some (t, i, a)
  | _ => none
theorem asFor_some {st : Stmt} {t i : Expr} {a : List Stmt} (h : asFor st = some (t, i, a)) : ∃ p, st = .For t i a [] p := by
  unfold asFor at h
  split at h
  · cases h; exact ⟨_, rfl⟩
  · cases h
def isBrk : Stmt → Bool
  | .Break _ => true
  | _ => false
def isCnt : Stmt → Bool
  | .Continue _ => true
  | _ => false
def isCompE : Expr → Bool
  | .ListComp _ _ _ _ => true
  | .SetComp _ _ _ _ => true
  | .DictComp _ _ _ _ _ => true
  | _ => false
def isSdE : Expr → Bool
  | .SetComp _ _ _ _ => true
  | .DictComp _ _ _ _ _ => true
  | _ => false
def isTupE (e : Expr) : Bool := (asTup e).isSome
def asMth (m : Str) : Stmt → Option (Str × Expr)
  | .Expr (.Call (.Attribute (.Name x _) m' ap) [v] [] cp) _ => if m' = m ∧ (ap.endLine == cp.line) = true then some (x, v) else none
  | _ => none
theorem asMth_some {m : Str} {st : Stmt} {x : Str} {v : Expr} (h : asMth m st = some (x, v)) : ∃ px ap cp p, st = .Expr (.Call (.Attribute (.Name x px) m ap) [v] [] cp) p ∧ (ap.endLine == cp.line) = true := by
  unfold asMth at h
  split at h
  · split at h
    · rename_i hh
      cases h
      obtain ⟨rfl, h2⟩ := hh
      exact ⟨_, _, _, _, rfl, h2⟩
    · cases h
  · cases h
def asIns : Stmt → Option (Str × Expr × Expr)
  | .Expr (.Call (.Attribute (.Name x _) m' ap) [j, v] [] cp) _ => if m' = "insert" ∧ (ap.endLine == cp.line) = true then some (x, j, v) else none
  | _ => none
theorem asIns_some {st : Stmt} {x : Str} {j v : Expr} (h : asIns st = some (x, j, v)) : ∃ px ap cp p, st = .Expr (.Call (.Attribute (.Name x px) "insert" ap) [j, v] [] cp) p ∧ (ap.endLine == cp.line) = true := by
  unfold asIns at h
  split at h
  · split at h
    · rename_i hh
      cases h
      obtain ⟨rfl, h2⟩ := hh
      exact ⟨_, _, _, _, rfl, h2⟩
    · cases h
  · cases h
def asRot : Stmt → Option (Str × Expr)
  | .Expr (.Call (.Attribute (.Name x _) m' ap) [.Call (.Attribute (.Name y _) m2 ap2) [v] [] cp2] [] cp) _ => if m' = "append" ∧ m2 = "pop" ∧ y = x ∧ (ap.endLine == cp.line) = true ∧ (ap2.endLine == cp2.line) = true then some (x, v) else none
  | _ => none
theorem asRot_some {st : Stmt} {x : Str} {v : Expr} (h : asRot st = some (x, v)) : ∃ px ap cp px2 ap2 cp2 p, st = .Expr (.Call (.Attribute (.Name x px) "append" ap) [.Call (.Attribute (.Name x px2) "pop" ap2) [v] [] cp2] [] cp) p ∧ (ap.endLine == cp.line) = true ∧ (ap2.endLine == cp2.line) = true := by
  unfold asRot at h
  split at h
  · split at h
    · rename_i hh
      cases h
      obtain ⟨rfl, rfl, rfl, h2, h3⟩ := hh
      exact ⟨_, _, _, _, _, _, _, rfl, h2, h3⟩
    · cases h
  · cases h
def asAug : Stmt → Option (Str × Expr)
  | .AugAssign (.Name x _) .Add v _ => some (x, v)
  | _ => none
theorem asAug_some {st : Stmt} {x : Str} {v : Expr} (h : asAug st = some (x, v)) : ∃ px p, st = .AugAssign (.Name x px) .Add v p := by
  unfold asAug at h
  split at h
  · cases h; exact ⟨_, _, rfl⟩
  · cases h
def asRse : Stmt → Option (Str × Expr)
  | .Raise (some (.Call (.Name c _) [e] [] _)) none _ => some (c, e)
  | _ => none
theorem asRse_some {st : Stmt} {x : Str} {v : Expr} (h : asRse st = some (x, v)) : ∃ p1 p2 p3, st = .Raise (some (.Call (.Name x p1) [v] [] p2)) none p3 := by
  unfold asRse at h
  split at h
  · cases h; exact ⟨_, _, _, rfl⟩
  · cases h
/-- its expression, class, name, text, field -/
def asTryr : Stmt → Option (Expr × Str × Str × Str × Str)
  | .Try [.Return (some e) _] [.ExceptHandler (some (.Name c _)) (some nm) [.Return (some (.Tuple [.Constant (.str t) _ _, .Attribute (.Name nm2 _) f _] _ _)) _] _] [] [] _ => if nm2 = nm then some (e, c, nm, t, f) else none
  | _ => none
theorem asTryr_some {st : Stmt} {e : Expr} {c nm t f : Str} (h : asTryr st = some (e, c, nm, t, f)) : ∃ p4 p5 j1 p1 p2 p3 j2 p6 p7 p8 p9, st = .Try [.Return (some e) p4] [.ExceptHandler (some (.Name c p5)) (some nm) [.Return (some (.Tuple [.Constant (.str t) j1 p1, .Attribute (.Name nm p2) f p3] j2 p6)) p7] p8] [] [] p9 := by
  unfold asTryr at h
  split at h
  · split at h
    · rename_i hh
      subst hh
      cases h
      exact ⟨_, _, _, _, _, _, _, _, _, _, _, rfl⟩
    · cases h
  · cases h
def asRs0 : Stmt → Option Str
  | .Raise (some (.Call (.Name x _) [] [] _)) none _ => some x
  | _ => none
theorem asRs0_some {st : Stmt} {x : Str} (h : asRs0 st = some x) : ∃ p1 p2 p3, st = .Raise (some (.Call (.Name x p1) [] [] p2)) none p3 := by
  unfold asRs0 at h
  split at h
  · cases h; exact ⟨_, _, _, rfl⟩
  · cases h
/-- its body, class, name, class asked -/
def asTryx : Stmt → Option (List Stmt × Str × Str × Str)
  | .Try body [.ExceptHandler (some (.Name cb _)) (some nm) [.Return (some (.Call (.Name i _) [.Name nm2 _, .Name ct _] [] _)) _] _] [] [] _ => if nm2 = nm ∧ i = "isinstance" then some (body, cb, nm, ct) else none
  | _ => none
theorem asTryx_some {st : Stmt} {body : List Stmt} {cb nm ct : Str} (h : asTryx st = some (body, cb, nm, ct)) : ∃ p1 p2 p3 p4 p5 p6 p7 p8, st = .Try body [.ExceptHandler (some (.Name cb p1)) (some nm) [.Return (some (.Call (.Name "isinstance" p2) [.Name nm p3, .Name ct p4] [] p5)) p6] p7] [] [] p8 := by
  unfold asTryx at h
  split at h
  · split at h
    · rename_i hh
      obtain ⟨rfl, rfl⟩ := hh
      cases h
      exact ⟨_, _, _, _, _, _, _, _, rfl⟩
    · cases h
  · cases h
def mtS (N : List Str) (sc : Scope) : S → List Stmt → Bool
  | .done, sts => sts.isEmpty
  | .asg tg e r, sts => match sts with
    | st :: rest => (match asAssign st with
      | some (t, v) => mtG N sc tg t && mtE N e sc v && !(isTupE t && isTupE v) && !isSdE v
      | none => false) && mtS N sc r rest
    | [] => false
  | .app o e r, sts => match sts with
    | st :: rest => (match asApp st with
      | some (x, v) => N[o]? == some x && visB sc x && plainB v && mtE N e sc v
      | none => false) && mtS N sc r rest
    | [] => false
  | .spt o i e r, sts => match sts with
    | st :: rest => (match asSpt st with
      | some (x, j, v) => N[o]? == some x && visB sc x && notSetB v && plainB j && mtE N i sc j && mtE N e sc v && !isCompE v
      | none => false) && mtS N sc r rest
    | [] => false
  | .sti o i e r, sts => match sts with
    | st :: rest => (match asSpt st with
      | some (x, j, v) => N[o]? == some x && visB sc x && plainB j && mtE N i sc j && mtE N e sc v && !isCompE v
      | none => false) && mtS N sc r rest
    | [] => false
  | .apop o p e r, sts => match sts with
    | st :: rest => (match asApop st with
      | some (x, y, v) => N[o]? == some x && visB sc x && N[p]? == some y && visB sc y && plainB v && mtE N e sc v
      | none => false) && mtS N sc r rest
    | [] => false
  | .ret e, sts => match sts with
    | st :: _ => (match asRet st with
      | some v => mtE N e sc v
      | none => false)
    | [] => false
  | .ife c a b r, sts => match sts with
    | st :: rest => (match asIfS st with
      | some (t, x, y) => mtT N c sc t && mtS N sc a x && mtS N sc b y
      | none => false) && mtS N sc r rest
    | [] => false
  | .whl _ c b r, sts => match sts with
    | st :: rest => (match asWhl st with
      | some (t, x) => mtT N c sc t && mtS N sc b x
      | none => false) && mtS N sc r rest
    | [] => false
  | .forr tg it b r, sts => match sts with
    | st :: rest => (match asFor st with
      | some (t, i, x) => mtG N sc tg t && mtW N it sc t i && mtS N sc b x
      | none => false) && mtS N sc r rest
    | [] => false
  | .brk, sts => match sts with
    | st :: _ => isBrk st
    | [] => false
  | .cnt, sts => match sts with
    | st :: _ => isCnt st
    | [] => false
  | .ext o e r, sts => match sts with
    | st :: rest => (match asMth "extend" st with
      | some (x, v) => N[o]? == some x && visB sc x && plainB v && mtE N e sc v
      | none => false) && mtS N sc r rest
    | [] => false
  | .lpop o e r, sts => match sts with
    | st :: rest => (match asMth "pop" st with
      | some (x, v) => N[o]? == some x && visB sc x && plainB v && mtE N e sc v
      | none => false) && mtS N sc r rest
    | [] => false
  | .ins o i e r, sts => match sts with
    | st :: rest => (match asIns st with
      | some (x, j, v) => N[o]? == some x && visB sc x && plainB j && plainB v && mtE N i sc j && mtE N e sc v
      | none => false) && mtS N sc r rest
    | [] => false
  | .rot o e r, sts => match sts with
    | st :: rest => (match asRot st with
      | some (x, v) => N[o]? == some x && visB sc x && plainB v && mtE N e sc v
      | none => false) && mtS N sc r rest
    | [] => false
  | .aug o e r, sts => match sts with
    | st :: rest => (match asAug st with
      | some (x, v) => N[o]? == some x && locB sc x && mtE N e sc v
      | none => false) && mtS N sc r rest
    | [] => false
  | .rse c e, sts => match sts with
    | st :: _ => (match asRse st with
      | some (x, v) => x == c && glB sc x && plainB v && mtE N e sc v
      | none => false)
    | [] => false
  | .rs0 c, sts => match sts with
    | st :: _ => (match asRs0 st with
      | some x => x == c && glB sc x
      | none => false)
    | [] => false
  | .tryr e c t o f, sts => match sts with
    | st :: _ => (match asTryr st with
      | some (v, c', nm, t', f') => c' == c && t' == t && f' == f && glB sc c' && N[o]? == some nm && (sc.names.lookup nm == some .local) && visB sc nm && mtE N e sc v
      | none => false)
    | [] => false
  | _, _ => false
section
variable {X : Cx} {CX : CXT} {k : Nat} {xc : XC} {EK : XK} {tb : Tb} {sp : Option Addr} {F0 H0 : Hp} {sc : Scope}
theorem sw_name {x : Expr} {gens : List Comprehension} {s2 : Scope} {pos py : Pos} {y : Str} {l : Nat} {env : Env} : swapsWith (.ListComp x gens s2 pos) (some (.Name y py)) l env =
    pure (env.blockKind == .function && env.kindOf y == some .local && py.line == pos.line && !(s2.names.any fun (n, k) => n == y && (k == .local || k == .cell))) := rfl
theorem st_set {i : Nat} {r : R} {v : V} {G : Hp} {E E' : En} {σ : L2.St} {F H F1 H1 : Hp} {n n1 : Int} (st : Stt X.w X.K sp F0 H0 G E σ F H n) (p : PostE X.w X.K sp F H r n1 v F1 H1) (h : bindT E (.nm i) r = some E') : Stt X.w X.K sp F0 H0 G E' (σ.set i (some v)) F1 H1 n1 := by
  obtain ⟨⟨fp, env, hf⟩, ok, ext, sg⟩ := st
  obtain ⟨e1, k1, A, r1, f1⟩ := p
  have hA := r1.there
  have env1 := env.ext e1
  have fin : ∀ {b : B} {A' : List Addr}, i < E.length → E' = E.set i (some b) → BRel X.w X.K sp F1 H1 v b A' → (∀ a ∈ A', a ∈ A) → Stt X.w X.K sp F0 H0 G E' (σ.set i (some v)) F1 H1 n1 := fun {b A'} hlt hE rb hsub => by
    subst hE
    refine ⟨⟨_, env1.set hlt rb (fun a ha => hA a (hsub a ha)) (fun j _ a ha z => (env.out j a z).2.1 (f1 a (hsub a ha))), fun j a ha => ?_⟩, k1, ext.trans e1, sg.trans e1.sub⟩
    have ha : a ∈ (if j = i then A' else fp j) := ha
    by_cases z : j = i
    · rw [if_pos z] at ha; exact ext.fresh (f1 a (hsub a ha))
    · rw [if_neg z] at ha; exact hf j a ha
  unfold bindT at h
  split at h
  · rename_i i' t hq
    cases hq
    obtain ⟨hlt, hE⟩ := setN_eq h
    cases r1 with
    | fr ow _ nd => exact fin hlt hE (.mu ow nd) fun a ha => ha
  · rename_i i' r' hq hnf
    cases hq
    rw [Option.bind_eq_some_iff] at h
    obtain ⟨d, h1, h2⟩ := h
    obtain ⟨hlt, hE⟩ := setN_eq h2
    have rp := r1.fix k1 h1
    have hA0 : A = [] := by
      cases r1 with
      | fr _ _ _ => exact (hnf _ rfl).elim
      | _ => rfl
    rw [hA0, fzH_nil] at rp
    exact fin hlt hE (.im rp) fun a z => nomatch z
  · rename_i hq; cases hq
theorem t_assign {t v : Expr} {tg : Tg} {e : P} {r : List Stmt} {sr : S} {pos : Pos} (B : Bd X CX k xc EK tb) (hs : ScOk X sc) (hm : mtG X.N sc tg t = true) (he : mtE X.N e sc v = true) (ht : (isTupE t && isTupE v) = false) (hsd : isSdE v = false) (hr : okS X xc EK tb sp F0 H0 r sr) :
    okS X xc EK tb sp F0 H0 (.Assign [t] v pos :: r) (.asg tg e sr) := by
  have sa := sound (xc := xc) (tb := tb) e X CX k EK sp sc B hs
  have hsw : swappedStores [t] v X.env = pure none := by
    cases t with
    | Tuple es j p =>
      cases v with
      | Tuple _ _ _ => cases ht
      | _ => rfl
    | Name x p => cases v <;> rfl
    | _ => cases tg <;> simp [mtG, asName, asTup] at hm
  have plain : swapsWithSole [t] v pos.line X.env = pure false → okS X xc EK tb sp F0 H0 (.Assign [t] v pos :: r) (.asg tg e sr) := fun h1 => t_asg B hs hm (sa.e v he) h1 hsw hr
  cases v with
  | ListComp x gens s2 p =>
    cases t with
    | Name y py =>
      by_cases hb : (X.env.blockKind == .function && X.env.kindOf y == some .local && py.line == p.line && !(s2.names.any fun (n, k) => n == y && (k == .local || k == .cell))) = true
      · cases tg with
        | tp is => simp [mtG, asTup] at hm
        | nm i =>
          have hm' := hm
          simp only [mtG, asName, Bool.and_eq_true, beq_iff_eq] at hm'
          have hyl : X.env.scope.names.lookup y = some .local := by
            simp only [Bool.and_eq_true, beq_iff_eq] at hb
            exact hb.1.1.2
          have hsw2 : swapsWith (.ListComp x gens s2 p) (some (.Name y py)) (Pos.line pos) X.env = pure true := by rw [sw_name, hb]
          have ac := sa.ac i y py x gens s2 p pos he hm'.1 hyl hsw2
          intro G E σ F H n so D st h ws
          simp only [evS] at h
          obtain ⟨F1, st1, _⟩ := st.frz (is := consP e)
          refine wpSs_of (pss_cons ps_wp pss_wp) ?_
          obtain ⟨⟨fp, env, hf⟩, ok, ext, sg⟩ := id st1
          rcases so_of h with ⟨r1, n1, e1, h1⟩ | ⟨c, d, n1, e1, rfl⟩
          · refine ac env ok e1 (fun c d n z => by cases z) fun r' n' z v F2 H2 p2 => ?_
            cases z
            rw [Option.bind_eq_some_iff] at h1
            obtain ⟨E1, h5, h6⟩ := h1
            exact hr (st_set st1 p2 h5) h6 ws
          · exact ac env ok e1 (WishX.wx ws ext) fun r' n' z => by cases z
      · refine plain ?_
        show swapsWith (.ListComp x gens s2 p) (some (.Name y py)) pos.line X.env = pure false
        rw [sw_name]
        rw [Bool.not_eq_true] at hb
        rw [hb]
    | Tuple _ _ _ => exact plain rfl
    | _ => cases tg <;> simp [mtG, asName, asTup] at hm
  | SetComp _ _ _ _ => cases hsd
  | DictComp _ _ _ _ _ => cases hsd
  | _ => exact plain rfl
/-- the moving place moves -/
theorem t_spt {o : Nat} {x : Str} {j v : Expr} {i e : P} {r : List Stmt} {sr : S} {p1 p2 p3 : Pos} (hN : X.N[o]? = some x) (hx : Vis X.env.scope x ∧ (x == ("__debug__" : Str)) = false ∧ (x == ("__classdict__" : Str)) = false) (hcv : isCompE v = false)
    (hi : okE X xc EK tb sp j i) (he : okE X xc EK tb sp v e) (hpj : plainB j = true) (hr : okS X xc EK tb sp F0 H0 r sr) : okS X xc EK tb sp F0 H0 (.Assign [.Subscript (.Name x p1) j p2] v p3 :: r) (.spt o i e sr) := by
  intro G E σ F H n so D st h ws
  simp only [evS] at h
  split at h
  rotate_left
  · cases h
  rename_i hE
  have h1 : swapsWithSole [.Subscript (.Name x p1) j p2] v p3.line X.env = pure false := by cases v <;> first | rfl | cases hcv
  have h2 : swappedStores [.Subscript (.Name x p1) j p2] v X.env = pure none := by cases v <;> rfl
  refine wpSs_of (pss_cons (ps_asg pe_wp (pg_sub (pe_var hN hx.1 hx.2.1 hx.2.2) pe_wp set_list (by intro u; cases j <;> first | rfl | cases hpj)) h1 h2) pss_wp) ?_
  refine stE he st h ws fun y n1 h3 yv F1 H1 q1 => ?_
  have st1 := st.after q1.1 q1.2.1
  obtain ⟨⟨fp, env, _⟩, _, _, _⟩ := id st1
  obtain ⟨w, hw, rb⟩ := env.rel o _ hE
  have rb : BRel X.w X.K sp F1 H1 w .sp (fp o) := rb
  generalize fp o = Ao at rb
  cases rb with
  | @sp a hs =>
    refine ⟨.ref a, hw, ?_⟩
    refine stE hi st1 h3 ws fun z n2 h4 zv F2 H2 q2 => ?_
    split at h4
    rotate_left
    · cases h4
    rename_i jj hj hk
    obtain ⟨e1, k1, A, r1, f1⟩ := q1
    obtain ⟨e2, k2, A2, r2, f2⟩ := q2
    have ey : yv = .int jj := r1.int k1 (opInt_some hj)
    have ez : zv = .int 0 := r2.int k2 (opInt_some hk)
    subst ey ez
    have hsp := k2.spt a hs
    refine ⟨a, [.int n2], 0, 0, rfl, rfl, hsp.1, rfl, ?_⟩
    have st2 := st1.after e2 k2
    have e3 : Ext sp F2 H2 F2 (upd H2 a (.lst [.int jj])) := ⟨Sub.refl F2, fun b ob hb q => by rw [upd_ne (fun z => hb (by rw [z]; exact hs))]; exact q, fun _ _ => rfl, fun b hb => upd_none hb⟩
    refine hr (st2.after e3 ⟨fun b u q => ?_, fun b xs q => ?_, fun b ob xs q => ?_, fun b q => ?_⟩) h4 ws
    · have z : b ≠ a := fun z => by subst z; rw [hsp.2] at q; cases q
      rw [upd_ne z]; exact k2.sub b u q
    · by_cases z : b = a
      · subst z; rw [upd_same] at q; cases q
      · rw [upd_ne z] at q; exact k2.tup b xs q
    · by_cases z : b = a
      · subst z; rw [upd_same] at q; cases q
      · rw [upd_ne z] at q; exact k2.tupf b ob xs q
    · rw [hs] at q; cases q
      exact ⟨upd_same, hsp.2⟩
theorem soundS (B : Bd X CX k xc EK tb) (hs : ScOk X sc) (hsc : X.env.scope = sc) (stk : X.stack = X.env :: X.outer) (frm : X.env.frame = some X.env.locals) (hp : PassesOwn (model X.prog X.w) X.A X.env X.xe) : ∀ (s : S) (sts : List Stmt), mtS X.N sc s sts = true → okS X xc EK tb sp F0 H0 sts s := by
  have sa := fun p => sound (xc := xc) (tb := tb) p X CX k EK sp sc B hs
  intro s
  induction s with
  | done =>
    intro sts h
    simp only [mtS, List.isEmpty_iff] at h
    subst h
    exact t_done
  | asg tg e r ih =>
    intro sts h
    cases sts with
    | nil => simp [mtS] at h
    | cons st rest =>
      simp only [mtS, Bool.and_eq_true] at h
      obtain ⟨h1, h2⟩ := h
      split at h1
      · rename_i t v hx
        obtain ⟨p, rfl⟩ := asAssign_some hx
        simp only [Bool.and_eq_true, Bool.not_eq_true'] at h1
        exact t_assign B hs h1.1.1.1 h1.1.1.2 h1.1.2 h1.2 (ih rest h2)
      · cases h1
  | app o e r ih =>
    intro sts h
    cases sts with
    | nil => simp [mtS] at h
    | cons st rest =>
      simp only [mtS, Bool.and_eq_true] at h
      obtain ⟨h1, h2⟩ := h
      split at h1
      · rename_i x v hx
        obtain ⟨px, ap, cp, p, rfl, hl⟩ := asApp_some hx
        simp only [Bool.and_eq_true, beq_iff_eq] at h1
        exact t_app h1.1.1.1 (hs.1 x h1.1.1.2) h1.1.2 hl ((sa e).e v h1.2) (ih rest h2)
      · cases h1
  | ext o e r ih =>
    intro sts h
    cases sts with
    | nil => simp [mtS] at h
    | cons st rest =>
      simp only [mtS, Bool.and_eq_true] at h
      obtain ⟨h1, h2⟩ := h
      split at h1
      · rename_i x v hx
        obtain ⟨px, ap, cp, p, rfl, hl⟩ := asMth_some hx
        simp only [Bool.and_eq_true, beq_iff_eq] at h1
        exact t_ext h1.1.1.1 (hs.1 x h1.1.1.2) h1.1.2 hl ((sa e).e v h1.2) (ih rest h2)
      · cases h1
  | lpop o e r ih =>
    intro sts h
    cases sts with
    | nil => simp [mtS] at h
    | cons st rest =>
      simp only [mtS, Bool.and_eq_true] at h
      obtain ⟨h1, h2⟩ := h
      split at h1
      · rename_i x v hx
        obtain ⟨px, ap, cp, p, rfl, hl⟩ := asMth_some hx
        simp only [Bool.and_eq_true, beq_iff_eq] at h1
        exact t_lpop h1.1.1.1 (hs.1 x h1.1.1.2) h1.1.2 hl ((sa e).e v h1.2) (ih rest h2)
      · cases h1
  | ins o i e r ih =>
    intro sts h
    cases sts with
    | nil => simp [mtS] at h
    | cons st rest =>
      simp only [mtS, Bool.and_eq_true] at h
      obtain ⟨h1, h2⟩ := h
      split at h1
      · rename_i x j v hx
        obtain ⟨px, ap, cp, p, rfl, hl⟩ := asIns_some hx
        simp only [Bool.and_eq_true, beq_iff_eq] at h1
        exact t_ins h1.1.1.1.1.1 (hs.1 x h1.1.1.1.1.2) h1.1.1.1.2 h1.1.1.2 hl ((sa i).e j h1.1.2) ((sa e).e v h1.2) (ih rest h2)
      · cases h1
  | rot o e r ih =>
    intro sts h
    cases sts with
    | nil => simp [mtS] at h
    | cons st rest =>
      simp only [mtS, Bool.and_eq_true] at h
      obtain ⟨h1, h2⟩ := h
      split at h1
      · rename_i x v hx
        obtain ⟨px, ap, cp, px2, ap2, cp2, p, rfl, hl, hl2⟩ := asRot_some hx
        simp only [Bool.and_eq_true, beq_iff_eq] at h1
        exact t_rot h1.1.1.1 (hs.1 x h1.1.1.2) h1.1.2 hl hl2 ((sa e).e v h1.2) (ih rest h2)
      · cases h1
  | aug o e r ih =>
    intro sts h
    cases sts with
    | nil => simp [mtS] at h
    | cons st rest =>
      simp only [mtS, Bool.and_eq_true] at h
      obtain ⟨h1, h2⟩ := h
      split at h1
      · rename_i x v hx
        obtain ⟨px, p, rfl⟩ := asAug_some hx
        simp only [Bool.and_eq_true, beq_iff_eq] at h1
        exact t_aug B.nodup h1.1.1 (hs.2.2.1 x h1.1.2) ((sa e).e v h1.2) (ih rest h2)
      · cases h1
  | rse c e =>
    intro sts h
    cases sts with
    | nil => simp [mtS] at h
    | cons st rest =>
      simp only [mtS] at h
      split at h
      · rename_i x v hx
        obtain ⟨p1, p2, p3, rfl⟩ := asRse_some hx
        simp only [Bool.and_eq_true, beq_iff_eq] at h
        obtain ⟨⟨⟨rfl, h2⟩, h3⟩, h4⟩ := h
        exact t_rse B (hs.2.1 _ h2) h3 ((sa e).e v h4)
      · cases h
  | rs0 c =>
    intro sts h
    cases sts with
    | nil => simp [mtS] at h
    | cons st rest =>
      simp only [mtS] at h
      split at h
      · rename_i x hx
        obtain ⟨p1, p2, p3, rfl⟩ := asRs0_some hx
        simp only [Bool.and_eq_true, beq_iff_eq] at h
        obtain ⟨rfl, h2⟩ := h
        exact t_rs0 B (hs.2.1 _ h2)
      · cases h
  | tryr e c t o f =>
    intro sts h
    cases sts with
    | nil => simp [mtS] at h
    | cons st rest =>
      simp only [mtS] at h
      split at h
      · rename_i v c' nm t' f' hx
        obtain ⟨p4, p5, j1, p1, p2, p3, j2, p6, p7, p8, p9, rfl⟩ := asTryr_some hx
        simp only [Bool.and_eq_true, beq_iff_eq] at h
        obtain ⟨⟨⟨⟨⟨⟨⟨rfl, rfl⟩, rfl⟩, h2⟩, h3⟩, h4⟩, h5⟩, h6⟩ := h
        exact t_tryr B hs stk frm (hs.2.1 _ h2) h3 (by show X.env.scope.names.lookup _ = _; rw [hsc]; exact h4) (hs.1 _ h5) h6
      · cases h
  | spt o i e r ih =>
    intro sts h
    cases sts with
    | nil => simp [mtS] at h
    | cons st rest =>
      simp only [mtS, Bool.and_eq_true] at h
      obtain ⟨h1, h2⟩ := h
      split at h1
      · rename_i x j v hx
        obtain ⟨p1, p2, p3, rfl⟩ := asSpt_some hx
        simp only [Bool.and_eq_true, beq_iff_eq, Bool.not_eq_true'] at h1
        obtain ⟨⟨⟨⟨⟨⟨g1, g2⟩, g3⟩, g4⟩, g5⟩, g6⟩, g7⟩ := h1
        exact t_spt g1 (hs.1 x g2) g7 ((sa i).e j g5) ((sa e).e v g6) g4 (ih rest h2)
      · cases h1
  | sti o i e r ih =>
    intro sts h
    cases sts with
    | nil => simp [mtS] at h
    | cons st rest =>
      simp only [mtS, Bool.and_eq_true] at h
      obtain ⟨h1, h2⟩ := h
      split at h1
      · rename_i x j v hx
        obtain ⟨p1, p2, p3, rfl⟩ := asSpt_some hx
        simp only [Bool.and_eq_true, beq_iff_eq, Bool.not_eq_true'] at h1
        obtain ⟨⟨⟨⟨⟨g1, g2⟩, g4⟩, g5⟩, g6⟩, g7⟩ := h1
        exact t_sti (Room.u65 B.room) g1 (hs.1 x g2) g7 ((sa i).e j g5) ((sa e).e v g6) g4 (ih rest h2)
      · cases h1
  | apop o p e r ih =>
    intro sts h
    cases sts with
    | nil => simp [mtS] at h
    | cons st rest =>
      simp only [mtS, Bool.and_eq_true] at h
      obtain ⟨h1, h2⟩ := h
      split at h1
      · rename_i x y v hx
        obtain ⟨px, py, ap, ap2, cp, cp2, pp, rfl, l1, l2⟩ := asApop_some hx
        simp only [Bool.and_eq_true, beq_iff_eq] at h1
        obtain ⟨⟨⟨⟨⟨g1, g2⟩, g3⟩, g4⟩, g5⟩, g6⟩ := h1
        exact t_apop g1 (hs.1 x g2) g3 (hs.1 y g4) g5 l1 l2 ((sa e).e v g6) (ih rest h2)
      · cases h1
  | ret e =>
    intro sts h
    cases sts with
    | nil => simp [mtS] at h
    | cons st rest =>
      simp only [mtS] at h
      split at h
      · rename_i v hx
        obtain ⟨p, rfl⟩ := asRet_some hx
        exact t_ret ((sa e).e v h)
      · cases h
  | ife c a b r ia ib ih =>
    intro sts h
    cases sts with
    | nil => simp [mtS] at h
    | cons st rest =>
      simp only [mtS, Bool.and_eq_true] at h
      obtain ⟨h1, h2⟩ := h
      split at h1
      · rename_i t x y hx
        obtain ⟨p, rfl⟩ := asIfS_some hx
        simp only [Bool.and_eq_true] at h1
        exact t_if ((sa c).t t h1.1.1) (ia x h1.1.2) (ib y h1.2) (ih rest h2)
      · cases h1
  | whl f c b r ib ih =>
    intro sts h
    cases sts with
    | nil => simp [mtS] at h
    | cons st rest =>
      simp only [mtS, Bool.and_eq_true] at h
      obtain ⟨h1, h2⟩ := h
      split at h1
      · rename_i t x hx
        obtain ⟨p, rfl⟩ := asWhl_some hx
        simp only [Bool.and_eq_true] at h1
        exact t_whl hp ((sa c).t t h1.1) (ib x h1.2) (ih rest h2)
      · cases h1
  | forr tg it b r ib ih =>
    intro sts h
    cases sts with
    | nil => simp [mtS] at h
    | cons st rest =>
      simp only [mtS, Bool.and_eq_true] at h
      obtain ⟨h1, h2⟩ := h
      split at h1
      · rename_i t i x hx
        obtain ⟨p, rfl⟩ := asFor_some hx
        simp only [Bool.and_eq_true] at h1
        exact t_for B hs hp h1.1.1 ((sa it).w true t i h1.1.2) (mtW_plain h1.1.2) (ib x h1.2) (ih rest h2)
      · cases h1
  | brk =>
    intro sts h
    cases sts with
    | nil => simp [mtS] at h
    | cons st rest =>
      simp only [mtS] at h
      cases st <;> first | exact t_brk | cases h
  | cnt =>
    intro sts h
    cases sts with
    | nil => simp [mtS] at h
    | cons st rest =>
      simp only [mtS] at h
      cases st <;> first | exact t_cnt | cases h
  | _ => intro sts h; simp [mtS] at h
/-- a def's body: a try around it, or none -/
def mtD (N : List Str) (sc : Scope) (s : S) (sts : List Stmt) : Bool := match s with
  | .tryx b cb o ct => match sts with
    | st :: _ => (match asTryx st with
      | some (body, cb', nm, ct') => cb' == cb && ct' == ct && glB sc cb && glB sc ct && glB sc "isinstance" && N[o]? == some nm && (sc.names.lookup nm == some .local) && visB sc nm && mtS N sc b body
      | none => false)
    | [] => false
  | s => mtS N sc s sts
theorem soundD (B : Bd X CX k xc EK tb) (hs : ScOk X sc) (hsc : X.env.scope = sc) (stk : X.stack = X.env :: X.outer) (frm : X.env.frame = some X.env.locals) (hp : PassesOwn (model X.prog X.w) X.A X.env X.xe) (s : S) (sts : List Stmt) (h : mtD X.N sc s sts = true) : okS X xc EK tb sp F0 H0 sts s := by
  unfold mtD at h
  split at h
  · rename_i b cb o ct
    cases sts with
    | nil => cases h
    | cons st rest =>
      dsimp only at h
      split at h
      · rename_i body cb' nm ct' hx
        obtain ⟨p1, p2, p3, p4, p5, p6, p7, p8, rfl⟩ := asTryx_some hx
        simp only [Bool.and_eq_true, beq_iff_eq] at h
        obtain ⟨⟨⟨⟨⟨⟨⟨⟨rfl, rfl⟩, h2⟩, h3⟩, h4⟩, h5⟩, h6⟩, h7⟩, h8⟩ := h
        exact t_tryx B stk frm (hs.2.1 _ h2) (hs.2.1 _ h3) (hs.2.1 _ h4).1 h5 (by show X.env.scope.names.lookup _ = _; rw [hsc]; exact h6) (hs.1 _ h7)
          fun W pn xe tk ps => soundS (X := X.tr pn xe) (B.try tk) hs hsc stk frm ps b body h8
      · cases h
  · exact soundS B hs hsc stk frm hp s sts h
end
end Lk
end
section
set_option linter.all false
set_option maxRecDepth 100000
set_option maxHeartbeats 4000000
/-! A def keeps what its term tells. -/
namespace Lk
open PySem PySem.Spec PyProof.Rows L2
/-- an own class as what is called: with one field, with none -/
def fnX (c f : Str) : Fn := ⟨[f], none, fun ds n => match ds with
  | [d] => some (.ok (exD c f d) n)
  | _ => none⟩
def fn0 (c : Str) : Fn := ⟨[], none, fun _ n => some (.ok (exD0 c) n)⟩
/-- what the names outside stand for; the defs' promises at level k -/
structure TbOk (P : Program) (w : World) (K : KF) (mg : Str → Option Value) (base : Heap) (k : Nat) (xc : XC) (tb : Tb) : Prop where
  blt : ∀ b, biHave b = true → mg (biName b) = none
  isi : mg "isinstance" = none
  rng : mg "range" = none
  zip : mg "zip" = none
  enm : mg "enumerate" = none
  tys : ∀ t ∈ five, mg t = none
  fns : ∀ x fn, tb.fn x = some fn → (∃ f fd, FnOk P w K mg base (L2.CX P w) k f fd fn.ps (spF w K xc fn) ∧ mg x = some (.ref f) ∧ PySem.W.keepIn K (.ref f) = true ∧ Binds K fd fn.ps [] ∧
    (∀ (s : Shared) (ws : List Value), K.In s.heap → ws.length = fn.ps.length → BindsTo s fd ⟨[], fn.ps.zip ws⟩ (fn.ps.zip ws))) ∨ (∃ f, tb.cl x = some f ∧ fn = fnX x f) ∨ (tb.c0 x = true ∧ fn = fn0 x)
  gls : ∀ x d, tb.gl x = some d → ∃ u v, mg x = some u ∧ RelV v u ∧ Rp w K (fun _ => none) v d
  own : OwnAt P w K mg base k xc tb
theorem upd_swap {H : Hp} {a dx : Addr} {u v z : HO} (h : dx ≠ a) : upd (upd (upd H a u) dx v) a z = upd (upd H dx v) a z := by
  funext b
  by_cases e : b = a
  · rw [e, upd_same, upd_same]
  · rw [upd_ne e, upd_ne e]
    by_cases e2 : b = dx
    · rw [e2, upd_same, upd_same]
    · rw [upd_ne e2, upd_ne e2, upd_ne e]
/-- a new exception with a field -/
theorem newX {w : World} {K : KF} {sp : Option Addr} {F H : Hp} {n : Int} {a dx : Addr} {c f : Str} {v : V} {d : D} (ok : Ok sp F H n) (ha : H a = none) (hd : H dx = none) (hne : dx ≠ a) (r : Rp w K F v d) :
    ∃ F', Ext sp F H F' (upd (upd H dx (exd dx [(f, v)])) a (exo a (He.ga K c) (some dx))) ∧ Ok sp F' (upd (upd H dx (exd dx [(f, v)])) a (exo a (He.ga K c) (some dx))) n ∧ Rp w K F' (.ref a) (exD c f d) := by
  have ha1 : upd H dx (exd dx [(f, v)]) a = none := by rw [upd_ne (Ne.symm hne)]; exact ha
  have e1 := Ext.imm (sp := sp) (o := exd dx [(f, v)]) hd (ok.fne hd)
  have k1 := ok.imm (o := exd dx [(f, v)]) hd rfl
  have e2 := Ext.imm (sp := sp) (o := exo a (He.ga K c) (some dx)) ha1 (k1.fne ha1)
  have k2 := k1.imm (o := exo a (He.ga K c) (some dx)) ha1 rfl
  exact ⟨_, e1.trans e2, k2, .exo (.inl upd_same) (.inl (by rw [upd_ne hne]; exact upd_same)) (r.mono (e1.sub.trans e2.sub))⟩
theorem callsX {P : Program} {w : World} {K : KF} {mg : Str → Option Value} {base : Heap} {k : Nat} {xc : XC} {c f : Str} {C : Addr} (h2 : 2 ≤ k) (O : OwnX P w K mg base c f C) : CallsAs P w K mg base (L2.CX P w) k C [f] (spF w K xc (fnX c f)) := by
  obtain ⟨fI, fd, Fi, iC, tI, hb, hk⟩ := O.init
  have fin : ∀ {H : Hp} {Q : VK} {E : XK} {vs : List V}, spF w K xc (fnX c f) vs H Q E → ∃ v, vs = [v] ∧ ∀ a, H a = none → spI C f [.ref a, v] (upd H a (exo a C none)) (fun v H2 => v = .non ∧ Q (.ref a) H2) E := fun {H Q E vs} h => by
    obtain ⟨hl, sp, F, n, ds, ro, hpos, ok, args, hsem, wish⟩ := h
    cases args with
    | nil => cases hl
    | sp hp _ _ => cases hp
    | @dat _ v d vs ds _ rp t =>
      cases t with
      | dat _ _ _ => simp [fnX] at hl
      | sp hp _ _ => cases hp
      | nil =>
        cases hsem
        refine ⟨v, rfl, fun a ha => ⟨a, v, rfl, upd_same, fun dx hdx hne => ⟨rfl, ?_⟩⟩⟩
        rw [upd_ne hne] at hdx
        have hC := O.ga
        subst hC
        obtain ⟨F', e, k, r⟩ := newX (c := c) (f := f) ok ha hdx hne rp
        rw [upd_swap hne]
        exact wish _ F' _ e k r
  have one : ∀ {vs : List V} {v : V} {us : List Value}, vs = [v] → Vals vs us → ∃ u, us = [u] := fun e r => by
    subst e
    cases r with
    | cons r1 r2 => cases r2; exact ⟨_, rfl⟩
  refine ⟨fun vs H Q E h => h.1, fun {X pins σ H s Q E us vs} a hr hx I r h => ?_, fun {X pins σ H s Q E us vs} a hr hx I r h => ?_⟩
  · obtain ⟨rfl, rfl, rfl, rfl, rfl⟩ := a
    obtain ⟨v, rfl, g⟩ := fin h
    obtain ⟨u, rfl⟩ := one rfl r
    exact Lx.run_mk O.cls.q1 iC tI Fi (hr.mono h2) hx (fun s self hs => hb s [self, u] hs rfl) I r (by show 1 ≤ sizeLine; rw [sizeLine_eq]; decide) g
  · obtain ⟨rfl, rfl, rfl, rfl, rfl⟩ := a
    obtain ⟨v, rfl, g⟩ := fin h
    obtain ⟨u, rfl⟩ := one rfl r
    exact Lx.run_mk (us := []) (kw := [(f, u)]) (ws := [u]) (vs := [v]) O.cls.q1 iC tI Fi (hr.mono h2) hx (fun s self hs => hk s self u hs) I r (Nat.zero_le _) g
theorem calls0 {P : Program} {w : World} {K : KF} {mg : Str → Option Value} {base : Heap} {k : Nat} {xc : XC} {c : Str} {C : Addr} (h2 : 2 ≤ k) (O : OwnX0 P w K mg base c C) : CallsAs P w K mg base (L2.CX P w) k C [] (spF w K xc (fn0 c)) := by
  obtain ⟨fI, fd, Fi, iC, tI, hb⟩ := O.init
  have fin : ∀ {H : Hp} {Q : VK} {E : XK} {vs : List V}, spF w K xc (fn0 c) vs H Q E → vs = [] ∧ ∀ a, H a = none → spI0 C [.ref a] (upd H a (exo a C none)) (fun v H2 => v = .non ∧ Q (.ref a) H2) E := fun {H Q E vs} h => by
    obtain ⟨hl, sp, F, n, ds, ro, hpos, ok, args, hsem, wish⟩ := h
    cases args with
    | dat _ _ _ => simp [fn0] at hl
    | sp hp _ _ => cases hp
    | nil =>
      cases hsem
      refine ⟨rfl, fun a ha => ⟨a, rfl, upd_same, rfl, ?_⟩⟩
      have hC := O.ga
      subst hC
      exact wish _ _ _ (Ext.imm ha (ok.fne ha)) (ok.imm ha rfl) (.exn (.inl upd_same))
  have run : ∀ {X : Cx} {pins : List (Addr × Obj)} {σ : L2.St} {H : Hp} {s : Shared} {Q : VK} {E : XK} {us : List Value} {vs : List V}, At X P w K mg base → Room k X.A → Passes (L2.CX P w) X E → Inv X pins σ H s → Vals vs us → spF w K xc (fn0 c) vs H Q E → us = [] ∧ wpAny (model X.prog X.w) X.A (call (.ref C) [] []) (EP X pins σ Q) X.xe s := fun {X pins σ H s Q E us vs} a hr hx I r h => by
    obtain ⟨rfl, rfl, rfl, rfl, rfl⟩ := a
    obtain ⟨rfl, g⟩ := fin h
    cases r
    exact ⟨rfl, Lx.run_mk (us := []) (kw := []) (ws := []) (vs := []) O.q1 iC tI Fi (hr.mono h2) hx (fun s self hs => hb s [self] hs rfl) I .nil (Nat.zero_le _) g⟩
  refine ⟨fun vs H Q E h => h.1, fun {X pins σ H s Q E us vs} a hr hx I r h => ?_, fun {X pins σ H s Q E us vs} a hr hx I r h => ?_⟩
  · obtain ⟨rfl, z⟩ := run a hr hx I r h
    exact z
  · obtain ⟨rfl, z⟩ := run a hr hx I r h
    exact z
theorem TbOk.fok {P : Program} {w : World} {K : KF} {mg : Str → Option Value} {base : Heap} {k : Nat} {xc : XC} {tb : Tb} (T : TbOk P w K mg base k xc tb) {x : Str} {fn : Fn} (e : tb.fn x = some fn) :
    ∃ f, CallsAs P w K mg base (L2.CX P w) k f fn.ps (spF w K xc fn) ∧ mg x = some (.ref f) ∧ PySem.W.keepIn K (.ref f) = true := by
  rcases T.fns x fn e with ⟨f, fd, h1, h2, h3, h4, h5⟩ | ⟨f, hc, rfl⟩ | ⟨hc, rfl⟩
  · exact ⟨f, .def h1 h4 h5, h2, h3⟩
  · obtain ⟨h2, C, O, _⟩ := T.own.ex x f hc
    exact ⟨C, callsX h2 O, O.at_, O.cls.kC⟩
  · obtain ⟨h2, C, O, _⟩ := T.own.ex0 x hc
    exact ⟨C, calls0 h2 O, O.at_, O.kC⟩
section
variable {w : World} {K : KF} {sp : Option Addr} {F H : Hp} {pos : Option Nat}
theorem argR_entry : ∀ {j : Nat} {vs : List V} {ds : List Lk.D} {i : Nat} {b : B}, ArgR w K sp F pos j vs ds → (entry pos j ds)[i]? = some (some b) → ∃ v, vs[i]? = some v ∧ BRel w K sp F H v b []
  | _, _, _, i, b, .nil, h => by simp [entry] at h
  | j, _, _, 0, b, .dat hp r _, h => by
    simp only [entry, if_neg hp, List.getElem?_cons_zero, Option.some.injEq] at h
    subst h
    exact ⟨_, rfl, .im r⟩
  | j, _, _, 0, b, .sp hp hs _, h => by
    simp only [entry, if_pos hp, List.getElem?_cons_zero, Option.some.injEq] at h
    subst h
    exact ⟨_, rfl, .sp hs⟩
  | j, _, _, i + 1, b, .dat _ _ t, h => by
    rw [entry, List.getElem?_cons_succ] at h
    obtain ⟨v, h1, h2⟩ := argR_entry t h
    exact ⟨v, by rw [List.getElem?_cons_succ]; exact h1, h2⟩
  | j, _, _, i + 1, b, .sp _ _ t, h => by
    rw [entry, List.getElem?_cons_succ] at h
    obtain ⟨v, h1, h2⟩ := argR_entry t h
    exact ⟨v, by rw [List.getElem?_cons_succ]; exact h1, h2⟩
theorem entry_length : ∀ {j : Nat} {ds : List Lk.D}, (entry pos j ds).length = ds.length
  | _, [] => rfl
  | j, d :: ds => by rw [entry, List.length_cons, List.length_cons, entry_length]
theorem env_start {N : List Str} {vs : List V} {ds : List Lk.D} (a : ArgR w K sp F pos 0 vs ds) : EnvRel w K sp F H (entry pos 0 ds ++ List.replicate (N.length - ds.length) none) (L2.start N vs) (fun _ => []) where
  len := by
    unfold L2.start
    rw [List.length_append, List.length_append, List.length_map, entry_length, a.length, List.length_replicate, List.length_replicate]
  rel := fun i b h => by
    by_cases hi : i < (entry pos 0 ds).length
    · rw [List.getElem?_append_left hi] at h
      obtain ⟨v, h1, h2⟩ := argR_entry (H := H) a h
      refine ⟨v, ?_, h2⟩
      unfold L2.start
      rw [entry_length, ← a.length] at hi
      rw [List.getElem?_append_left (by simpa using hi), List.getElem?_map, h1]
      rfl
    · rw [List.getElem?_append_right (by omega), List.getElem?_replicate] at h
      split at h <;> cases h
  out := fun i a z => nomatch z
  dis := fun i j _ a z => nomatch z
end
/-- the term's answer -/
def fnT (tb : Tb) (body : S) (ps : List Str) (pos : Option Nat) (size : Nat) : Fn := ⟨ps, pos, runD tb body pos size⟩
theorem fn_run {P : Program} {w : World} {K : KF} {mg : Str → Option Value} {base : Heap} {k : Nat} {xc : XC} {tb : Tb} {x qual : Str} {st : Stmt} {f : Addr} {fd : FuncData} {N ps : List Str} {body : S} {pos : Option Nat}
    (T : TbOk P w K mg base k xc tb) (Fu : Fun K x qual st f fd) (S : FnScope N ps (defScope st)) (hm : mtD N (defScope st) body (defBody st) = true) :
    FnOk P w K mg base (L2.CX P w) (k + 1) f fd ps (spF w K xc (fnT tb body ps pos N.length)) := by
  refine Fu.okX S (fun vs H Q E h => h.1) fun cdv A outer s H vs Q E hr hsp => ?_
  obtain ⟨hl, sp, F, n, ds, ro, hpos, ok, args, hsem, wish⟩ := hsp
  have bd : Bd (cxOf (L2.CX P w) P w K mg base N qual (defScope st) f cdv A outer s H E) (L2.CX P w) k xc E tb :=
    { cx := rfl, nodup := S.nd, calm := rfl, pass := passes_call (takes_of rfl rfl rfl rfl) (fun _ _ _ _ h => h), room := hr, blt := T.blt, isi := T.isi, rng := T.rng, zip := T.zip, enm := T.enm, tys := T.tys, fns := fun x fn e => ⟨T.fok e⟩, gls := T.gls, tk := takes_of rfl rfl rfl rfl, own := T.own }
  have sc : ScOk (cxOf (L2.CX P w) P w K mg base N qual (defScope st) f cdv A outer s H E) (defScope st) := by
    refine ⟨fun x hx => ?_, fun x hx => ?_, fun x hx => ?_, fun x hx => hx⟩
    · obtain ⟨h1, h2⟩ := vis_of hx
      exact ⟨h1, h2⟩
    · unfold glB at hx
      rw [Bool.and_eq_true, Bool.and_eq_true, Bool.not_eq_true', Bool.not_eq_true', beq_iff_eq] at hx
      refine ⟨hx.1.1, hx.1.2, fun z => ?_⟩
      subst z
      exact absurd hx.2 (by decide)
    · unfold locB at hx
      split at hx
      · rename_i e; exact ⟨.inl e, .inl rfl⟩
      · rename_i e; exact ⟨.inr e, .inl rfl⟩
      · cases hx
  have so := soundD (sp := sp) (F0 := F) (H0 := H) bd sc rfl rfl rfl (passes_of rfl) body (defBody st) hm
  refine ⟨_, pss_wp, ?_⟩
  have stt : Stt w K sp F H F (entry pos 0 ds ++ List.replicate (N.length - ds.length) none) (L2.start N vs) F H n := ⟨⟨_, env_start args, fun i a z => nomatch z⟩, ok, Ext.refl sp F H, Sub.refl F⟩
  have hrun : runD tb body pos N.length ds n = some ro := hsem
  unfold runD at hrun
  split at hrun
  · rename_i d n' he
    cases hrun
    exact so stt he wish
  · rename_i E' n' he
    cases hrun
    exact so stt he fun σ' F' H' st' => wish .non F' H' st'.ext st'.ok .non
  · rename_i c d n' he
    cases hrun
    exact so stt he wish
  · cases hrun
end Lk
end
section
set_option linter.all false
set_option maxRecDepth 100000
set_option maxHeartbeats 4000000
/-! The law itself: it makes the moving place. -/
namespace Lk
open PySem PySem.Spec PyProof.Rows L2
def asMksp : Stmt → Option Str
  | .Assign [.Name x _] (.List [.Constant (.int 0) _ _] _) _ => some x
  | _ => none
theorem asMksp_some {st : Stmt} {x : Str} (h : asMksp st = some x) : ∃ p1 j p2 p3 p4, st = .Assign [.Name x p1] (.List [.Constant (.int 0) j p2] p3) p4 := by
  unfold asMksp at h
  split at h
  · cases h; exact ⟨_, _, _, _, _, rfl⟩
  · cases h
/-- straight statements, then the moving place is made -/
def mtTop (N : List Str) (sc : Scope) : S → List Stmt → Bool
  | .asg tg e r, sts => match sts with
    | st :: rest => (match asAssign st with
      | some (t, v) => mtG N sc tg t && mtE N e sc v && !(isTupE t && isTupE v) && !isSdE v
      | none => false) && mtTop N sc r rest
    | [] => false
  | .mksp o r, sts => match sts with
    | st :: rest => (match asMksp st with
      | some x => N[o]? == some x && locB sc x
      | none => false) && mtS N sc r rest
    | [] => false
  | s, sts => mtS N sc s sts
section
variable {X : Cx} {CX : CXT} {k : Nat} {xc : XC} {EK : XK} {tb : Tb} {F0 H0 : Hp} {sc : Scope}
theorem t_mksp {o : Nat} {x : Str} {r : List Stmt} {sr : S} {j : Nat} {p1 p2 p3 p4 : Pos} (B : Bd X CX k xc EK tb) (hN : X.N[o]? = some x) (hl : LocOk X x) (hr : ∀ a, okS X xc EK tb (some a) F0 H0 r sr) :
    okS X xc EK tb none F0 H0 (.Assign [.Name x p1] (.List [.Constant (.int 0) j p2] p3) p4 :: r) (.mksp o sr) := by
  intro G E σ F H n so D st h ws
  simp only [evS, Option.bind_eq_some_iff] at h
  obtain ⟨E1, h1, h2⟩ := h
  obtain ⟨hlt, rfl⟩ := setN_eq h1
  have h2 : evS tb sr (E.set o (some .sp)) 0 = some so ∧ ((∃ d n, so = .rt d n) ∨ ∃ c d n, so = .ex c d n) := by
    cases hq : evS tb sr (E.set o (some .sp)) 0 with
    | none => rw [hq] at h2; cases h2
    | some q =>
      rw [hq] at h2
      cases q with
      | rt d n => cases h2; exact ⟨rfl, .inl ⟨_, _, rfl⟩⟩
      | ex c d n => cases h2; exact ⟨rfl, .inr ⟨_, _, _, rfl⟩⟩
      | _ => cases h2
  obtain ⟨h2, hk⟩ := h2
  refine wpSs_of (pss_cons (ps_asg (pe_lst (pa_cons pe_int pa_nil)) (pg_name B.nodup hN hl.1 hl.2)) pss_wp) ⟨by show 1 ≤ sizeLine; rw [sizeLine_eq]; decide, fun a ha => ?_⟩
  obtain ⟨⟨fp, env, hf⟩, ok, ext, sg⟩ := st
  have hF := ok.fne ha
  have h0 : H0 a = none := ext.fresh ha
  have e1 : Ext none F H F (upd H a (.lst [.int 0])) := Ext.new ha
  have k1 : Ok none F (upd H a (.lst [.int 0])) 0 := (ok.new ha rfl (fun _ z => by cases z)).noSp 0
  have k2 : Ok (some a) F (upd H a (.lst [.int 0])) 0 := ⟨k1.sub, k1.tup, k1.tupf, fun b e => by cases e; exact ⟨upd_same, hF⟩⟩
  have ext2 : Ext (some a) F0 H0 F (upd H a (.lst [.int 0])) := (ext.trans e1).wider
  -- back to a state without a moving place
  have back : ∀ {F' H' : Hp}, Ext (some a) F0 H0 F' H' → Ext none F0 H0 F' H' := fun e => ⟨e.sub, fun b ob _ hb => e.keep b ob (fun z => by cases z; rw [h0] at hb; cases hb) hb, e.own, e.there⟩
  have env1 := env.ext e1
  have env2 : EnvRel X.w X.K (some a) F (upd H a (.lst [.int 0])) (E.set o (some .sp)) (σ.set o (some (.ref a))) (fun i => if i = o then [] else fp i) := by
    have base : EnvRel X.w X.K (some a) F (upd H a (.lst [.int 0])) E σ fp := {
      len := env1.len
      rel := fun i b hb => by
        obtain ⟨v, hv, rb⟩ := env1.rel i b hb
        refine ⟨v, hv, ?_⟩
        generalize fp i = A at rb
        cases rb with
        | im r => exact .im r
        | mu r nd => exact .mu r nd
        | sp z => cases z
      out := fun i b hb => by
        obtain ⟨q1, q2, _⟩ := env1.out i b hb
        refine ⟨q1, q2, fun z => ?_⟩
        cases z
        exact (env.out i a hb).2.1 ha
      dis := env1.dis }
    exact base.set hlt (.sp rfl) (fun b z => nomatch z) (fun i _ b z => nomatch z)
  refine hr a ⟨⟨_, env2, fun i b hb => ?_⟩, k2, ext2, sg⟩ h2 ?_
  · have hb : b ∈ (if i = o then [] else fp i) := hb
    by_cases z : i = o
    · rw [if_pos z] at hb; cases hb
    · rw [if_neg z] at hb; exact hf i b hb
  · rcases hk with ⟨d, n', rfl⟩ | ⟨c, d, n', rfl⟩
    · exact fun v F' H' e k' rp => ws v F' H' (back e) (k'.noSp n') rp
    · exact fun e od F' H' ee k' x => ws e od F' H' (back ee) (k'.noSp n') x
theorem soundTop (B : Bd X CX k xc EK tb) (hs : ScOk X sc) (hsc : X.env.scope = sc) (stk : X.stack = X.env :: X.outer) (frm : X.env.frame = some X.env.locals) (hp : PassesOwn (model X.prog X.w) X.A X.env X.xe) : ∀ (s : S) (sts : List Stmt), mtTop X.N sc s sts = true → okS X xc EK tb none F0 H0 sts s := by
  intro s
  induction s with
  | asg tg e r ih =>
    intro sts h
    cases sts with
    | nil => simp [mtTop] at h
    | cons st rest =>
      simp only [mtTop, Bool.and_eq_true] at h
      obtain ⟨h1, h2⟩ := h
      split at h1
      · rename_i t v hx
        obtain ⟨p, rfl⟩ := asAssign_some hx
        simp only [Bool.and_eq_true, Bool.not_eq_true'] at h1
        exact t_assign B hs h1.1.1.1 h1.1.1.2 h1.1.2 h1.2 (ih rest h2)
      · cases h1
  | mksp o r _ =>
    intro sts h
    cases sts with
    | nil => simp [mtTop] at h
    | cons st rest =>
      simp only [mtTop, Bool.and_eq_true] at h
      obtain ⟨h1, h2⟩ := h
      split at h1
      · rename_i x hx
        obtain ⟨p1, j, p2, p3, p4, rfl⟩ := asMksp_some hx
        simp only [Bool.and_eq_true, beq_iff_eq] at h1
        exact t_mksp B h1.1 (hs.2.2.1 x h1.2) fun a => soundS B hs hsc stk frm hp r rest h2
      · cases h1
  | _ => exact fun sts h => soundS B hs hsc stk frm hp _ sts h
end
end Lk
end
section
set_option linter.all false
set_option maxRecDepth 100000
set_option maxHeartbeats 4000000
/-! The defs of a text at all depths; the law's end over facts by names. -/
namespace Lk
open PySem PySem.Spec PyProof.Rows L2
/-- a def of the text: its name, statement, names, parameters, term, moving place -/
structure DefI where
  name : Str
  st : Stmt
  N : List Str
  ps : List Str
  body : S
  pos : Option Nat
/-- the own exception classes: those that keep one field; those that keep none; which is one of which -/
structure CT where
  f : Str → Option Str := fun _ => none
  z : Str → Bool := fun _ => false
  i : Str → Str → Option Bool := fun _ _ => none
def clAt (cl : Str → Option Str) : Nat → Str → Option Str
  | 0 => fun _ => none
  | 1 => fun _ => none
  | _ + 2 => cl
def czAt (z : Str → Bool) : Nat → Str → Bool
  | 0 => fun _ => false
  | 1 => fun _ => false
  | _ + 2 => z
/-- a class as what is called -/
def clsFn (cl : CT) (k : Nat) (x : Str) : Option Fn := match clAt cl.f k x with
  | some f => some (fnX x f)
  | none => if czAt cl.z k x then some (fn0 x) else none
def tblC (ds : List DefI) (gl : Str → Option D) (cl : CT) : Nat → Tb
  | 0 => ⟨fun _ => none, gl, clAt cl.f 0, czAt cl.z 0, cl.i⟩
  | k + 1 => ⟨fun x => match ds.find? fun d => d.name == x with
    | some d => some (fnT (tblC ds gl cl k) d.body d.ps d.pos d.N.length)
    | none => clsFn cl (k + 1) x, gl, clAt cl.f (k + 1), czAt cl.z (k + 1), cl.i⟩
/-- where a def stands, and how it binds -/
def StandsAt (K : KF) (mg : Str → Option Value) (d : DefI) : Prop := ∃ f fd, Fun K d.name d.name d.st f fd ∧ mg d.name = some (.ref f) ∧ PySem.W.keepIn K (.ref f) = true ∧ Binds K fd d.ps [] ∧
  ∀ (s : Shared) (ws : List Value), K.In s.heap → ws.length = d.ps.length → BindsTo s fd ⟨[], d.ps.zip ws⟩ (d.ps.zip ws)
structure Outside (K : KF) (mg : Str → Option Value) (w : World) (ds : List DefI) (gl : Str → Option D) (cl : CT) : Prop where
  blt : ∀ b, biHave b = true → mg (biName b) = none
  isi : mg "isinstance" = none
  rng : mg "range" = none
  zip : mg "zip" = none
  enm : mg "enumerate" = none
  tys : ∀ t ∈ five, mg t = none
  defs : ∀ d ∈ ds, StandsAt K mg d
  gls : ∀ x d, gl x = some d → ∃ u v, mg x = some u ∧ RelV v u ∧ Rp w K (fun _ => none) v d
  own : ∀ c f, cl.f c = some f → ∃ C, ∀ (P : Program) (base : Heap), OwnX P w K mg base c f C
  own0 : ∀ c, cl.z c = true → cl.f c = none ∧ ∃ C, ∀ (P : Program) (base : Heap), OwnX0 P w K mg base c C
  ixo : ∀ c t b, cl.i c t = some b → IxOk K mg c t b ∧ mg c = some (.ref (He.ga K c))
theorem xc_ix {w : World} {K : KF} {mg : Str → Option Value} {cl : CT} {c : Str} (h : mg c = some (.ref (He.ga K c))) (d : D) (e : Value) (od : Option Addr) (F H : Hp) (x : xcOf w K mg cl.f cl.z c d e od F H) : e = .ref (He.ga K c) ∧ (od = none ∨ ∃ dx fs, od = some dx ∧ H dx = some (.xd fs)) := by
  rcases x with ⟨f, C, h1, h2, rfl, dx, v, rfl, h3, _⟩ | ⟨_, _, C, h2, rfl, rfl, _⟩
  · rw [h] at h2; cases h2
    exact ⟨rfl, .inr ⟨dx, _, rfl, h3⟩⟩
  · rw [h] at h2; cases h2
    exact ⟨rfl, .inl rfl⟩
theorem Outside.ownAt {P : Program} {base : Heap} {K : KF} {mg : Str → Option Value} {w : World} {ds : List DefI} {gl : Str → Option D} {cl : CT} (o : Outside K mg w ds gl cl) {tb : Tb} (hi : tb.ix = cl.i) : ∀ k, tb.cl = clAt cl.f k → tb.c0 = czAt cl.z k → OwnAt P w K mg base k (xcOf w K mg cl.f cl.z) tb
  | 0, h1, h2 => ⟨fun c f e => (by rw [h1] at e; cases e), fun c e => (by rw [h2] at e; cases e), fun c t b e => (by rw [hi] at e; exact ⟨(o.ixo c t b e).1, xc_ix (o.ixo c t b e).2⟩)⟩
  | 1, h1, h2 => ⟨fun c f e => (by rw [h1] at e; cases e), fun c e => (by rw [h2] at e; cases e), fun c t b e => (by rw [hi] at e; exact ⟨(o.ixo c t b e).1, xc_ix (o.ixo c t b e).2⟩)⟩
  | k + 2, h1, h2 => ⟨fun c f e => (by
      rw [h1] at e
      have e : cl.f c = some f := e
      obtain ⟨C, h⟩ := o.own c f e
      refine ⟨by omega, C, h P base, fun d ev od F H => ⟨fun x => ?_, fun x => .inl ⟨f, C, e, (h P base).at_, x⟩⟩⟩
      rcases x with ⟨f', C', h1, h2, x⟩ | ⟨h1, _⟩
      · rw [e] at h1; cases h1
        rw [(h P base).at_] at h2; cases h2
        exact x
      · rw [e] at h1; cases h1), fun c e => (by
      rw [h2] at e
      have e : cl.z c = true := e
      obtain ⟨n, C, h⟩ := o.own0 c e
      refine ⟨by omega, C, h P base, fun d ev od F H => ⟨fun x => ?_, fun x => .inr ⟨n, e, C, (h P base).at_, x⟩⟩⟩
      rcases x with ⟨f', C', h1, h2, x⟩ | ⟨_, _, C', h2, x⟩
      · rw [n] at h1; cases h1
      · rw [(h P base).at_] at h2; cases h2
        exact x), fun c t b e => (by rw [hi] at e; exact ⟨(o.ixo c t b e).1, xc_ix (o.ixo c t b e).2⟩)⟩
def DefI.good (d : DefI) : Prop := FnScope d.N d.ps (defScope d.st) ∧ mtD d.N (defScope d.st) d.body (defBody d.st) = true
theorem tbl_ok {P : Program} {w : World} {K : KF} {mg : Str → Option Value} {base : Heap} {ds : List DefI} {gl : Str → Option D} {cl : CT} (o : Outside K mg w ds gl cl) (g : ∀ d ∈ ds, d.good) : ∀ k, TbOk P w K mg base k (xcOf w K mg cl.f cl.z) (tblC ds gl cl k)
  | 0 => ⟨o.blt, o.isi, o.rng, o.zip, o.enm, o.tys, fun x fn e => (by simp [tblC] at e), o.gls, o.ownAt (tb := tblC ds gl cl 0) rfl 0 rfl rfl⟩
  | k + 1 => ⟨o.blt, o.isi, o.rng, o.zip, o.enm, o.tys, fun x fn e => (by
      simp only [tblC] at e
      split at e
      · rename_i d hd
        cases e
        have hm := List.mem_of_find?_eq_some hd
        have hx : d.name = x := by
          have := List.find?_some hd
          exact eq_of_beq this
        subst hx
        obtain ⟨f, fd, h1, h2, h3, h4, h5⟩ := o.defs d hm
        exact .inl ⟨f, fd, fn_run (tbl_ok o g k) h1 (g d hm).1 (g d hm).2, h2, h3, h4, h5⟩
      · unfold clsFn at e
        split at e
        · rename_i f hf
          cases e
          exact .inr (.inl ⟨f, hf, rfl⟩)
        · split at e
          · rename_i hz
            cases e
            exact .inr (.inr ⟨hz, rfl⟩)
          · cases e), o.gls, o.ownAt (tb := tblC ds gl cl (k + 1)) rfl (k + 1) rfl rfl⟩
theorem fun_of {K : KF} {x q : Str} {st : Stmt} {f : Addr} {fd : FuncData} (h : FunD K x q (defArgs st) (defBody st) (defScope st) [] [] f fd) : Fun K x q st f fd := by
  obtain ⟨oc, od, dV, kV, doc, pm, an, cdv, ct, osl, e1, e2, e3, e4, _⟩ := h.ex
  rcases e4 with ⟨_, e5⟩ | ⟨e5, _⟩
  · subst e5
    exact ⟨⟨oc, od, kV, doc, pm, an, cdv, ct, osl, e1, e2, e3⟩, h.kp⟩
  · exact absurd rfl e5
/-- what the head tells of a def -/
def DefI.dd (d : DefI) : He.DefD := ⟨(d.name, none), d.name, d.name, defArgs d.st, defBody d.st, defScope d.st, [], []⟩
/-- how it binds: to be seen of the text -/
def DefI.binds (d : DefI) : Prop := ∀ (kV doc pm : Value) (an : Option Addr) (cdv ct : Value) (us : List Value), us.length = d.ps.length →
  bindArgs (PySem.W.fnOf d.name d.name (defArgs d.st) (defBody d.st) (defScope d.st) .none kV doc pm an cdv ct) ⟨us, []⟩ = pure (d.ps.zip us) ∧
  bindArgs (PySem.W.fnOf d.name d.name (defArgs d.st) (defBody d.st) (defScope d.st) .none kV doc pm an cdv ct) ⟨[], d.ps.zip us⟩ = pure (d.ps.zip us)
/-! ### classes -/
/-- an own class over an own class over Exception, its __init__ keeps one field: its name, the field, __init__'s text -/
structure ClsI where
  name : Str
  field : Str
  st : Stmt
/-- a class's first statement -/
def clsInit : Stmt → Stmt
  | .ClassDef _ _ _ (s :: _) _ _ _ _ _ _ _ => s
  | s => s
def ClsI.dd (c : ClsI) (q : Str) : He.DefD := ⟨(c.name, some "__init__"), "__init__", q, defArgs c.st, defBody c.st, defScope c.st, [], []⟩
def exB (K : KF) (C : Addr) (f : Str) : Bool := PySem.W.excInitIn K C Lx.eB "Exception.__new__" && PySem.W.excOver K C Lx.eB && decide (PySem.W.takerIn K C f = some none) && decide (PySem.W.findIn K (.ref C) f = some none) &&
  decide (PySem.W.findIn K (.ref C) "__setattr__" = some (some (.builtin "object.__setattr__"))) && xfB K C && decide (PySem.W.typeIn K (.ref C) = some (.type "type")) && PySem.W.keepIn K (.ref C) && decide (PySem.W.exmOne K (.ref C) (.ref C) = some true)
theorem exB_ok {K : KF} {C : Addr} {f : Str} (h : exB K C f = true) : Lx.ExC K C f := by
  unfold exB at h
  simp only [Bool.and_eq_true, decide_eq_true_eq] at h
  obtain ⟨⟨⟨⟨⟨⟨⟨⟨h1, h2⟩, h3⟩, h4⟩, h5⟩, h6⟩, h7⟩, h8⟩, h9⟩ := h
  exact ⟨h1, h2, h3, h4, h5, xfB_ok h6, h7, h8, h9⟩
/-- what the written part says of a class that keeps nothing; of one whose instances are asked for their class -/
def ex0B (K : KF) (C : Addr) : Bool := PySem.W.excInitIn K C Lx.eB "Exception.__new__" && decide (PySem.W.subIn K (.ref C) (.type "BaseException") = some true) && decide (PySem.W.typeIn K (.ref C) = some (.type "type")) && PySem.W.keepIn K (.ref C)
def excB (K : KF) (D : Addr) : Bool := decide (PySem.W.findIn K (.ref D) "__getattribute__" = some (some (.builtin "BaseException.__getattribute__"))) && decide (PySem.W.findIn K (.ref D) "__getattr__" = some none) && decide (PySem.W.subIn K (.ref D) (.type "BaseException") = some true) &&
  PySem.W.hasDictIn K D && decide (PySem.W.findIn K (.ref D) "__class__" = some (some (.builtin "object.__class__"))) && decide (PySem.W.specialIn K (.builtin "object.__class__") "__get__" = some (some (.builtin "getset_descriptor.__get__"))) &&
  decide (PySem.W.takesIn K (.builtin "object.__class__") = some true) && decide (PySem.W.mroIn K D (.type "object") = some true)
theorem excB_ok {K : KF} {D : Addr} (h : excB K D = true) : ExcC K D := by
  unfold excB at h
  simp only [Bool.and_eq_true, decide_eq_true_eq] at h
  obtain ⟨⟨⟨⟨⟨⟨⟨h1, h2⟩, h3⟩, h4⟩, h5⟩, h6⟩, h7⟩, h8⟩ := h
  exact ⟨h1, h2, h3, h4, h5, h6, h7, h8⟩
/-- a class that is asked for: an own one, a built-in one -/
def uOf (K : KF) (t : Str) (own : Bool) : Value := if own then .ref (He.ga K t) else (bootBuiltins t).getD .none
def ixB (K : KF) (p : Str × Str × Bool × Bool) : Bool := excB K (He.ga K p.1) && decide (PySem.W.kitOne K (.ref (He.ga K p.1)) (uOf K p.2.1 p.2.2.1) = some p.2.2.2) && decide (PySem.W.exmOne K (.ref (He.ga K p.1)) (uOf K p.2.1 p.2.2.1) = some p.2.2.2)
/-- the own exception classes, and what is asked of them -/
structure CsI where
  one : List ClsI
  zer : List ClsI
  ixs : List (Str × Str × Bool × Bool)
abbrev AlX : Type := He.AlD × Bool
def obsX (fa : List He.Fa) (fn : List He.DefD) (cs : CsI) (K : KF) : AlX := (He.obsD fa fn K, (cs.one.all fun c => exB K (He.ga K c.name) c.field) && (cs.zer.all fun c => ex0B K (He.ga K c.name)) && cs.ixs.all (ixB K))
def SaysX (fa : List He.Fa) (fn : List He.DefD) (cs : CsI) (K : KF) : Prop := obsX fa fn cs K = (He.valD fn, true)
def obsXG (n : Nat) (fa : List He.Fa) (fn : List He.DefD) (cs : CsI) (g : Addr → Option Obj) : AlX := obsX fa fn cs (He.frG g (He.asD g n))
def hookX (n : Nat) (fa : List He.Fa) (fn : List He.DefD) (cs : CsI) : PySem.W.Hook where
  α := AlX
  obs := fun s => obsXG n fa fn cs s.heap.get?
  val := fun _ => (He.valD fn, true)
  says := fun _ h => ∃ K : PySem.W.Frag, K.In h ∧ SaysX fa fn cs K
  of := fun _ _ e => ⟨_, He.frG_in, e⟩
  keeps := fun _ _ _ ⟨K, hK, c⟩ k => ⟨K, PySem.W.Frag.In.keeps hK k, c⟩
theorem obsXG_eq {n : Nat} {fa : List He.Fa} {fn : List He.DefD} {cs : CsI} {g : Addr → Option Obj} {s : Shared} (h : ∀ a, g a = s.heap.get? a) : obsXG n fa fn cs g = (hookX n fa fn cs).obs s := by
  have e : g = s.heap.get? := funext h
  subst e; rfl
/-- what is to be seen of a class's text -/
def ClsI.good (c : ClsI) : Prop := FnScope [("self" : Str), c.field] [("self" : Str), c.field] (defScope c.st) ∧ (∃ q1 q2 q3 q4, defBody c.st = [.Assign [.Attribute (.Name "self" q1) c.field q2] (.Name c.field q3) q4]) ∧ (defScope c.st).names.lookup ("self" : Str) = some .local ∧ (defScope c.st).names.lookup c.field = some .local ∧
  (c.field == ("__debug__" : Str)) = false ∧ (c.field == ("__classdict__" : Str)) = false
/-- how its __init__ binds -/
def ClsI.binds (c : ClsI) (q : Str) : Prop := ∀ (kV doc pm : Value) (an : Option Addr) (cdv ct : Value) (us : List Value), us.length = 2 →
    bindArgs (PySem.W.fnOf "__init__" q (defArgs c.st) (defBody c.st) (defScope c.st) .none kV doc pm an cdv ct) ⟨us, []⟩ = pure ([("self" : Str), c.field].zip us) ∧
    ∀ self u, bindArgs (PySem.W.fnOf "__init__" q (defArgs c.st) (defBody c.st) (defScope c.st) .none kV doc pm an cdv ct) ⟨[self], [(c.field, u)]⟩ = pure [(("self" : Str), self), (c.field, u)]
def ClsI.good0 (c : ClsI) : Prop := FnScope [("self" : Str)] [("self" : Str)] (defScope c.st) ∧ ∃ q1, defBody c.st = [.Pass q1]
def ClsI.binds0 (c : ClsI) (q : Str) : Prop := ∀ (kV doc pm : Value) (an : Option Addr) (cdv ct : Value) (us : List Value), us.length = 1 →
    bindArgs (PySem.W.fnOf "__init__" q (defArgs c.st) (defBody c.st) (defScope c.st) .none kV doc pm an cdv ct) ⟨us, []⟩ = pure ([("self" : Str)].zip us)
theorem says_parts {fa : List He.Fa} {fn : List He.DefD} {cs : CsI} {K : KF} (s : SaysX fa fn cs K) : He.SaysD fa fn K ∧ (∀ c ∈ cs.one, exB K (He.ga K c.name) c.field = true) ∧ (∀ c ∈ cs.zer, ex0B K (He.ga K c.name) = true) ∧ ∀ p ∈ cs.ixs, ixB K p = true := by
  have h1 : He.SaysD fa fn K := congrArg (fun z : AlX => z.1) s
  have h2 : ((cs.one.all fun c => exB K (He.ga K c.name) c.field) && (cs.zer.all fun c => ex0B K (He.ga K c.name)) && cs.ixs.all (ixB K)) = true := congrArg (fun z : AlX => z.2) s
  rw [Bool.and_eq_true, Bool.and_eq_true] at h2
  exact ⟨h1, List.all_eq_true.mp h2.1.1, List.all_eq_true.mp h2.1.2, List.all_eq_true.mp h2.2⟩
theorem ownX {w : World} {K : KF} {h : Heap} {mg : Str → Option Value} {fa : List He.Fa} {fn : List He.DefD} {cs : CsI} (X : K.In h) (G : h.Ns mainGlobals mg) (s : SaysX fa fn cs K) {c : ClsI} {q : Str} (hc : c ∈ cs.one) (hd : c.dd q ∈ fn) (hg : He.Fa.glo c.name ∈ fa) (hm : He.Fa.meth c.name "__init__" ∈ fa)
    (g : c.good) (gb : c.binds q) :
    ∃ C, ∀ (P : Program) (base : Heap), OwnX P w K mg base c.name c.field C := by
  obtain ⟨sd, sb, _, _⟩ := says_parts s
  obtain ⟨i, hi⟩ := List.mem_iff_getElem?.mp hd
  obtain ⟨j, hj⟩ := List.mem_iff_getElem?.mp hg
  obtain ⟨l, hl⟩ := List.mem_iff_getElem?.mp hm
  obtain ⟨fd, Fu⟩ := sd.def_ i hi
  have Fu : FunD K "__init__" q (defArgs c.st) (defBody c.st) (defScope c.st) [] [] (He.ma K (He.ga K c.name) "__init__") fd := Fu
  have fm := sd.fact l hl
  obtain ⟨m1, m2⟩ := He.ba fm
  obtain ⟨m3, m4⟩ := He.ba m2
  have ec := exB_ok (sb c hc)
  obtain ⟨S, hb, l1, l2, d1, d2⟩ := g
  refine ⟨He.ga K c.name, fun P base => ⟨ec, rfl, He.glo_ok X G (sd.fact j hj), _, fd, init_ok (fun_of Fu) S ec hb l1 l2 d1 d2, He.eqO_ok m1, beq_iff_eq.mp m3, ?_, ?_⟩⟩
  · exact Fu.bindsN fun kV doc pm an cdv ct us hl => (gb kV doc pm an cdv ct us hl).1
  · obtain ⟨oc, od, dV, kV, doc, pm, an, cdv, ct, osl, rfl, e2, e3, e4, _⟩ := Fu.ex
    rcases e4 with ⟨_, rfl⟩ | ⟨e5, _⟩
    · exact fun s self u _ => .of_eq ((gb kV doc pm an cdv ct [self, u] rfl).2 self u)
    · exact absurd rfl e5
theorem ownX0 {w : World} {K : KF} {h : Heap} {mg : Str → Option Value} {fa : List He.Fa} {fn : List He.DefD} {cs : CsI} (X : K.In h) (G : h.Ns mainGlobals mg) (s : SaysX fa fn cs K) {c : ClsI} {q : Str} (hc : c ∈ cs.zer) (hd : c.dd q ∈ fn) (hg : He.Fa.glo c.name ∈ fa) (hm : He.Fa.meth c.name "__init__" ∈ fa)
    (g : c.good0) (gb : c.binds0 q) : ∃ C, ∀ (P : Program) (base : Heap), OwnX0 P w K mg base c.name C := by
  obtain ⟨sd, _, sb, _⟩ := says_parts s
  obtain ⟨i, hi⟩ := List.mem_iff_getElem?.mp hd
  obtain ⟨j, hj⟩ := List.mem_iff_getElem?.mp hg
  obtain ⟨l, hl⟩ := List.mem_iff_getElem?.mp hm
  obtain ⟨fd, Fu⟩ := sd.def_ i hi
  have Fu : FunD K "__init__" q (defArgs c.st) (defBody c.st) (defScope c.st) [] [] (He.ma K (He.ga K c.name) "__init__") fd := Fu
  have fm := sd.fact l hl
  obtain ⟨m1, m2⟩ := He.ba fm
  obtain ⟨m3, m4⟩ := He.ba m2
  have ec := sb c hc
  unfold ex0B at ec
  simp only [Bool.and_eq_true, decide_eq_true_eq] at ec
  obtain ⟨⟨⟨e1, e2⟩, e3⟩, e4⟩ := ec
  obtain ⟨S, hb⟩ := g
  refine ⟨He.ga K c.name, fun P base => ⟨e1, e2, e3, e4, rfl, He.glo_ok X G (sd.fact j hj), _, fd, init0_ok (fun_of Fu) S hb, He.eqO_ok m1, beq_iff_eq.mp m3, ?_⟩⟩
  exact Fu.bindsN fun kV doc pm an cdv ct us hl => gb kV doc pm an cdv ct us hl
theorem ixX {K : KF} {h : Heap} {mg : Str → Option Value} {fa : List He.Fa} {fn : List He.DefD} {cs : CsI} (X : K.In h) (G : h.Ns mainGlobals mg) (s : SaysX fa fn cs K) {c t : Str} {own b : Bool} (hc : (c, t, own, b) ∈ cs.ixs) (hg : He.Fa.glo c ∈ fa)
    (ht : if own = true then He.Fa.glo t ∈ fa else He.Fa.free t ∈ fa ∧ ∃ T, bootBuiltins t = some (.type T)) : IxOk K mg c t b ∧ mg c = some (.ref (He.ga K c)) := by
  obtain ⟨sd, _, _, sb⟩ := says_parts s
  obtain ⟨j, hj⟩ := List.mem_iff_getElem?.mp hg
  refine ⟨?_, He.glo_ok X G (sd.fact j hj)⟩
  have z := sb _ hc
  unfold ixB at z
  simp only [Bool.and_eq_true, decide_eq_true_eq] at z
  obtain ⟨⟨z1, z2⟩, z3⟩ := z
  cases own with
  | true =>
    rw [if_pos rfl] at ht
    obtain ⟨l, hl⟩ := List.mem_iff_getElem?.mp ht
    exact ⟨.ref (He.ga K t), .ref (He.ga K t), .inl (He.glo_ok X G (sd.fact l hl)), rfl, .own _, excB_ok z1, z2, z3⟩
  | false =>
    rw [if_neg (by decide)] at ht
    obtain ⟨h1, T, hT⟩ := ht
    obtain ⟨l, hl⟩ := List.mem_iff_getElem?.mp h1
    have e : uOf K t false = .type T := by unfold uOf; rw [hT] <;> rfl
    simp only [e] at z2 z3
    exact ⟨.type T, .ty T, .inr ⟨He.free_ok X G (sd.fact l hl), hT⟩, rfl, .ty T, excB_ok z1, z2, z3⟩
theorem stands {K : KF} {h : Heap} {mg : Str → Option Value} {fa : List He.Fa} {fn : List He.DefD} (X : K.In h) (G : h.Ns mainGlobals mg) (c : He.SaysD fa fn K) {d : DefI} (hd : d.dd ∈ fn) (hg : He.Fa.glo d.name ∈ fa) (hb : d.binds) : StandsAt K mg d := by
  obtain ⟨i, hi⟩ := List.mem_iff_getElem?.mp hd
  obtain ⟨j, hj⟩ := List.mem_iff_getElem?.mp hg
  obtain ⟨fd, F⟩ := c.def_ i hi
  have F : FunD K d.name d.name (defArgs d.st) (defBody d.st) (defScope d.st) [] [] (He.ga K d.name) fd := F
  refine ⟨He.ga K d.name, fd, fun_of F, He.glo_ok X G (c.fact j hj), F.kp, F.bindsN fun kV doc pm an cdv ct us hl => (hb kV doc pm an cdv ct us hl).1, ?_⟩
  obtain ⟨oc, od, dV, kV, doc, pm, an, cdv, ct, osl, rfl, e2, e3, e4, _⟩ := F.ex
  rcases e4 with ⟨_, rfl⟩ | ⟨e5, _⟩
  · exact fun s ws _ hl => .of_eq (hb kV doc pm an cdv ct ws hl).2
  · exact absurd rfl e5
theorem frees {K : KF} {h : Heap} {mg : Str → Option Value} {fa : List He.Fa} {fn : List He.DefD} (X : K.In h) (G : h.Ns mainGlobals mg) (c : He.SaysD fa fn K) {x : Str} (hx : He.Fa.free x ∈ fa) : mg x = none := by
  obtain ⟨j, hj⟩ := List.mem_iff_getElem?.mp hx
  exact He.free_ok X G (c.fact j hj)
theorem const_int {K : KF} {w : World} {h : Heap} {mg : Str → Option Value} {fa : List He.Fa} {fn : List He.DefD} (X : K.In h) (G : h.Ns mainGlobals mg) (c : He.SaysD fa fn K) {x : Str} {i : Int} (hx : He.Fa.int x i ∈ fa) :
    ∃ u v, mg x = some u ∧ RelV v u ∧ Rp w K (fun _ => none) v (.int i) := by
  obtain ⟨j, hj⟩ := List.mem_iff_getElem?.mp hx
  obtain ⟨t, e⟩ := He.int_ok X G (c.fact j hj)
  exact ⟨_, .int i, e, ⟨t, rfl⟩, .int i⟩
/-- the names of the built-ins that the language knows -/
def biNames : List Str := ["len", "int", "abs", "max", "min", "sum", "all", "any", "tuple", "str", "sorted", "list", "bool", "isinstance", "range", "zip", "enumerate"]
theorem bi_in : ∀ b, biHave b = true → biName b ∈ biNames := by intro b h; cases b <;> first | (cases h; done) | exact List.mem_of_elem_eq_true rfl
/-! ### the law itself -/
theorem law_run {P : Program} {w : World} {K : KF} {mg : Str → Option Value} {base : Heap} {k : Nat} {xc : XC} {tb : Tb} {x qual : Str} {st : Stmt} {f : Addr} {fd : FuncData} {N ps : List Str} {body : S}
    (T : TbOk P w K mg base k xc tb) (Fu : Fun K x qual st f fd) (S : FnScope N ps (defScope st)) (hm : mtTop N (defScope st) body (defBody st) = true) :
    FnOk P w K mg base (L2.CX P w) (k + 1) f fd ps (spF w K xc (fnT tb body ps none N.length)) := by
  refine Fu.okX S (fun vs H Q E h => h.1) fun cdv A outer s H vs Q E hr hsp => ?_
  obtain ⟨hl, sp, F, n, ds, ro, hpos, ok, args, hsem, wish⟩ := hsp
  have hsp0 := hpos rfl
  subst hsp0
  have bd : Bd (cxOf (L2.CX P w) P w K mg base N qual (defScope st) f cdv A outer s H E) (L2.CX P w) k xc E tb :=
    { cx := rfl, nodup := S.nd, calm := rfl, pass := passes_call (takes_of rfl rfl rfl rfl) (fun _ _ _ _ h => h), room := hr, blt := T.blt, isi := T.isi, rng := T.rng, zip := T.zip, enm := T.enm, tys := T.tys, fns := fun x fn e => ⟨T.fok e⟩, gls := T.gls, tk := takes_of rfl rfl rfl rfl, own := T.own }
  have sc : ScOk (cxOf (L2.CX P w) P w K mg base N qual (defScope st) f cdv A outer s H E) (defScope st) := by
    refine ⟨fun x hx => ?_, fun x hx => ?_, fun x hx => ?_, fun x hx => hx⟩
    · obtain ⟨h1, h2⟩ := vis_of hx
      exact ⟨h1, h2⟩
    · unfold glB at hx
      rw [Bool.and_eq_true, Bool.and_eq_true, Bool.not_eq_true', Bool.not_eq_true', beq_iff_eq] at hx
      refine ⟨hx.1.1, hx.1.2, fun z => ?_⟩
      subst z
      exact absurd hx.2 (by decide)
    · unfold locB at hx
      split at hx
      · rename_i e; exact ⟨.inl e, .inl rfl⟩
      · rename_i e; exact ⟨.inr e, .inl rfl⟩
      · cases hx
  have so := soundTop (F0 := F) (H0 := H) bd sc rfl rfl rfl (passes_of rfl) body (defBody st) hm
  refine ⟨_, pss_wp, ?_⟩
  have stt : Stt w K none F H F (entry none 0 ds ++ List.replicate (N.length - ds.length) none) (L2.start N vs) F H n := ⟨⟨_, env_start args, fun i a z => nomatch z⟩, ok, Ext.refl none F H, Sub.refl F⟩
  have hrun : runD tb body none N.length ds n = some ro := hsem
  unfold runD at hrun
  split at hrun
  · rename_i d n' he
    cases hrun
    exact so stt he wish
  · rename_i E' n' he
    cases hrun
    exact so stt he fun σ' F' H' st' => wish .non F' H' st'.ext st'.ok .non
  · rename_i c d n' he
    cases hrun
    exact so stt he wish
  · cases hrun
theorem cx_no {P : Program} {w : World} {H : Hp} {s : Shared} {e : Value} {s' : Shared} (h : L2.CX P w [] H s (fun _ _ _ => False) e s') : False := by
  obtain ⟨_, _, _, _, _, _, _, _, _, _, _, _, z⟩ := h
  exact z
/-- the script as data -/
abbrev scr (ns : List Int) : D := .list (ns.map .int)
theorem scr_rp {w : World} {K : KF} {F : Hp} : ∀ ns : List Int, RpA w K F (ns.map V.int) (ns.map .int)
  | [] => .nil
  | n :: ns => .cons (.int n) (scr_rp ns)
theorem only_ok {H : Hp} (h : Only H) : Ok none H H 0 := ⟨fun a u e => .inl e, fun a xs e => e, fun a o xs e => .inl e, fun a e => nomatch e⟩
/-- a law's end: facts of the text, then the term's answer at every script -/
theorem walk_lk {l : PySem.W.OpenLaw} {n k : Nat} {q : Program} {loose : List Str} {XP : (Str → Option Value) → Heap → Prop} {fa : List He.Fa} {fn : List He.DefD} {m : Nat} {d : DefRec} {x : Str} {ds : List DefI} {gl : Str → Option Lk.D} {law : DefI} {cs : CsI} {cl : CT}
    (hn : l.most = some n) (hn2 : n ≤ sizeLine) (hdf : d.params.defaults = []) (hr : Room (k + 1) callerA)
    (hname : d.name = law.name) (hps : law.ps = [x]) (hl : law.dd ∈ fn) (hlg : He.Fa.glo law.name ∈ fa) (hlb : law.binds) (hsc : FnScope law.N law.ps (defScope law.st)) (hmt : mtTop law.N (defScope law.st) law.body (defBody law.st) = true)
    (hin : ∀ e ∈ ds, e.dd ∈ fn ∧ He.Fa.glo e.name ∈ fa ∧ e.binds ∧ e.good) (hfree : ∀ y ∈ biNames, He.Fa.free y ∈ fa) (hgl : ∀ y e, gl y = some e → ∃ i : Int, e = .int i ∧ He.Fa.int y i ∈ fa)
    (hcl : ∀ c f, cl.f c = some f → ∃ cc q, cc ∈ cs.one ∧ cc.name = c ∧ cc.field = f ∧ cc.dd q ∈ fn ∧ He.Fa.glo c ∈ fa ∧ He.Fa.meth c "__init__" ∈ fa ∧ cc.good ∧ cc.binds q)
    (hcz : ∀ c, cl.z c = true → cl.f c = none ∧ ∃ cc q, cc ∈ cs.zer ∧ cc.name = c ∧ cc.dd q ∈ fn ∧ He.Fa.glo c ∈ fa ∧ He.Fa.meth c "__init__" ∈ fa ∧ cc.good0 ∧ cc.binds0 q)
    (hci : ∀ c t b, cl.i c t = some b → ∃ own, (c, t, own, b) ∈ cs.ixs ∧ He.Fa.glo c ∈ fa ∧ (if own = true then He.Fa.glo t ∈ fa else He.Fa.free t ∈ fa ∧ ∃ T, bootBuiltins t = some (.type T)))
    (holds : ∀ ns : List Int, ns.length ≤ n → (∀ z ∈ ns, Builtin.Int.intBits z ≤ 1048576) → ∃ n', runD (tblC ds gl cl k) law.body none law.N.length [scr ns] 0 = some (.ok (.bool true) n')) :
    PySem.W.WalkO q loose XP (hookX m fa fn cs).says l.row.toRowW d [] (fun f vs => PySem.call f vs) := by
  refine Att.attach_callB hn hdf ?_
  intro w s₀ s₁ mg mb fad o pm cd doc a vs ns G Y ho hd hcd hmg hobj hints hlen hbits hg
  obtain ⟨K, KX, cX⟩ := Y
  have c : He.SaysD fa fn K := (says_parts cX).1
  have out : Outside K mg w ds gl cl :=
    { blt := fun b hb => frees KX G.T.g c (hfree _ (bi_in b hb)), isi := frees KX G.T.g c (hfree _ (List.mem_of_elem_eq_true rfl)), rng := frees KX G.T.g c (hfree _ (List.mem_of_elem_eq_true rfl)), zip := frees KX G.T.g c (hfree _ (List.mem_of_elem_eq_true rfl)),
      enm := frees KX G.T.g c (hfree _ (List.mem_of_elem_eq_true rfl)), tys := fun t ht => frees KX G.T.g c (hfree _ (by
        simp only [five, List.mem_cons, List.not_mem_nil, or_false] at ht
        rcases ht with rfl | rfl | rfl | rfl | rfl <;> exact List.mem_of_elem_eq_true rfl)),
      defs := fun e he => stands KX G.T.g c (hin e he).1 (hin e he).2.1 (hin e he).2.2.1,
      gls := fun y e he => by
        obtain ⟨i, rfl, hi⟩ := hgl y e he
        exact const_int KX G.T.g c hi
      own := fun c' f' e' => by
        obtain ⟨cc, q, h1, rfl, rfl, h2, h3, h4, h5, h6⟩ := hcl c' f' e'
        exact ownX KX G.T.g cX h1 h2 h3 h4 h5 h6
      own0 := fun c' e' => by
        obtain ⟨n, cc, q, h1, rfl, h2, h3, h4, h5, h6⟩ := hcz c' e'
        exact ⟨n, ownX0 KX G.T.g cX h1 h2 h3 h4 h5 h6⟩
      ixo := fun c' t' b' e' => by
        obtain ⟨own, h1, h2, h3⟩ := hci c' t' b' e'
        exact ixX KX G.T.g cX h1 h2 h3 }
  obtain ⟨f, fd, F1, F2, F3, F4, F5⟩ := stands KX G.T.g c hl hlg hlb
  rw [hname] at hmg
  have ef : fad = f := by
    rw [F2] at hmg
    cases hmg; rfl
  subst ef
  have hb : ∀ (s : Shared) (u : Value), BindsTo s fd ⟨[u], []⟩ [(x, u)] := fun s u => by
    obtain ⟨oc, od, kV, doc, pm, an, cdv, ct, osl, rfl, _, _⟩ := F1.ex
    have := (hlb kV doc pm an cdv ct [u] (by rw [hps]; rfl)).1
    rw [hps] at this
    exact .of_eq this
  refine law_call (sp := spF w K (xcOf w K mg cl.f cl.z) (fnT (tblC ds gl cl k) law.body law.ps none law.N.length)) KX G.T.g G.T.b G.T.builtins G.T.nolimit hg hobj hints (Nat.le_trans hlen hn2) hr ?_ hb ?_ (fun H e s' => cx_no (P := l.prog) (w := w))
  · intro base hB hG
    have := law_run (P := l.prog) (w := w) (base := base) (xc := xcOf w K mg cl.f cl.z) (tbl_ok out (fun e he => (hin e he).2.2.2) k) F1 hsc hmt
    rw [hps] at this ⊢
    exact this
  · intro H hO hS
    obtain ⟨n', hh⟩ := holds ns hlen hbits
    refine ⟨by rw [show (fnT (tblC ds gl cl k) law.body law.ps none law.N.length).ps = law.ps from rfl, hps]; rfl, none, H, 0, [scr ns], .ok (.bool true) n', fun _ => rfl, only_ok hO, .dat (by unfold fnT; exact fun z => nomatch z) (.lst hS (scr_rp ns)) .nil, hh, fun v F' H' e k r => ?_⟩
    cases r; rfl
end Lk
end
section
set_option linter.all false
set_option maxRecDepth 100000
namespace Hd
open PySem PySem.Spec PyProof.Rows L2 Lk
def b__law_so : S := .ife (.tv (.cmp .isN (.var 1) (.lit .none))) (.ret (.cmp .isN (.var 0) (.lit .none))) (.done) (.ife (.tv (.isin (.var 1) ["tuple"])) (.ife (.bool false (.cons (.nott (.tv (.isin (.var 0) ["tuple"]))) (.cons (.tv (.cmp .ne (.bi .len (.cons (.var 0) (.no))) (.bi .len (.cons (.var 1) (.no))))) (.no)))) (.ret (.lit (.bool false))) (.done) (.forr (.nm 2) (.rng (.cons (.bi .len (.cons (.var 1) (.no))) (.no))) (.ife (.nott (.tv (.call "_law_so" (.cons (.idx (.var 0) (.var 2)) (.cons (.idx (.var 1) (.var 2)) (.no))) []))) (.ret (.lit (.bool false))) (.done) (.done)) (.ret (.lit (.bool true))))) (.done) (.ife (.bool false (.cons (.tv (.isin (.var 1) ["bool"])) (.cons (.tv (.isin (.var 0) ["bool"])) (.no)))) (.ret (.bool true (.cons (.isin (.var 1) ["bool"]) (.cons (.isin (.var 0) ["bool"]) (.cons (.cmp .eq (.var 0) (.var 1)) (.no)))))) (.done) (.ife (.tv (.isin (.var 1) ["int"])) (.ret (.bool true (.cons (.isin (.var 0) ["int"]) (.cons (.cmp .eq (.var 0) (.var 1)) (.no))))) (.done) (.ret (.bool true (.cons (.isin (.var 1) ["str"]) (.cons (.isin (.var 0) ["str"]) (.cons (.cmp .eq (.var 0) (.var 1)) (.no)))))))))
def b__law_numbers : S := .asg (.nm 1) (.lst (.no)) (.forr (.nm 2) (.itr (.slc (.var 0) (.no) (.cons (.lit (.int 63)) .no))) (.ife (.tv (.cmp .ge (.var 2) (.bin .pow (.lit (.int 10)) (.lit (.int 18))))) (.asg (.nm 3) (.var 2) (.forr (.nm 4) (.rng (.cons (.lit (.int 60)) (.no))) (.ife (.tv (.cmp .eq (.var 3) (.lit (.int 0)))) (.brk) (.done) (.app 1 (.bin .mod (.bi .int (.cons (.var 3) (.no))) (.lit (.int 997))) (.asg (.nm 3) (.bin .fdv (.var 3) (.lit (.int 997))) (.done)))) (.done))) (.forr (.nm 4) (.rng (.cons (.lit (.int 4)) (.no))) (.asg (.nm 5) (.bin .mod (.bi .int (.cons (.bin .add (.bin .add (.bin .mul (.var 2) (.lit (.int 48271))) (.bin .mul (.var 4) (.lit (.int 69621)))) (.lit (.int 11))) (.no))) (.lit (.int 2147483647))) (.app 1 (.bin .mod (.bi .int (.cons (.bin .add (.bin .mul (.var 5) (.lit (.int 16807))) (.var 4)) (.no))) (.lit (.int 2147483629))) (.done))) (.done)) (.done)) (.ife (.tv (.cmp .eq (.bi .len (.cons (.var 1) (.no))) (.lit (.int 0)))) (.app 1 (.lit (.int 0)) (.done)) (.done) (.ret (.var 1))))
def b__law_draw : S := .ife (.tv (.cmp .lt (.var 1) (.bi .len (.cons (.var 0) (.no))))) (.ret (.bin .mod (.bi .int (.cons (.idx (.var 0) (.var 1)) (.no))) (.var 2))) (.done) (.asg (.nm 3) (.bin .mod (.bi .int (.cons (.bin .add (.bin .add (.bin .mul (.idx (.var 0) (.bin .mod (.bi .int (.cons (.var 1) (.no))) (.bi .len (.cons (.var 0) (.no))))) (.lit (.int 40692))) (.bin .mul (.var 1) (.lit (.int 7919)))) (.lit (.int 3))) (.no))) (.lit (.int 2147483399))) (.ret (.bin .mod (.bi .int (.cons (.bin .mod (.bi .int (.cons (.bin .add (.bin .mul (.var 3) (.lit (.int 48271))) (.var 1)) (.no))) (.lit (.int 2147483647))) (.no))) (.var 2))))
def b__law_take : S := .spt 1 (.lit (.int 0)) (.bin .add (.idx (.var 1) (.lit (.int 0))) (.lit (.int 1))) (.ret (.call "_law_draw" (.cons (.var 0) (.cons (.bin .sub (.idx (.var 1) (.lit (.int 0))) (.lit (.int 1))) (.cons (.var 2) (.no)))) []))
def b__law_of : S := .asg (.nm 1) (.lst (.cons (.isin (.var 0) ["BadValue"]) (.cons (.isin (.var 0) ["BadText"]) (.cons (.isin (.var 0) ["NoPoint"]) (.no))))) (.ret (.bin .add (.var 1) (.lst (.cons (.isin (.var 0) ["NoCell"]) (.cons (.isin (.var 0) ["TooMany"]) (.no))))))
def b__law_foreign : S := .ife (.bool false (.cons (.tv (.isin (.var 0) ["ValueError"])) (.cons (.tv (.isin (.var 0) ["LookupError"])) (.no)))) (.ret (.lit (.bool true))) (.done) (.ret (.bool false (.cons (.isin (.var 0) ["ArithmeticError"]) (.cons (.nott (.tv (.isin (.var 0) ["Exception"]))) (.no)))))
def b__law_caught : S := .tryx (.ife (.tv (.cmp .eq (.var 0) (.lit (.int 0)))) (.rs0 "TooMany") (.done) (.rse "NoCell" (.var 0))) "LevelError" 1 "NoCell"
def b_law : S := .asg (.nm 1) (.call "_law_numbers" (.cons (.var 0) (.no)) []) (.mksp 2 (.asg (.nm 3) (.bin .sub (.call "_law_take" (.cons (.var 1) (.cons (.var 2) (.cons (.lit (.int 997)) (.no)))) []) (.lit (.int 9))) (.asg (.nm 4) (.idx (.lst (.cons (.lit .none) (.cons (.neg (.var 3)) (.cons (.lit (.str "x")) (.cons (.tup (.cons (.var 3) (.cons (.lit (.int 2)) (.no)))) (.cons (.lit (.bool true)) (.no))))))) (.call "_law_take" (.cons (.var 1) (.cons (.var 2) (.cons (.lit (.int 5)) (.no)))) [])) (.forr (.nm 5) (.itr (.lst (.cons (.call "BadValue" (.cons (.var 3) (.no)) []) (.cons (.call "BadText" (.cons (.var 3) (.no)) []) (.cons (.call "BadValue" (.cons (.var 3) (.no)) ["at"]) (.cons (.call "BadText" (.cons (.var 3) (.no)) ["at"]) (.no))))))) (.ife (.nott (.tv (.call "_law_so" (.cons (.fld (.var 5) "at") (.cons (.var 3) (.no))) []))) (.ret (.lit (.bool false))) (.done) (.done)) (.forr (.nm 5) (.itr (.lst (.cons (.call "NoPoint" (.cons (.var 4) (.no)) []) (.cons (.call "NoPoint" (.cons (.var 4) (.no)) ["place"]) (.no))))) (.ife (.nott (.tv (.call "_law_so" (.cons (.fld (.var 5) "place") (.cons (.var 4) (.no))) []))) (.ret (.lit (.bool false))) (.done) (.done)) (.forr (.nm 5) (.itr (.lst (.cons (.call "NoCell" (.cons (.var 4) (.no)) []) (.cons (.call "NoCell" (.cons (.var 4) (.no)) ["cell"]) (.no))))) (.ife (.nott (.tv (.call "_law_so" (.cons (.fld (.var 5) "cell") (.cons (.var 4) (.no))) []))) (.ret (.lit (.bool false))) (.done) (.done)) (.asg (.nm 6) (.lst (.cons (.call "BadValue" (.cons (.var 3) (.no)) []) (.cons (.call "BadText" (.cons (.var 3) (.no)) []) (.cons (.call "NoPoint" (.cons (.var 4) (.no)) []) (.cons (.call "NoCell" (.cons (.var 4) (.no)) []) (.cons (.call "TooMany" (.no) []) (.no))))))) (.forr (.nm 7) (.rng (.cons (.lit (.int 5)) (.no))) (.ife (.bool false (.cons (.tv (.cmp .ne (.call "_law_of" (.cons (.idx (.var 6) (.var 7)) (.no)) []) (.comp .li [8] (.nm 8) (.rng (.cons (.lit (.int 5)) (.no))) (.no) (.no) (.cmp .eq (.var 8) (.var 7)) (.no)))) (.cons (.tv (.call "_law_foreign" (.cons (.idx (.var 6) (.var 7)) (.no)) [])) (.cons (.nott (.tv (.isin (.idx (.var 6) (.var 7)) ["LevelError"]))) (.no))))) (.ret (.lit (.bool false))) (.done) (.done)) (.ret (.bool true (.cons (.nott (.tv (.call "_law_caught" (.cons (.lit (.int 0)) (.no)) []))) (.cons (.call "_law_caught" (.cons (.bin .add (.lit (.int 1)) (.call "_law_take" (.cons (.var 1) (.cons (.var 2) (.cons (.lit (.int 9)) (.no)))) [])) (.no)) []) (.no)))))))))))))
end Hd
end
section
set_option linter.all false
set_option maxRecDepth 100000
set_option maxHeartbeats 0
namespace Hd
open PySem PySem.Spec PyProof.Rows L2 Lk
def topS (i : Nat) : Stmt := PySem.Challenge.pw_levelkind_k00_errors.main.body.getD i (.Pass ⟨0, 0, 0, 0⟩)
def d__law_so : DefI := ⟨"_law_so", topS 8, ["found", "meant", "k"], ["found", "meant"], b__law_so, none⟩
theorem sc__law_so : FnScope d__law_so.N d__law_so.ps (defScope d__law_so.st) := ⟨rfl, rfl, rfl, by decide +kernel, rfl, by decide +kernel, by decide +kernel⟩
theorem mt__law_so : mtD d__law_so.N (defScope d__law_so.st) d__law_so.body (defBody d__law_so.st) = true := by decide +kernel
theorem bd__law_so : d__law_so.binds := fun _ _ _ _ _ _ us hl => match us, hl with | [_, _], _ => ⟨rfl, rfl⟩
def d__law_numbers : DefI := ⟨"_law_numbers", topS 9, ["script", "row", "cell", "left", "k", "mixed"], ["script"], b__law_numbers, none⟩
theorem sc__law_numbers : FnScope d__law_numbers.N d__law_numbers.ps (defScope d__law_numbers.st) := ⟨rfl, rfl, rfl, by decide +kernel, rfl, by decide +kernel, by decide +kernel⟩
theorem mt__law_numbers : mtD d__law_numbers.N (defScope d__law_numbers.st) d__law_numbers.body (defBody d__law_numbers.st) = true := by decide +kernel
theorem bd__law_numbers : d__law_numbers.binds := fun _ _ _ _ _ _ us hl => match us, hl with | [_], _ => ⟨rfl, rfl⟩
def d__law_draw : DefI := ⟨"_law_draw", topS 10, ["row", "at", "limit", "mixed"], ["row", "at", "limit"], b__law_draw, none⟩
theorem sc__law_draw : FnScope d__law_draw.N d__law_draw.ps (defScope d__law_draw.st) := ⟨rfl, rfl, rfl, by decide +kernel, rfl, by decide +kernel, by decide +kernel⟩
theorem mt__law_draw : mtD d__law_draw.N (defScope d__law_draw.st) d__law_draw.body (defBody d__law_draw.st) = true := by decide +kernel
theorem bd__law_draw : d__law_draw.binds := fun _ _ _ _ _ _ us hl => match us, hl with | [_, _, _], _ => ⟨rfl, rfl⟩
def d__law_take : DefI := ⟨"_law_take", topS 11, ["row", "spot", "limit"], ["row", "spot", "limit"], b__law_take, some 1⟩
theorem sc__law_take : FnScope d__law_take.N d__law_take.ps (defScope d__law_take.st) := ⟨rfl, rfl, rfl, by decide +kernel, rfl, by decide +kernel, by decide +kernel⟩
theorem mt__law_take : mtD d__law_take.N (defScope d__law_take.st) d__law_take.body (defBody d__law_take.st) = true := by decide +kernel
theorem bd__law_take : d__law_take.binds := fun _ _ _ _ _ _ us hl => match us, hl with | [_, _, _], _ => ⟨rfl, rfl⟩
def d__law_of : DefI := ⟨"_law_of", topS 12, ["value", "made"], ["value"], b__law_of, none⟩
theorem sc__law_of : FnScope d__law_of.N d__law_of.ps (defScope d__law_of.st) := ⟨rfl, rfl, rfl, by decide +kernel, rfl, by decide +kernel, by decide +kernel⟩
theorem mt__law_of : mtD d__law_of.N (defScope d__law_of.st) d__law_of.body (defBody d__law_of.st) = true := by decide +kernel
theorem bd__law_of : d__law_of.binds := fun _ _ _ _ _ _ us hl => match us, hl with | [_], _ => ⟨rfl, rfl⟩
def d__law_foreign : DefI := ⟨"_law_foreign", topS 13, ["value"], ["value"], b__law_foreign, none⟩
theorem sc__law_foreign : FnScope d__law_foreign.N d__law_foreign.ps (defScope d__law_foreign.st) := ⟨rfl, rfl, rfl, by decide +kernel, rfl, by decide +kernel, by decide +kernel⟩
theorem mt__law_foreign : mtD d__law_foreign.N (defScope d__law_foreign.st) d__law_foreign.body (defBody d__law_foreign.st) = true := by decide +kernel
theorem bd__law_foreign : d__law_foreign.binds := fun _ _ _ _ _ _ us hl => match us, hl with | [_], _ => ⟨rfl, rfl⟩
def d__law_caught : DefI := ⟨"_law_caught", topS 14, ["at", "wrong"], ["at"], b__law_caught, none⟩
theorem sc__law_caught : FnScope d__law_caught.N d__law_caught.ps (defScope d__law_caught.st) := ⟨rfl, rfl, rfl, by decide +kernel, rfl, by decide +kernel, by decide +kernel⟩
theorem mt__law_caught : mtD d__law_caught.N (defScope d__law_caught.st) d__law_caught.body (defBody d__law_caught.st) = true := by decide +kernel
theorem bd__law_caught : d__law_caught.binds := fun _ _ _ _ _ _ us hl => match us, hl with | [_], _ => ⟨rfl, rfl⟩
def d_law : DefI := ⟨"law", topS 15, ["script", "row", "spot", "at", "other", "made", "every", "k", "one"], ["script"], b_law, none⟩
theorem sc_law : FnScope d_law.N d_law.ps (defScope d_law.st) := ⟨rfl, rfl, rfl, by decide +kernel, rfl, by decide +kernel, by decide +kernel⟩
theorem mt_law : mtTop d_law.N (defScope d_law.st) d_law.body (defBody d_law.st) = true := by decide +kernel
theorem bd_law : d_law.binds := fun _ _ _ _ _ _ us hl => match us, hl with | [_], _ => ⟨rfl, rfl⟩
def c_BadValue : ClsI := ⟨"BadValue", "at", clsInit (topS 2)⟩
theorem cg_BadValue : c_BadValue.good := ⟨⟨rfl, rfl, rfl, by decide +kernel, rfl, by decide +kernel, by decide +kernel⟩, ⟨_, _, _, _, rfl⟩, rfl, rfl, by decide, by decide⟩
theorem cb_BadValue : c_BadValue.binds "BadValue.__init__" := fun _ _ _ _ _ _ us hl => match us, hl with | [_, _], _ => ⟨rfl, fun _ _ => rfl⟩
def c_BadText : ClsI := ⟨"BadText", "at", clsInit (topS 3)⟩
theorem cg_BadText : c_BadText.good := ⟨⟨rfl, rfl, rfl, by decide +kernel, rfl, by decide +kernel, by decide +kernel⟩, ⟨_, _, _, _, rfl⟩, rfl, rfl, by decide, by decide⟩
theorem cb_BadText : c_BadText.binds "BadText.__init__" := fun _ _ _ _ _ _ us hl => match us, hl with | [_, _], _ => ⟨rfl, fun _ _ => rfl⟩
def c_NoPoint : ClsI := ⟨"NoPoint", "place", clsInit (topS 4)⟩
theorem cg_NoPoint : c_NoPoint.good := ⟨⟨rfl, rfl, rfl, by decide +kernel, rfl, by decide +kernel, by decide +kernel⟩, ⟨_, _, _, _, rfl⟩, rfl, rfl, by decide, by decide⟩
theorem cb_NoPoint : c_NoPoint.binds "NoPoint.__init__" := fun _ _ _ _ _ _ us hl => match us, hl with | [_, _], _ => ⟨rfl, fun _ _ => rfl⟩
def c_NoCell : ClsI := ⟨"NoCell", "cell", clsInit (topS 5)⟩
theorem cg_NoCell : c_NoCell.good := ⟨⟨rfl, rfl, rfl, by decide +kernel, rfl, by decide +kernel, by decide +kernel⟩, ⟨_, _, _, _, rfl⟩, rfl, rfl, by decide, by decide⟩
theorem cb_NoCell : c_NoCell.binds "NoCell.__init__" := fun _ _ _ _ _ _ us hl => match us, hl with | [_, _], _ => ⟨rfl, fun _ _ => rfl⟩
def c_TooMany : ClsI := ⟨"TooMany", "", clsInit (topS 6)⟩
theorem cg_TooMany : c_TooMany.good0 := ⟨⟨rfl, rfl, rfl, by decide +kernel, rfl, by decide +kernel, by decide +kernel⟩, ⟨_, rfl⟩⟩
theorem cb_TooMany : c_TooMany.binds0 "TooMany.__init__" := fun _ _ _ _ _ _ us hl => match us, hl with | [_], _ => rfl
def ixs : List (Str × Str × Bool × Bool) := ([(("BadValue" : Str), ("BadValue" : Str), true, true), (("BadValue" : Str), ("BadText" : Str), true, false), (("BadValue" : Str), ("NoPoint" : Str), true, false), (("BadValue" : Str), ("ValueError" : Str), false, false), (("BadValue" : Str), ("LookupError" : Str), false, false), (("BadValue" : Str), ("ArithmeticError" : Str), false, false), (("BadValue" : Str), ("NoCell" : Str), true, false), (("BadValue" : Str), ("TooMany" : Str), true, false)] : List (Str × Str × Bool × Bool)) ++ ([(("BadValue" : Str), ("Exception" : Str), false, true), (("BadValue" : Str), ("LevelError" : Str), true, true), (("BadText" : Str), ("BadValue" : Str), true, false), (("BadText" : Str), ("BadText" : Str), true, true), (("BadText" : Str), ("NoPoint" : Str), true, false), (("BadText" : Str), ("ValueError" : Str), false, false), (("BadText" : Str), ("LookupError" : Str), false, false), (("BadText" : Str), ("ArithmeticError" : Str), false, false)] : List (Str × Str × Bool × Bool)) ++ ([(("BadText" : Str), ("NoCell" : Str), true, false), (("BadText" : Str), ("TooMany" : Str), true, false), (("BadText" : Str), ("Exception" : Str), false, true), (("BadText" : Str), ("LevelError" : Str), true, true), (("NoPoint" : Str), ("BadValue" : Str), true, false), (("NoPoint" : Str), ("BadText" : Str), true, false), (("NoPoint" : Str), ("NoPoint" : Str), true, true), (("NoPoint" : Str), ("ValueError" : Str), false, false)] : List (Str × Str × Bool × Bool)) ++ ([(("NoPoint" : Str), ("LookupError" : Str), false, false), (("NoPoint" : Str), ("ArithmeticError" : Str), false, false), (("NoPoint" : Str), ("NoCell" : Str), true, false), (("NoPoint" : Str), ("TooMany" : Str), true, false), (("NoPoint" : Str), ("Exception" : Str), false, true), (("NoPoint" : Str), ("LevelError" : Str), true, true), (("NoCell" : Str), ("BadValue" : Str), true, false), (("NoCell" : Str), ("BadText" : Str), true, false)] : List (Str × Str × Bool × Bool)) ++ ([(("NoCell" : Str), ("NoPoint" : Str), true, false), (("NoCell" : Str), ("ValueError" : Str), false, false), (("NoCell" : Str), ("LookupError" : Str), false, false), (("NoCell" : Str), ("ArithmeticError" : Str), false, false), (("NoCell" : Str), ("NoCell" : Str), true, true), (("NoCell" : Str), ("TooMany" : Str), true, false), (("NoCell" : Str), ("Exception" : Str), false, true), (("NoCell" : Str), ("LevelError" : Str), true, true)] : List (Str × Str × Bool × Bool)) ++ ([(("TooMany" : Str), ("BadValue" : Str), true, false), (("TooMany" : Str), ("BadText" : Str), true, false), (("TooMany" : Str), ("NoPoint" : Str), true, false), (("TooMany" : Str), ("ValueError" : Str), false, false), (("TooMany" : Str), ("LookupError" : Str), false, false), (("TooMany" : Str), ("ArithmeticError" : Str), false, false), (("TooMany" : Str), ("NoCell" : Str), true, false), (("TooMany" : Str), ("TooMany" : Str), true, true)] : List (Str × Str × Bool × Bool)) ++ ([(("TooMany" : Str), ("Exception" : Str), false, true), (("TooMany" : Str), ("LevelError" : Str), true, true), (("LevelError" : Str), ("LevelError" : Str), true, true)] : List (Str × Str × Bool × Bool))
def cs : CsI := ⟨[c_BadValue, c_BadText, c_NoPoint, c_NoCell], [c_TooMany], ixs⟩
def cl : CT := ⟨fun x => if x = "BadValue" then some "at" else if x = "BadText" then some "at" else if x = "NoPoint" then some "place" else if x = "NoCell" then some "cell" else none, fun x => decide (x = "TooMany"), fun c t => (ixs.find? fun p => p.1 == c && p.2.1 == t).map fun p => p.2.2.2⟩
def defs : List DefI := [d__law_so, d__law_numbers, d__law_draw, d__law_take, d__law_of, d__law_foreign, d__law_caught]
def fn : List He.DefD := (d_law :: defs).map DefI.dd ++ [c_BadValue.dd "BadValue.__init__", c_BadText.dd "BadText.__init__", c_NoPoint.dd "NoPoint.__init__", c_NoCell.dd "NoCell.__init__", c_TooMany.dd "TooMany.__init__"]
def glo : Str → Option Lk.D := fun x => none
def names : List Str := ([("law" : Str), ("_law_so" : Str), ("_law_numbers" : Str), ("_law_draw" : Str), ("_law_take" : Str), ("_law_of" : Str), ("_law_foreign" : Str), ("_law_caught" : Str), ("BadValue" : Str), ("BadText" : Str), ("NoPoint" : Str), ("NoCell" : Str), ("TooMany" : Str), ("LevelError" : Str)] : List Str)
def frees : List Str := biNames ++ ([("ValueError" : Str), ("LookupError" : Str), ("ArithmeticError" : Str), ("Exception" : Str)] : List Str)
def fa : List He.Fa := names.map He.Fa.glo ++ frees.map He.Fa.free ++ [.meth "BadValue" "__init__", .meth "BadText" "__init__", .meth "NoPoint" "__init__", .meth "NoCell" "__init__", .meth "TooMany" "__init__"]
theorem glo_in {x : Str} (h : names.elem x = true) : He.Fa.glo x ∈ fa := List.mem_append_left _ (List.mem_append_left _ (List.mem_map.mpr ⟨x, List.mem_of_elem_eq_true h, rfl⟩))
theorem free_in {x : Str} (h : x ∈ frees) : He.Fa.free x ∈ fa := List.mem_append_left _ (List.mem_append_right _ (List.mem_map.mpr ⟨x, h, rfl⟩))
abbrev R : PySem.W.OpenRow := PySem.W.OpenLaw.row PySem.Challenge.rw_levelkind_k00_errors
abbrev hk : PySem.W.Hook := hookX 5 fa fn cs
def ob (s : PySem.W.SharedT) : AlX := obsXG 5 fa fn cs (HandSHeadRun.getT s)
theorem ob_eq (s : PySem.W.SharedT) : ob s = hk.obs s.abs := obsXG_eq (HandSHeadRun.getT_eq s)
def loose : List Str := ([("_law_so" : Str), ("_law_numbers" : Str), ("_law_draw" : Str), ("_law_take" : Str), ("_law_of" : Str), ("_law_foreign" : Str), ("_law_caught" : Str), ("LevelError" : Str), ("BadValue" : Str), ("BadText" : Str), ("NoPoint" : Str), ("NoCell" : Str), ("TooMany" : Str)] : List Str)
theorem run (w : World) : HandSHeadRun.RunEq R (PySem.W.view R.prog [15]) hk ob 4000 loose w := by
  intro os
  kernel_rfl
theorem good : ∀ e ∈ defs, e.dd ∈ fn ∧ He.Fa.glo e.name ∈ fa ∧ e.binds ∧ e.good := by
  intro e he
  simp only [defs, List.mem_cons, List.not_mem_nil, or_false] at he
  rcases he with rfl | rfl | rfl | rfl | rfl | rfl | rfl
  · exact ⟨List.mem_append_left _ (List.mem_map.mpr ⟨_, by simp [defs], rfl⟩), glo_in rfl, bd__law_so, sc__law_so, mt__law_so⟩
  · exact ⟨List.mem_append_left _ (List.mem_map.mpr ⟨_, by simp [defs], rfl⟩), glo_in rfl, bd__law_numbers, sc__law_numbers, mt__law_numbers⟩
  · exact ⟨List.mem_append_left _ (List.mem_map.mpr ⟨_, by simp [defs], rfl⟩), glo_in rfl, bd__law_draw, sc__law_draw, mt__law_draw⟩
  · exact ⟨List.mem_append_left _ (List.mem_map.mpr ⟨_, by simp [defs], rfl⟩), glo_in rfl, bd__law_take, sc__law_take, mt__law_take⟩
  · exact ⟨List.mem_append_left _ (List.mem_map.mpr ⟨_, by simp [defs], rfl⟩), glo_in rfl, bd__law_of, sc__law_of, mt__law_of⟩
  · exact ⟨List.mem_append_left _ (List.mem_map.mpr ⟨_, by simp [defs], rfl⟩), glo_in rfl, bd__law_foreign, sc__law_foreign, mt__law_foreign⟩
  · exact ⟨List.mem_append_left _ (List.mem_map.mpr ⟨_, by simp [defs], rfl⟩), glo_in rfl, bd__law_caught, sc__law_caught, mt__law_caught⟩
end Hd
open PySem PySem.W PySem.Calls PyProof.Rows
theorem Hd.glo_ok : ∀ (y : PySem.Str) (e : Lk.D), Hd.glo y = some e → ∃ i : Int, e = .int i ∧ He.Fa.int y i ∈ Hd.fa := by
  intro y e he
  unfold Hd.glo at he
  cases he
theorem Hd.cl_ok : ∀ (c f : PySem.Str), Hd.cl.f c = some f → ∃ cc q, cc ∈ Hd.cs.one ∧ cc.name = c ∧ cc.field = f ∧ cc.dd q ∈ Hd.fn ∧ He.Fa.glo c ∈ Hd.fa ∧ He.Fa.meth c "__init__" ∈ Hd.fa ∧ cc.good ∧ cc.binds q := by
  intro c f e
  unfold Hd.cl at e
  dsimp only at e
  by_cases h_0 : c = "BadValue"
  · subst h_0; rw [if_pos rfl] at e; cases e; exact ⟨Hd.c_BadValue, "BadValue.__init__", by simp [Hd.cs], rfl, rfl, List.mem_append_right _ (by simp), Hd.glo_in rfl, List.mem_append_right _ (by simp), Hd.cg_BadValue, Hd.cb_BadValue⟩
  rw [if_neg h_0] at e
  by_cases h_1 : c = "BadText"
  · subst h_1; rw [if_pos rfl] at e; cases e; exact ⟨Hd.c_BadText, "BadText.__init__", by simp [Hd.cs], rfl, rfl, List.mem_append_right _ (by simp), Hd.glo_in rfl, List.mem_append_right _ (by simp), Hd.cg_BadText, Hd.cb_BadText⟩
  rw [if_neg h_1] at e
  by_cases h_2 : c = "NoPoint"
  · subst h_2; rw [if_pos rfl] at e; cases e; exact ⟨Hd.c_NoPoint, "NoPoint.__init__", by simp [Hd.cs], rfl, rfl, List.mem_append_right _ (by simp), Hd.glo_in rfl, List.mem_append_right _ (by simp), Hd.cg_NoPoint, Hd.cb_NoPoint⟩
  rw [if_neg h_2] at e
  by_cases h_3 : c = "NoCell"
  · subst h_3; rw [if_pos rfl] at e; cases e; exact ⟨Hd.c_NoCell, "NoCell.__init__", by simp [Hd.cs], rfl, rfl, List.mem_append_right _ (by simp), Hd.glo_in rfl, List.mem_append_right _ (by simp), Hd.cg_NoCell, Hd.cb_NoCell⟩
  rw [if_neg h_3] at e
  cases e
theorem Hd.cz_ok : ∀ c : PySem.Str, Hd.cl.z c = true → Hd.cl.f c = none ∧ ∃ cc q, cc ∈ Hd.cs.zer ∧ cc.name = c ∧ cc.dd q ∈ Hd.fn ∧ He.Fa.glo c ∈ Hd.fa ∧ He.Fa.meth c "__init__" ∈ Hd.fa ∧ cc.good0 ∧ cc.binds0 q := by
  intro c e
  have e : (decide (c = "TooMany")) = true := e
  simp only [Bool.or_eq_true, decide_eq_true_eq] at e
  rcases e with rfl
  · exact ⟨rfl, Hd.c_TooMany, "TooMany.__init__", by simp [Hd.cs], rfl, List.mem_append_right _ (by simp), Hd.glo_in rfl, List.mem_append_right _ (by simp), Hd.cg_TooMany, Hd.cb_TooMany⟩
def Hd.ixB (p : PySem.Str × PySem.Str × Bool × Bool) : Bool := Hd.names.elem p.1 && (if p.2.2.1 then Hd.names.elem p.2.1 else Hd.frees.elem p.2.1 && (match bootBuiltins p.2.1 with | some (.type _) => true | _ => false))
theorem Hd.ix_all : Hd.ixs.all Hd.ixB = true := by decide +kernel
theorem Hd.ci_ok : ∀ (c t : PySem.Str) (b : Bool), Hd.cl.i c t = some b → ∃ own, (c, t, own, b) ∈ Hd.cs.ixs ∧ He.Fa.glo c ∈ Hd.fa ∧ (if own = true then He.Fa.glo t ∈ Hd.fa else He.Fa.free t ∈ Hd.fa ∧ ∃ T, bootBuiltins t = some (.type T)) := by
  intro c t b e
  have e : (Hd.ixs.find? fun p => p.1 == c && p.2.1 == t).map (fun p => p.2.2.2) = some b := e
  rw [Option.map_eq_some_iff] at e
  obtain ⟨p, h1, h2⟩ := e
  have hm := List.mem_of_find?_eq_some h1
  have hp := List.find?_some h1
  rw [Bool.and_eq_true, beq_iff_eq, beq_iff_eq] at hp
  obtain ⟨h3, h4⟩ := hp
  obtain ⟨c', t', own, b'⟩ := p
  dsimp only at h2 h3 h4
  subst h2 h3 h4
  have ha := List.all_eq_true.mp Hd.ix_all _ hm
  unfold Hd.ixB at ha
  dsimp only at ha
  rw [Bool.and_eq_true] at ha
  refine ⟨own, hm, Hd.glo_in ha.1, ?_⟩
  cases own with
  | true => exact Hd.glo_in ha.2
  | false =>
    have h5 := ha.2
    rw [if_neg (by decide), Bool.and_eq_true] at h5
    refine ⟨Hd.free_in (List.mem_of_elem_eq_true h5.1), ?_⟩
    have h6 := h5.2
    split at h6
    · exact ⟨_, by assumption⟩
    · cases h6
theorem Hd.finish (holds : ∀ ns : List Int, ns.length ≤ 63 → (∀ z ∈ ns, Builtin.Int.intBits z ≤ 1048576) → ∃ n', Lk.runD (Lk.tblC Hd.defs Hd.glo Hd.cl 30) Hd.b_law none Hd.d_law.N.length [Lk.scr ns] 0 = some (.ok (.bool true) n')) : PySem.Challenge.rw_levelkind_k00_errors.Holds := by
  w_on; o_law
  refine HandSHeadRun.head_any (r := OpenLaw.row PySem.Challenge.rw_levelkind_k00_errors) (q := view (OpenLaw.row PySem.Challenge.rw_levelkind_k00_errors).prog [15]) (H := Hd.hk) (ob := Hd.ob) (M := 4000) (loose := Hd.loose)
    (d := HandSHeadRun.topDef (OpenLaw.row PySem.Challenge.rw_levelkind_k00_errors).prog 15) (kwd := []) Hd.ob_eq (by kernel_rfl) (fun s => by kernel_rfl) Hd.run
    (by kernel_rfl) (by kernel_rfl) (by kernel_rfl) (by rfl)
    (by first | assumption | decide +kernel) (by decide +kernel)
    ⟨rfl, rfl, rfl, rfl, rfl, by decide +kernel⟩ ?hw ?hc
  case hw => w_witness2
  case hc =>
    exact Lk.walk_lk (l := PySem.Challenge.rw_levelkind_k00_errors) (n := 63) (k := 30) (x := "script") (ds := Hd.defs) (gl := Hd.glo) (cs := Hd.cs) (cl := Hd.cl) (law := Hd.d_law) rfl (by decide) (by kernel_rfl) ⟨rfl, by decide, by decide⟩
      (by kernel_rfl) rfl (List.mem_append_left _ (List.mem_cons_self ..)) (Hd.glo_in rfl) Hd.bd_law Hd.sc_law Hd.mt_law Hd.good (fun y hy => Hd.free_in (List.mem_append_left _ hy)) Hd.glo_ok Hd.cl_ok Hd.cz_ok Hd.ci_ok holds
end
section
set_option linter.all false
set_option maxRecDepth 100000
set_option maxHeartbeats 1000000
/-! Rows of whole numbers as tuples: equality, order, sorting. -/
namespace Mk
open PySem PySem.Spec PyProof.Rows L2 Lk
abbrev Vec := List Int
def iD (l : Vec) : List D := l.map PyData.int
def vD (l : Vec) : D := .tuple (iD l)
theorem eqv_iD : ∀ a b : Vec, PyData.eqvAll (iD a) (iD b) = decide (a = b)
  | [], [] => rfl
  | [], _ :: _ => by simp [iD, PyData.eqvAll]
  | _ :: _, [] => by simp [iD, PyData.eqvAll]
  | x :: a, y :: b => by
    have ih := eqv_iD a b
    unfold iD at ih ⊢
    simp only [List.map_cons, PyData.eqvAll, PyData.eqv, ih]
    by_cases h1 : x = y <;> by_cases h2 : a = b <;> simp [h1, h2]
theorem eqv_vD (a b : Vec) : PyData.eqv (vD a) (vD b) = decide (a = b) := by
  unfold vD; rw [PyData.eqv]; exact eqv_iD a b
theorem alike_iD : ∀ a b : Vec, PySem.W.alikeAll (iD a) (iD b) = true
  | [], [] => rfl
  | [], _ :: _ => by simp [iD, PySem.W.alikeAll]
  | _ :: _, [] => by simp [iD, PySem.W.alikeAll]
  | x :: a, y :: b => by
    have ih := alike_iD a b
    unfold iD at ih ⊢
    simp only [List.map_cons, PySem.W.alikeAll, PySem.W.alike, ih, Bool.and_self]
theorem alike_vD (a b : Vec) : PySem.W.alike (vD a) (vD b) = true := by unfold vD; rw [PySem.W.alike]; exact alike_iD a b
theorem lt_iD : ∀ a b : Vec, PyProof.Rows.lexLt itemOrd (PySem.W.keyToksAll (iD a)) (PySem.W.keyToksAll (iD b)) = decide (a < b)
  | [], [] => by simp [iD, PySem.W.keyToksAll, lex_irrefl (O := itemOrd)]
  | [], y :: b => by
    simp only [iD, List.map_cons, List.map_nil, PySem.W.keyToksAll]
    rw [lex_cons]; simp [itemLt]
  | x :: a, [] => by
    simp only [iD, List.map_cons, List.map_nil, PySem.W.keyToksAll]
    rw [lex_cons]; simp [itemLt]
  | x :: a, y :: b => by
    have ih := lt_iD a b
    unfold iD at ih ⊢
    simp only [List.map_cons, PySem.W.keyToksAll, PySem.W.keyToks, List.cons_append, List.nil_append]
    rw [lex_cons, lex_cons, ih]
    simp only [itemLt, List.cons_lt_cons_iff]
    by_cases h1 : x < y
    · simp [h1]
    · by_cases h2 : y < x
      · have : x ≠ y := by omega
        simp [h1, h2, this]
      · have : x = y := by omega
        simp [h1, this]
theorem lt_vD (a b : Vec) : PySem.W.dataLt (vD a) (vD b) = decide (a < b) := by
  unfold vD; rw [PySem.W.dataLt_tuple]; exact lt_iD a b
theorem nks_iD : ∀ a : Vec, nks (iD a) = some (a.map NestedKey.num)
  | [] => rfl
  | x :: a => by
    have ih := nks_iD a
    unfold iD at ih ⊢
    simp only [List.map_cons, nks, nk, ih]
theorem nk_vD (a : Vec) : nk (vD a) = some (.tup (a.map NestedKey.num)) := by unfold vD; rw [nk, nks_iD]; rfl
theorem nk_inj {a b : Vec} (h : nk (vD a) = nk (vD b)) : a = b := by
  rw [nk_vD, nk_vD] at h
  simp only [Option.some.injEq, NestedKey.tup.injEq] at h
  exact List.map_inj_right (fun x y z => by cases z; rfl) |>.mp h
theorem vD_inj {a b : Vec} (h : vD a = vD b) : a = b := nk_inj (by rw [h])
theorem nk_vD_iff (a b : Vec) : (nk (vD a) = nk (vD b)) ↔ a = b := ⟨nk_inj, fun h => by rw [h]⟩
theorem purs_iD : ∀ a : Vec, purs (iD a) = true
  | [] => rfl
  | x :: a => by
    have ih := purs_iD a
    unfold iD at ih ⊢
    simp only [List.map_cons, purs, pur, ih, Bool.and_self]
theorem pur_vD (a : Vec) : pur (vD a) = true := by unfold vD; rw [pur]; exact purs_iD a
theorem purs_map {α : Type} {f : α → D} (h : ∀ a, pur (f a) = true) : ∀ l : List α, purs (l.map f) = true
  | [] => rfl
  | a :: l => by rw [List.map_cons, purs, h, purs_map h l]; rfl
theorem purs_all : ∀ {l : List D}, (∀ d ∈ l, pur d = true) → purs l = true
  | [], _ => rfl
  | d :: l, h => by rw [purs, h d (List.mem_cons_self ..), purs_all fun e he => h e (List.mem_cons_of_mem _ he)]; rfl
theorem nods_iD : ∀ a : Vec, nods (iD a) = true
  | [] => rfl
  | x :: a => by
    have ih := nods_iD a
    unfold iD at ih ⊢
    simp only [List.map_cons, nods, nod, ih, Bool.and_self]
theorem nod_vD (a : Vec) : nod (vD a) = true := by unfold vD; rw [nod]; exact nods_iD a
theorem sort_vD (l : List Vec) : sortD (l.map vD) = (l.mergeSort fun a b => decide (a ≤ b)).map vD := by
  unfold sortD
  rw [← List.map_mergeSort (r := fun a b => decide (a ≤ b)) (f := vD)]
  intro a _ b _
  symm
  show PySem.W.dataLe false id (vD a) (vD b) = _
  have e : PySem.W.dataLe false id (vD a) (vD b) = !PySem.W.dataLt (vD b) (vD a) := rfl
  rw [e, lt_vD]
  by_cases h : b < a
  · simp [h]
  · simp [h, List.not_lt.mp h]
def srt (l : List Vec) : List Vec := l.mergeSort fun a b => decide (a ≤ b)
theorem srt_perm (l : List Vec) : (srt l).Perm l := List.mergeSort_perm ..
theorem srt_mem {l : List Vec} {a : Vec} : a ∈ srt l ↔ a ∈ l := (srt_perm l).mem_iff
theorem srt_le (l : List Vec) : (srt l).Pairwise (· ≤ ·) := by
  have := List.pairwise_mergeSort (le := fun a b : Vec => decide (a ≤ b)) (fun a b c h1 h2 => by simp at h1 h2 ⊢; exact List.le_trans h1 h2) (fun a b => by simp; exact List.le_total a b) l
  exact this.imp fun h => by simpa using h
theorem srt_lt {l : List Vec} (h : l.Nodup) : (srt l).Pairwise (· < ·) := by
  have h2 : (srt l).Nodup := (srt_perm l).nodup_iff.mpr h
  have := (srt_le l).and h2
  exact this.imp fun ⟨a, b⟩ => by
    rcases List.le_iff_lt_or_eq.mp a with q | q
    · exact q
    · exact absurd q b
theorem asc_nodup {l : List Vec} (h : l.Pairwise (· < ·)) : l.Nodup := h.imp fun q e => by subst e; exact List.lt_irrefl _ q
theorem asc_ext {l l' : List Vec} (h : l.Pairwise (· < ·)) (h' : l'.Pairwise (· < ·)) (m : ∀ a, a ∈ l ↔ a ∈ l') : l = l' := by
  have p : l.Perm l' := (List.perm_ext_iff_of_nodup (asc_nodup h) (asc_nodup h')).mpr m
  exact List.Perm.eq_of_pairwise (le := (· < ·)) (fun a b _ _ h1 h2 => absurd (List.lt_trans h1 h2) (List.lt_irrefl _)) h h' p
theorem depth_iD : ∀ a : Vec, PyData.depthAll (iD a) = 0
  | [] => rfl
  | x :: a => by
    have ih := depth_iD a
    unfold iD at ih ⊢
    simp only [List.map_cons, PyData.depthAll, PyData.depth, ih]; rfl
theorem depth_vD (a : Vec) : (vD a).depth = 1 := by unfold vD; rw [PyData.depth, depth_iD]
theorem lay_iD : ∀ a : Vec, PyData.canLayAll0 (iD a) = true
  | [] => rfl
  | x :: a => by
    have ih := lay_iD a
    unfold iD at ih ⊢
    simp only [List.map_cons, PyData.canLayAll0, PyData.canLay0, ih, Bool.and_self]
theorem lay_vD (a : Vec) : PyData.canLay0 (vD a) = true := by unfold vD; rw [PyData.canLay0]; exact lay_iD a
/-- data that can be compared by ==, in lists and tuples too -/
def Fl (m : Nat) (d : D) : Prop := PyData.canLay0 d = true ∧ d.depth ≤ m
theorem Fl.shp {m : Nat} {d : D} (h : Fl m d) (hm : m ≤ 64) : shp d = true := by
  unfold Lk.shp SeqAt.shaped; rw [h.1, Bool.true_and]; exact decide_eq_true (Nat.le_trans h.2 hm)
theorem Fl.vec (a : Vec) : Fl 1 (vD a) := ⟨lay_vD a, Nat.le_of_eq (depth_vD a)⟩
theorem Fl.all {m : Nat} : ∀ {xs : List D}, (∀ d ∈ xs, Fl m d) → PyData.canLayAll0 xs = true ∧ PyData.depthAll xs ≤ m
  | [], _ => ⟨rfl, Nat.zero_le _⟩
  | d :: xs, h => by
    obtain ⟨h1, h2⟩ := Fl.all fun e he => h e (List.mem_cons_of_mem _ he)
    obtain ⟨h3, h4⟩ := h d (List.mem_cons_self ..)
    exact ⟨by rw [PyData.canLayAll0, h1, h3]; rfl, by rw [PyData.depthAll]; omega⟩
theorem Fl.list {m : Nat} {xs : List D} (h : ∀ d ∈ xs, Fl m d) : Fl (m + 1) (.list xs) := ⟨by rw [PyData.canLay0]; exact (Fl.all h).1, by rw [PyData.depth]; have := (Fl.all h).2; omega⟩
theorem Fl.tuple {m : Nat} {xs : List D} (h : ∀ d ∈ xs, Fl m d) : Fl (m + 1) (.tuple xs) := ⟨by rw [PyData.canLay0]; exact (Fl.all h).1, by rw [PyData.depth]; have := (Fl.all h).2; omega⟩
theorem Fl.mono {m m' : Nat} {d : D} (h : Fl m d) (hm : m ≤ m') : Fl m' d := ⟨h.1, Nat.le_trans h.2 hm⟩
theorem Fl.none (m : Nat) : Fl m .none := ⟨rfl, by rw [PyData.depth]; exact Nat.zero_le _⟩
theorem Fl.int (m : Nat) (i : Int) : Fl m (.int i) := ⟨rfl, by rw [PyData.depth]; exact Nat.zero_le _⟩
theorem Fl.bool (m : Nat) (b : Bool) : Fl m (.bool b) := ⟨rfl, by rw [PyData.depth]; exact Nat.zero_le _⟩
/-- a row or None, as a datum -/
def oD : Option Vec → D
  | some a => vD a
  | none => .none
theorem Fl.opt (o : Option Vec) : Fl 1 (oD o) := by cases o; exact Fl.none 1; exact Fl.vec _
theorem eqv_oD (o : Option Vec) (a : Vec) : PyData.eqv (oD o) (vD a) = decide (o = some a) := by
  cases o with
  | none => simp [oD, vD, PyData.eqv]
  | some b => rw [oD, eqv_vD]; simp
theorem eqv_oD2 (o p : Option Vec) : PyData.eqv (oD o) (oD p) = decide (o = p) := by
  cases p with
  | none => cases o <;> simp [oD, vD, PyData.eqv]
  | some a => exact eqv_oD o a
theorem eqvAll_oD : ∀ xs ys : List (Option Vec), PyData.eqvAll (xs.map oD) (ys.map oD) = decide (xs = ys)
  | [], [] => rfl
  | [], _ :: _ => by simp [PyData.eqvAll]
  | _ :: _, [] => by simp [PyData.eqvAll]
  | x :: xs, y :: ys => by
    rw [List.map_cons, List.map_cons, PyData.eqvAll, eqv_oD2, eqvAll_oD xs ys]
    by_cases h1 : x = y <;> by_cases h2 : xs = ys <;> simp [h1, h2]
theorem vD_oD (l : List Vec) : l.map vD = (l.map some).map oD := by rw [List.map_map]; rfl
theorem any_oD (os : List (Option Vec)) (a : Vec) : ((os.map oD).any fun z => PyData.eqv z (vD a)) = decide (some a ∈ os) := by
  rw [Bool.eq_iff_iff, List.any_map, List.any_eq_true, decide_eq_true_eq]
  constructor
  · rintro ⟨o, ho, e⟩
    simp only [Function.comp, eqv_oD, decide_eq_true_eq] at e
    rw [← e]; exact ho
  · intro h
    exact ⟨some a, h, by simp [Function.comp, eqv_oD]⟩
theorem any_vD (os : List Vec) (a : Vec) : ((os.map vD).any fun z => PyData.eqv z (vD a)) = decide (a ∈ os) := by
  rw [vD_oD, any_oD, Bool.eq_iff_iff]; simp
theorem dhas_vD {α : Type} (l : List (Vec × α)) (a : Vec) : dhas (l.map fun p => (vD p.1, p.2)) (vD a) = decide (a ∈ l.map (·.1)) := by
  unfold dhas
  rw [Bool.eq_iff_iff, List.any_map, List.any_eq_true, decide_eq_true_eq]
  simp only [Function.comp, decide_eq_true_eq, nk_vD_iff, List.mem_map]
theorem deep_num : ∀ a : Vec, NestedKey.depthAll (a.map NestedKey.num) = 0
  | [] => rfl
  | x :: a => by
    have ih := deep_num a
    simp only [List.map_cons, NestedKey.depthAll, NestedKey.depth, ih]; rfl
theorem numKs_num : ∀ a : Vec, numKs (a.map NestedKey.num) = true
  | [] => rfl
  | x :: a => by
    have ih := numKs_num a
    simp only [List.map_cons, numKs, numK, ih]; rfl
theorem keyT_vD (a : Vec) : keyT (vD a) = true := by
  have h := nk_vD a
  unfold vD at h
  show (match nk (.tuple (iD a)) with | some k => decide (k.depth ≤ 8) | none => false) = true
  rw [h]
  simp [NestedKey.depth, deep_num]
theorem keyN_vD (a : Vec) : keyN (vD a) = true := by
  unfold keyN
  rw [keyT_vD, nk_vD]
  simp [numK, numKs_num]
theorem sortOk_vD {l : List Vec} (h : ∀ a ∈ l, a ≠ []) : sortOk (l.map vD) = true := by
  unfold sortOk
  rw [Bool.and_eq_true]
  constructor
  · rw [List.all_eq_true]
    intro x hx
    rw [List.all_eq_true]
    intro y hy
    obtain ⟨a, _, rfl⟩ := List.mem_map.mp hx
    obtain ⟨b, _, rfl⟩ := List.mem_map.mp hy
    rw [alike_vD, depth_vD]; rfl
  · rw [Bool.or_eq_true]
    left
    rw [List.all_eq_true]
    intro x hx
    obtain ⟨a, ha, rfl⟩ := List.mem_map.mp hx
    cases a with
    | nil => exact absurd rfl (h [] ha)
    | cons i a => rfl
theorem atI_map {α : Type} (f : α → D) (l : List α) (i : Nat) (a : α) (h : l[i]? = some a) : atI (l.map f) (i : Int) = some (f a) := by
  have hl := (List.getElem?_eq_some_iff.mp h).1
  unfold atI
  obtain ⟨_, e⟩ := List.getElem?_eq_some_iff.mp h
  simp [ixN, hl, e]
end Mk
end
section
set_option linter.all false
set_option maxRecDepth 100000
set_option maxHeartbeats 1000000
/-! Walks. -/
namespace Mk
open PySem PySem.Spec PyProof.Rows L2 Lk
theorem loopC_pure {α : Type} {f : D → Int → OT → M OT} {n : Int} (c : α → D) (g : α → List D) : ∀ (l : List α) (acc : List D), (∀ a ∈ l, ∀ acc, f (c a) n (.li acc) = some (.ok (.li (acc ++ g a)) n)) → loopC f (l.map c) n (.li acc) = some (.ok (.li (acc ++ l.flatMap g)) n)
  | [], acc, _ => by simp [loopC]
  | a :: l, acc, h => by
    rw [List.map_cons, loopC, h a (List.mem_cons_self ..)]
    show loopC f (l.map c) n (.li (acc ++ g a)) = _
    rw [loopC_pure c g l _ fun b hb => h b (List.mem_cons_of_mem _ hb)]
    simp
theorem loopC_li {α : Type} {f : D → Int → OT → M OT} {n : Int} (c : α → D) (g : α → List D) (l : List α) (h : ∀ a ∈ l, ∀ acc, f (c a) n (.li acc) = some (.ok (.li (acc ++ g a)) n)) : loopC f (l.map c) n (.li []) = some (.ok (.li (l.flatMap g)) n) := by
  rw [loopC_pure c g l [] h]; simp
/-- a walk by a statement that goes on -/
theorem loopS_inv {f : D → En → Int → Option So} (P : List D → En → Int → Prop) : ∀ (xs : List D) (E : En) (n : Int), P xs E n → (∀ x r E n, P (x :: r) E n → ∃ E' n', f x E n = some (.nx E' n') ∧ P r E' n') → ∃ E' n', loopS f xs E n = some (.nx E' n') ∧ P [] E' n'
  | [], E, n, h, _ => ⟨E, n, rfl, h⟩
  | x :: r, E, n, h, st => by
    obtain ⟨E', n', e, h'⟩ := st x r E n h
    obtain ⟨E2, n2, e2, h2⟩ := loopS_inv P r E' n' h' st
    exact ⟨E2, n2, by rw [loopS, e]; exact e2, h2⟩
end Mk
end
section
set_option linter.all false
set_option maxRecDepth 100000
set_option maxHeartbeats 1000000
namespace Mk
open PySem PySem.Spec PyProof.Rows L2 Lk Hd
theorem fn__law_so (k : Nat) : (tblC defs glo cl (k + 1)).fn "_law_so" = some ⟨["found", "meant"], none, runD (tblC defs glo cl k) b__law_so (none) 3⟩ := (rfl)
theorem fn__law_numbers (k : Nat) : (tblC defs glo cl (k + 1)).fn "_law_numbers" = some ⟨["script"], none, runD (tblC defs glo cl k) b__law_numbers (none) 6⟩ := (rfl)
theorem fn__law_draw (k : Nat) : (tblC defs glo cl (k + 1)).fn "_law_draw" = some ⟨["row", "at", "limit"], none, runD (tblC defs glo cl k) b__law_draw (none) 4⟩ := (rfl)
theorem fn__law_take (k : Nat) : (tblC defs glo cl (k + 1)).fn "_law_take" = some ⟨["row", "spot", "limit"], some 1, runD (tblC defs glo cl k) b__law_take (some 1) 3⟩ := (rfl)
theorem fn__law_of (k : Nat) : (tblC defs glo cl (k + 1)).fn "_law_of" = some ⟨["value"], none, runD (tblC defs glo cl k) b__law_of (none) 2⟩ := (rfl)
theorem fn__law_foreign (k : Nat) : (tblC defs glo cl (k + 1)).fn "_law_foreign" = some ⟨["value"], none, runD (tblC defs glo cl k) b__law_foreign (none) 1⟩ := (rfl)
theorem fn__law_caught (k : Nat) : (tblC defs glo cl (k + 1)).fn "_law_caught" = some ⟨["at"], none, runD (tblC defs glo cl k) b__law_caught (none) 2⟩ := (rfl)
end Mk
end
section
set_option linter.all false
set_option maxRecDepth 100000
set_option maxHeartbeats 1000000
/-! Reckoning step by step; what the defs on single things come to. -/
namespace Mk
open PySem PyProof.Rows L2 Lk Hd
section
variable {tb : Tb} {E : En} {n : Int}
theorem bind_ok {α β : Type} (a : α) (n : Int) (f : α → Int → M β) : M.bind (some (.ok a n)) f = f a n := (rfl)
theorem of_some {α : Type} (a : α) (n : Int) : M.of (some a) n = some (.ok a n) := (rfl)
theorem calm_ok {α : Type} (a : α) (n : Int) : M.calm (some (.ok a n)) = some (.ok a n) := (rfl)
theorem Sof_ok {α : Type} (a : α) (n : Int) (f : α → Int → Option So) : So.of (some (.ok a n)) f = f a n := (rfl)
theorem Sthen_nx (E : En) (n : Int) (f : En → Int → Option So) : So.then (some (.nx E n)) f = f E n := (rfl)
theorem Sthen_rt (d : D) (n : Int) (f : En → Int → Option So) : So.then (some (.rt d n)) f = some (.rt d n) := (rfl)
theorem dat_im (d : D) : R.dat (.im d) = some d := (rfl)
theorem dat_fr (t : OT) : R.dat (.fr t) = t.dat := (rfl)
theorem dat_bw (t : OT) : R.dat (.bw t) = t.dat := (rfl)
theorem dat_bo (d : D) : R.dat (.bo d) = some d := (rfl)
theorem dat_li (xs : List D) : OT.dat (.li xs) = some (.list xs) := (rfl)
theorem dat_di (xs : List (D × D)) : OT.dat (.di xs) = some (.dict xs) := (rfl)
theorem fix_im (d : D) : R.fix (.im d) = some d := (rfl)
theorem fix_fr (t : OT) : R.fix (.fr t) = t.dat := (rfl)
theorem kids_im (d : D) : R.kids (.im d) = true := (rfl)
theorem kids_fr_li (xs : List D) : R.kids (.fr (.li xs)) = true := (rfl)
theorem kids_bw_li (xs : List D) : R.kids (.bw (.li xs)) = true := (rfl)
theorem walk_im (st : Bool) (d : D) : walkOf st (.im d) = itemsOf d := by cases st <;> simp [walkOf, R.dat, R.kids]
theorem walk_fr_li (st : Bool) (xs : List D) : walkOf st (.fr (.li xs)) = some xs := by cases st <;> rfl
theorem walk_bw_li (xs : List D) : walkOf false (.bw (.li xs)) = some xs := (rfl)
theorem items_li (xs : List D) : itemsOf (.list xs) = some xs := (rfl)
theorem items_tu (xs : List D) : itemsOf (.tuple xs) = some xs := (rfl)
theorem bindT_im (E : En) (i : Nat) (d : D) : bindT E (.nm i) (.im d) = setN E i (.im d) := (rfl)
theorem bindT_fr (E : En) (i : Nat) (t : OT) : bindT E (.nm i) (.fr t) = setN E i (.mu t) := (rfl)
theorem bindT_tu (E : En) (is : List Nat) (ds : List D) : bindT E (.tp is) (.im (.tuple ds)) = setNs E is ds := (rfl)
theorem bindT_li (E : En) (is : List Nat) (ds : List D) : bindT E (.tp is) (.fr (.li ds)) = setNs E is ds := (rfl)
theorem put_li (xs : List D) (d : D) : putL (.li xs) (.im d) = some (.li (xs ++ [d])) := (rfl)
theorem app_li (xs : List D) (d : D) : appT (.li xs) (.im d) = if xs.length < cap then some (.li (xs ++ [d])) else none := (rfl)
theorem v_im {i : Nat} {d : D} (h : E[i]? = some (some (.im d))) : evE tb (.var i) E n = some (.ok (.im d) n) := by rw [evE, h]
theorem v_mu {i : Nat} {t : OT} (h : E[i]? = some (some (.mu t))) : evE tb (.var i) E n = some (.ok (.bw t) n) := by rw [evE, h]
theorem v_sp {i : Nat} (h : E[i]? = some (some .sp)) : evE tb (.var i) E n = some (.ok .sp n) := by rw [evE, h]
theorem e_lit (d : D) : evE tb (.lit d) E n = some (.ok (.im d) n) := by rw [evE]
theorem e_glob (x : Str) : evE tb (.glob x) E n = (tb.gl x).map fun d => .ok (.im d) n := by rw [evE]
theorem e_bin (op : BOp) (a b : P) : evE tb (.bin op a b) E n = (evE tb a E n).bind fun x n => (evE tb b E n).bind fun y n => M.of (opBin op x y) n := by rw [evE]
theorem e_neg (a : P) : evE tb (.neg a) E n = (evE tb a E n).bind fun x n => M.of ((opInt x).map fun i => .im (.int (-i))) n := by rw [evE]
theorem e_cmp (op : COp) (a b : P) : evE tb (.cmp op a b) E n = (evE tb a E n).bind fun x n => (evE tb b E n).bind fun y n => M.of ((opCmp op x y).map fun c => .im (.bool c)) n := by rw [evE]
theorem e_cmp2 (o1 o2 : COp) (a b c : P) : evE tb (.cmp2 o1 o2 a b c) E n = (evE tb a E n).bind fun x n => (evE tb b E n).bind fun y n => (M.of (opCmp o1 x y) n).bind fun k n =>
      if k then (evE tb c E n).bind fun z n => M.of ((opCmp o2 y z).map fun c => .im (.bool c)) n else some (.ok (.im (.bool false)) n) := by rw [evE]
theorem e_bool (q : Bool) (as : P) : evE tb (.bool q as) E n = evB tb q as E n := by rw [evE]
theorem e_nott (a : P) : evE tb (.nott a) E n = (evT tb a E n).bind fun c n => some (.ok (.im (.bool (!c))) n) := by rw [evE]
theorem e_ife (c a b : P) : evE tb (.ife c a b) E n = (evT tb c E n).bind fun k n => if k then evE tb a E n else evE tb b E n := by rw [evE]
theorem e_tup (as : P) : evE tb (.tup as) E n = (evA tb as E n).bind fun rs n => M.of ((fixAll rs).map fun ds => .im (.tuple ds)) n := by rw [evE]
theorem e_lst (as : P) : evE tb (.lst as) E n = (evA tb as E n).bind fun rs n => M.of ((fixAll rs).map fun ds => .fr (.li ds)) n := by rw [evE]
theorem e_dct0 : evE tb (.dct .no) E n = some (.ok (.fr (.di [])) n) := by rw [evE, evA]; rfl
theorem e_idx (a b : P) : evE tb (.idx a b) E n = (evE tb a E n).bind fun x n => (evE tb b E n).bind fun y n => M.of (opIdxN x y n) n := by rw [evE]
theorem e_slc (a lo hi : P) : evE tb (.slc a lo hi) E n = (evE tb a E n).bind fun x n => (evO tb lo E n).bind fun l n => (evO tb hi E n).bind fun h n => M.of (opSlc x l h) n := by rw [evE]
theorem e_call (f : Str) (as : P) : evE tb (.call f as []) E n = match tb.fn f with
    | some fn => (evA tb as E n).bind fun rs n => opCall fn rs n
    | none => none := by rw [evE]; cases tb.fn f <;> simp
theorem e_bi (b : Bi) (as : P) : evE tb (.bi b as) E n = (evA tb as E n).bind fun rs n => M.of (opBi b rs) n := by rw [evE]
theorem e_isin (a : P) (ts : List Str) : evE tb (.isin a ts) E n = (evE tb a E n).bind fun x n => M.of ((x.dat.bind fun d => isTysX tb d ts).map fun c => .im (.bool c)) n := by rw [evE]
theorem ty_no {tb : Tb} {d : D} {ts : List Str} (h : excOf d = none) : isTysX tb d ts = isTys d ts := by unfold isTysX; rw [h]
theorem a_no : evA tb .no E n = some (.ok [] n) := by rw [evA]
theorem a_cons (a as : P) : evA tb (.cons a as) E n = (evE tb a E n).bind fun r n => (evA tb as E n).bind fun rs n => some (.ok (r :: rs) n) := by rw [evA]
/-- calls of defs that draw nothing -/
theorem call1 {f p : Str} {tb' : Tb} {b : S} {sz : Nat} {a : P} {r : Lk.R} {d e : D} (hf : tb.fn f = some ⟨[p], none, runD tb' b none sz⟩) (ha : evE tb a E n = some (.ok r n)) (hx : r.fix = some d) (h : runD tb' b none sz [d] n = some (.ok e n)) :
    evE tb (.call f (.cons a .no) []) E n = some (.ok (.im e) n) := by
  rw [e_call, hf]
  simp only [a_cons, a_no, ha, bind_ok]
  simp [opCall, argsOf, hx, h]
theorem call2 {f p q : Str} {tb' : Tb} {b : S} {sz : Nat} {a a2 : P} {r r2 : Lk.R} {d d2 e : D} (hf : tb.fn f = some ⟨[p, q], none, runD tb' b none sz⟩) (ha : evE tb a E n = some (.ok r n)) (hx : r.fix = some d) (ha2 : evE tb a2 E n = some (.ok r2 n)) (hx2 : r2.fix = some d2) (h : runD tb' b none sz [d, d2] n = some (.ok e n)) :
    evE tb (.call f (.cons a (.cons a2 .no)) []) E n = some (.ok (.im e) n) := by
  rw [e_call, hf]
  simp only [a_cons, a_no, ha, ha2, bind_ok]
  simp [opCall, argsOf, hx, hx2, h]
theorem b_last (q : Bool) (a : P) : evB tb q (.cons a .no) E n = evE tb a E n := by rw [evB]
theorem b_cons (q : Bool) (a b as : P) : evB tb q (.cons a (.cons b as)) E n = (evE tb a E n).bind fun r n => match r with
    | .im (.bool c) => if c = q then evB tb q (.cons b as) E n else some (.ok (.im (.bool c)) n)
    | _ => none := by rw [evB] <;> first | rfl | (intro h; cases h)
theorem bt_last (q : Bool) (a : P) : evBT tb q (.cons a .no) E n = evT tb a E n := by rw [evBT]
theorem bt_cons (q : Bool) (a b as : P) : evBT tb q (.cons a (.cons b as)) E n = (evT tb a E n).bind fun c n => if c = q then evBT tb q (.cons b as) E n else some (.ok c n) := by rw [evBT] <;> first | rfl | (intro h; cases h)
theorem t_bool (q : Bool) (as : P) : evT tb (.bool q as) E n = evBT tb q as E n := by rw [evT]
theorem t_nott (a : P) : evT tb (.nott a) E n = (evT tb a E n).bind fun c n => some (.ok (!c) n) := by rw [evT]
theorem t_tv (a : P) : evT tb (.tv a) E n = (evE tb a E n).bind fun r n => M.of (r.dat.bind truth) n := by rw [evT]
theorem o_no : evO tb .no E n = some (.ok none n) := by rw [evO]
theorem o_one (a : P) : evO tb (.cons a .no) E n = (evE tb a E n).bind fun r n => M.of ((opInt r).map some) n := by rw [evO]
theorem w_rng (st : Bool) (as : P) : evW tb st (.rng as) E n = (evA tb as E n).bind fun rs n => M.of ((datAll rs).bind fun ds => (intsOf ds).bind rngOf) n := by rw [evW]
theorem w_itr (st : Bool) (a : P) : evW tb st (.itr a) E n = (evE tb a E n).bind fun x n => M.of (walkOf st x) n := by rw [evW]
theorem i_no : evIf tb .no E n = some (.ok true n) := by rw [evIf]
theorem i_cons (c cs : P) : evIf tb (.cons c cs) E n = (evT tb c E n).bind fun k n => if k then evIf tb cs E n else some (.ok false n) := by rw [evIf]
theorem c_no (acc : OT) (f : En → Int → OT → M OT) : evC tb .no E n acc f = f E n acc := by rw [evC]
theorem s_done : evS tb .done E n = some (.nx E n) := by rw [evS]
theorem s_asg (tg : Tg) (e : P) (r : S) : evS tb (.asg tg e r) E n = So.of (evE tb e (frz E (consP e)) n) fun x n => (bindT (frz E (consP e)) tg x).bind fun E => evS tb r E n := by rw [evS]
theorem s_ret (e : P) : evS tb (.ret e) E n = So.of (evE tb e (frz E (varOf e ++ consP e)) n) fun x n => (retD x).map fun d => .rt d n := by rw [evS]
theorem s_ife (c : P) (a b r : S) : evS tb (.ife c a b r) E n = So.of (evT tb c E n) fun k n => So.then (if k then evS tb a E n else evS tb b E n) fun E n => evS tb r E n := by rw [evS]
theorem s_app (o : Nat) (e : P) (r : S) : evS tb (.app o e r) E n = if liAt (frz E (varOf e ++ consP e)) o then So.of (evE tb e (frz E (varOf e ++ consP e)) n) fun x n => (muAt (frz E (varOf e ++ consP e)) o).bind fun t => (appT t x).bind fun t => evS tb r ((frz E (varOf e ++ consP e)).set o (some (.mu t))) n else none := by rw [evS]
theorem s_brk : evS tb .brk E n = some (.bk E n) := by rw [evS]
theorem run_rt {b : S} {pos : Option Nat} {size : Nat} {ds : List D} {d : D} {n' : Int} (h : evS tb b (entry pos 0 ds ++ List.replicate (size - ds.length) none) n = some (.rt d n')) : runD tb b pos size ds n = some (.ok d n') := by rw [runD, h]
theorem k_len (r : Lk.R) : opBi .len [r] = biLen r := (rfl)
theorem k_int (r : Lk.R) : opBi .int [r] = biInt r := (rfl)
theorem k_all (r : Lk.R) : opBi .all [r] = biAll r := (rfl)
theorem k_max1 (r : Lk.R) : opBi .max1 [r] = biBest (fun x m => decide (m < x)) r := (rfl)
theorem k_min1 (r : Lk.R) : opBi .min1 [r] = biBest (fun x m => decide (x < m)) r := (rfl)
theorem k_sorted (r : Lk.R) : opBi .sorted [r] = biSorted r := (rfl)
theorem k_tuple (r : Lk.R) : opBi .tuple [r] = biTuple r := (rfl)
theorem b_int (i : Int) : biInt (.im (.int i)) = some (.im (.int i)) := (rfl)
/-- a comprehension that gives a list and draws nothing -/
theorem e_comp {vs : List Nat} {tg : Tg} {it ifs rest e1 : P} (xs : List D) (g : D → List D) (hw : evW tb false it E n = some (.ok xs n)) (hc : (xs.flatMap g).length ≤ cap)
    (hs : ∀ x ∈ xs, ∀ acc, (match bindT (wipeE E vs) tg (.im x) with
      | some E1 => (evIf tb ifs E1 n).calm.bind fun c n => if c then evC tb rest E1 n (.li acc) (fun E2 n acc => (evE tb e1 E2 n).calm.bind fun r n => M.of (putL acc r) n) else some (.ok (.li acc) n)
      | none => none) = some (.ok (.li (acc ++ g x)) n)) : evE tb (.comp .li vs tg it ifs rest e1 .no) E n = some (.ok (.fr (.li (xs.flatMap g))) n) := by
  rw [evE, hw]
  have := loopC_li (f := fun x n acc => match bindT (wipeE E vs) tg (.im x) with | some E1 => (evIf tb ifs E1 n).calm.bind fun c n => if c then evC tb rest E1 n acc (fun E2 n acc => (evE tb e1 E2 n).calm.bind fun r n => M.of (putL acc r) n) else some (.ok acc n) | none => none) (n := n) id g xs hs
  rw [List.map_id] at this
  exact Eq.trans (congrArg (fun m : M OT => (M.calm m).bind fun t n => if sizeC t ≤ cap then some (Ro.ok (Lk.R.fr t) n) else none) this) (if_pos hc)
/-- a further clause -/
theorem c_gen {vs : List Nat} {tg : Tg} {it ifs rest : P} {acc : List D} {f : En → Int → OT → M OT} (xs : List D) (g : D → List D) (hw : evW tb true it E n = some (.ok xs n))
    (hs : ∀ x ∈ xs, ∀ acc, (match bindT (wipeE E vs) tg (.im x) with
      | some E1 => (evIf tb ifs E1 n).calm.bind fun c n => if c then evC tb rest E1 n (.li acc) f else some (.ok (.li acc) n)
      | none => none) = some (.ok (.li (acc ++ g x)) n)) : evC tb (.gen vs tg it ifs rest) E n (.li acc) f = some (.ok (.li (acc ++ xs.flatMap g)) n) := by
  rw [evC, hw]
  show loopC _ xs n (OT.li acc) = _
  have := loopC_pure (f := fun x n acc => match bindT (wipeE E vs) tg (.im x) with | some E1 => (evIf tb ifs E1 n).calm.bind fun c n => if c then evC tb rest E1 n acc f else some (.ok acc n) | none => none) (n := n) id g xs acc hs
  rw [List.map_id] at this
  exact this
end
theorem beq_dec (i j : Int) : (i == j) = decide (i = j) := by rw [Bool.eq_iff_iff]; simp
def isI : D → Bool
  | .int _ => true
  | _ => false
def isB : D → Bool
  | .bool _ => true
  | _ => false
def isT : D → Bool
  | .tuple _ => true
  | _ => false
def isS : D → Bool
  | .str _ => true
  | _ => false
def isL : D → Bool
  | .list _ => true
  | _ => false
theorem ty_int (d : D) (h : isDct d = false) : isTys d ["int"] = some (isI d || isB d) := by
  unfold isTys isTys isTy; rw [h, if_neg (by decide), if_pos rfl]; cases d <;> rfl
theorem ty_bool (d : D) (h : isDct d = false) : isTys d ["bool"] = some (isB d) := by
  unfold isTys isTys isTy; rw [h, if_neg (by decide), if_neg (by decide +kernel), if_pos rfl]; cases d <;> rfl
theorem ty_str (d : D) (h : isDct d = false) : isTys d ["str"] = some (isS d) := by
  unfold isTys isTys isTy; rw [h, if_neg (by decide), if_neg (by decide +kernel), if_neg (by decide +kernel), if_pos rfl]; cases d <;> rfl
theorem ty_list (d : D) (h : isDct d = false) : isTys d ["list"] = some (isL d) := by
  unfold isTys isTys isTy; rw [h, if_neg (by decide), if_neg (by decide +kernel), if_neg (by decide +kernel), if_neg (by decide +kernel), if_pos rfl]; cases d <;> rfl
theorem ty_tup (d : D) (h : isDct d = false) : isTys d ["tuple"] = some (isT d) := by
  unfold isTys isTys isTy; rw [h, if_neg (by decide), if_neg (by decide +kernel), if_neg (by decide +kernel), if_neg (by decide +kernel), if_neg (by decide +kernel), if_pos rfl]; cases d <;> rfl
theorem ty_seq (d : D) (h : isDct d = false) : isTys d ["list", "tuple"] = some (itemsOf d).isSome := by
  rw [isTys, ty_tup d h]
  unfold isTy
  rw [h, if_neg (by decide), if_neg (by decide +kernel), if_neg (by decide +kernel), if_neg (by decide +kernel), if_pos rfl]; cases d <;> rfl
theorem len_seq {d : D} {xs : List D} (h : itemsOf d = some xs) : lenD d = some xs.length := by cases d <;> simp [itemsOf] at h <;> subst h <;> rfl
theorem cmp_int (op : COp) (i j : Int) : opCmp .eq (.im (.int i)) (.im (.int j)) = some (decide (i = j)) := by
  simp [opCmp, R.dat, cmpD, PyData.eqv, shp, SeqAt.shaped, PyData.canLay0, PyData.depth, beq_dec]
theorem ne_int (i j : Int) : opCmp .ne (.im (.int i)) (.im (.int j)) = some (!decide (i = j)) := by
  simp [opCmp, R.dat, cmpD, PyData.eqv, shp, SeqAt.shaped, PyData.canLay0, PyData.depth, beq_dec]
end Mk
end
section
set_option linter.all false
set_option maxRecDepth 100000
set_option maxHeartbeats 1000000
/-! integers(value, many), root cells, halves, corners of a cell -/
namespace Mk
open PySem PyProof.Rows L2 Lk Hd
abbrev T (k : Nat) : Tb := tblC defs glo cl k
theorem nod_items {v : D} {xs : List D} (h : nod v = true) (e : itemsOf v = some xs) : ∀ d ∈ xs, nod d = true := by
  have hs : nods xs = true := by cases v <;> simp [itemsOf] at e <;> subst e <;> simpa [nod] using h
  clear h e
  induction xs with
  | nil => intro d hd; cases hd
  | cons x xs ih =>
    rw [nods, Bool.and_eq_true] at hs
    intro d hd
    rcases List.mem_cons.mp hd with rfl | hd
    · exact hs.1
    · exact ih hs.2 d hd
theorem nod_dct {v : D} (h : nod v = true) : isDct v = false := by cases v <;> first | rfl | (simp [nod] at h)
theorem bools_map {α : Type} (f : α → Bool) : ∀ l : List α, boolsOf (l.map fun a => PyData.bool (f a)) = some (l.map f)
  | [] => rfl
  | a :: l => by rw [List.map_cons, boolsOf, bools_map f l]; rfl
theorem intsOf_all : ∀ xs : List D, (intsOf xs).isSome = xs.all isI
  | [] => rfl
  | .int i :: xs => by rw [intsOf, Option.isSome_map, intsOf_all xs]; rfl
  | .none :: xs => rfl
  | .bool _ :: xs => rfl
  | .str _ :: xs => rfl
  | .list _ :: xs => rfl
  | .tuple _ :: xs => rfl
  | .dict _ :: xs => rfl
theorem intsOf_eq : ∀ {xs : List D} {l : Vec}, intsOf xs = some l → xs = iD l
  | [], l, h => by cases h; rfl
  | .int i :: xs, l, h => by
    rw [intsOf, Option.map_eq_some_iff] at h
    obtain ⟨l', h', rfl⟩ := h
    rw [intsOf_eq h']; rfl
  | .none :: xs, _, h => by cases h
  | .bool _ :: xs, _, h => by cases h
  | .str _ :: xs, _, h => by cases h
  | .list _ :: xs, _, h => by cases h
  | .tuple _ :: xs, _, h => by cases h
  | .dict _ :: xs, _, h => by cases h
theorem intsOf_iD : ∀ l : Vec, intsOf (iD l) = some l
  | [] => rfl
  | i :: l => by
    have ih := intsOf_iD l
    unfold iD at ih ⊢
    rw [List.map_cons, intsOf, ih]; rfl
theorem tuple_seq {v : D} {xs : List D} (e : itemsOf v = some xs) : biTuple (.im v) = some (.im (.tuple xs)) := by
  cases v <;> simp [itemsOf] at e <;> subst e <;> rfl
theorem flat_one {α β : Type} (f : α → β) (xs : List α) : (xs.flatMap fun d => [f d]) = xs.map f := by
  induction xs with
  | nil => rfl
  | cons x xs ih => rw [List.flatMap_cons, ih]; rfl
/-- the value as a row of so many whole numbers -/
def rowF (v : D) (m : Nat) : Option Vec := match itemsOf v with
  | some xs => if xs.length = m then intsOf xs else none
  | none => none
end Mk
end
section
set_option linter.all false
set_option maxRecDepth 100000
set_option maxHeartbeats 1000000
/-! cells -/
namespace Mk
open PySem PyProof.Rows L2 Lk Hd
/-- the corners of a cell at x, y, z of the side s -/
def crn (x y z s : Int) : List Vec := [[x, y, z], [x, y, z + s], [x, y + s, z], [x, y + s, z + s], [x + s, y, z], [x + s, y, z + s], [x + s, y + s, z], [x + s, y + s, z + s]]
def hlv (x y z s : Int) : List Vec := (crn x y z (s.fdiv 2)).map fun p => p ++ [s.fdiv 2]
def cnr : Vec → List Vec
  | [x, y, z, s] => crn x y z s
  | _ => []
def hl : Vec → List Vec
  | [x, y, z, s] => hlv x y z s
  | _ => []
theorem four {c : Vec} (h : c.length = 4) : ∃ x y z s, c = [x, y, z, s] := by
  match c, h with
  | [x, y, z, s], _ => exact ⟨x, y, z, s, rfl⟩
/-- the root cells of a box -/
def rts (a b c : Nat) : List Vec := (List.range a).flatMap fun (x : Nat) => (List.range b).flatMap fun (y : Nat) => (List.range c).map fun (z : Nat) => [8 * (x : Int), 8 * (y : Int), 8 * (z : Int), 8]
/-- the sizes that are met -/
def sz8 : List (Nat × Nat × Nat) := [(1, 1, 1), (1, 1, 2), (1, 2, 1), (1, 2, 2), (2, 1, 1), (2, 1, 2), (2, 2, 1), (2, 2, 2)]
def sz12 : List (Nat × Nat × Nat) := sz8 ++ [(3, 1, 1), (1, 3, 2), (2, 2, 3), (1, 1, 0)]
def sv (t : Nat × Nat × Nat) : Vec := [(t.1 : Int), (t.2.1 : Int), (t.2.2 : Int)]
def rt (t : Nat × Nat × Nat) : List Vec := rts t.1 t.2.1 t.2.2
theorem all8 {p : Nat × Nat × Nat → Prop} (h : ∀ t ∈ sz8, p t) {t : Nat × Nat × Nat} (ht : t ∈ sz8) : p t := h t ht
theorem rt_facts : ∀ t ∈ sz12, (rt t).length ≤ 12 ∧ (rt t).all (fun r => r.length == 4) = true ∧ (rt t).Pairwise (· < ·) ∧ ((rt t).flatMap hl).Nodup := by decide +kernel
end Mk
end
section
set_option linter.all false
set_option maxRecDepth 100000
set_option maxHeartbeats 1000000
/-! the program's cells and corners -/
namespace Mk
open PySem PyProof.Rows L2 Lk Hd
theorem inn_seq {a : Vec} {x y : Lk.R} {d : D} {os : List (Option Vec)} (hx : x.dat = some (vD a)) (hy : y.dat = some d) (hi : itemsOf d = some (os.map oD)) : opCmp .inn x y = some (decide (some a ∈ os)) ∧ opCmp .nin x y = some (!decide (some a ∈ os)) := by
  have h1 : shp (vD a) = true := (Fl.vec a).shp (by decide)
  have hf : ∀ e ∈ os.map oD, Fl 1 e := fun e he => by
    obtain ⟨o, _, rfl⟩ := List.mem_map.mp he
    exact Fl.opt o
  have h2 : shp (.list (os.map oD)) = true := (Fl.list hf).shp (by decide)
  have h3 : shp (.tuple (os.map oD)) = true := (Fl.tuple hf).shp (by decide)
  have e := any_oD os a
  cases d <;> simp [itemsOf] at hi <;> subst hi <;> constructor <;> unfold opCmp <;> simp only [hx, hy]
  · show cmpD .inn (vD a) (.list (os.map oD)) = _
    unfold vD at h1 e ⊢
    simp only [cmpD, h1, h2, Bool.and_self, if_true, e]
  · show cmpD .nin (vD a) (.list (os.map oD)) = _
    unfold vD at h1 e ⊢
    simp only [cmpD, h1, h2, Bool.and_self, if_true, e]
  · show cmpD .inn (vD a) (.tuple (os.map oD)) = _
    unfold vD at h1 e ⊢
    simp only [cmpD, h1, h3, Bool.and_self, if_true, e]
  · show cmpD .nin (vD a) (.tuple (os.map oD)) = _
    unfold vD at h1 e ⊢
    simp only [cmpD, h1, h3, Bool.and_self, if_true, e]
theorem inn_vec {a : Vec} {x y : Lk.R} {d : D} {os : List Vec} (hx : x.dat = some (vD a)) (hy : y.dat = some d) (hi : itemsOf d = some (os.map vD)) : opCmp .inn x y = some (decide (a ∈ os)) ∧ opCmp .nin x y = some (!decide (a ∈ os)) := by
  have := inn_seq hx hy (by rw [hi, vD_oD] : itemsOf d = some ((os.map some).map oD))
  simpa using this
theorem sorted_vec {l : List Vec} (h : ∀ a ∈ l, a ≠ []) : biSorted (.fr (.li (l.map vD))) = some (.fr (.li ((srt l).map vD))) := by
  show (if (sortOk (l.map vD) && _) = true then _ else _) = _
  rw [sortOk_vD h, sort_vD]
  rfl
theorem add_li {xs ys : List D} {x y : Lk.R} (h1 : x.dat = some (.list xs)) (h2 : y.dat = some (.list ys)) (h3 : x.kids = true) (h4 : y.kids = true) (h5 : xs.length + ys.length ≤ cap) : opBin .add x y = some (.fr (.li (xs ++ ys))) := by
  unfold opBin; simp only [h1, h2, h3, h4, Bool.true_or, Bool.true_and, decide_eq_true h5, if_true]
/-- all are rows of four -/
def All4 (l : List Vec) : Prop := ∀ a ∈ l, a.length = 4
theorem hl_four {c a : Vec} (h : a ∈ hl c) : a.length = 4 := by
  match c with
  | [x, y, z, s] => simp [hl, hlv, crn] at h; rcases h with rfl | rfl | rfl | rfl | rfl | rfl | rfl | rfl <;> rfl
  | [] => cases h
  | [_] => cases h
  | [_, _] => cases h
  | [_, _, _] => cases h
  | _ :: _ :: _ :: _ :: _ :: _ => cases h
theorem hl_len {c : Vec} (h : c.length = 4) : (hl c).length = 8 := by obtain ⟨x, y, z, s, rfl⟩ := four h; rfl
theorem cnr_len {c : Vec} (h : c.length = 4) : (cnr c).length = 8 := by obtain ⟨x, y, z, s, rfl⟩ := four h; rfl
theorem cnr_three {c a : Vec} (h : a ∈ cnr c) : a.length = 3 := by
  match c with
  | [x, y, z, s] => simp [cnr, crn] at h; rcases h with rfl | rfl | rfl | rfl | rfl | rfl | rfl | rfl <;> rfl
  | [] => cases h
  | [_] => cases h
  | [_, _] => cases h
  | [_, _, _] => cases h
  | _ :: _ :: _ :: _ :: _ :: _ => cases h
theorem rt_four {t : Nat × Nat × Nat} (ht : t ∈ sz12) : All4 (rt t) := fun a ha => by
  have := (rt_facts t ht).2.1
  rw [List.all_eq_true] at this
  simpa using this a ha
theorem in12 {t : Nat × Nat × Nat} (ht : t ∈ sz8) : t ∈ sz12 := List.mem_append_left _ ht
theorem len_flat {α β : Type} {g : α → List β} {m : Nat} : ∀ {l : List α}, (∀ a ∈ l, (g a).length ≤ m) → (l.flatMap g).length ≤ l.length * m
  | [], _ => Nat.zero_le _
  | a :: l, h => by
    have h1 := h a (List.mem_cons_self ..)
    have h2 := len_flat fun b hb => h b (List.mem_cons_of_mem _ hb)
    rw [List.flatMap_cons, List.length_append, List.length_cons, Nat.succ_mul]
    omega
def fine (t : Nat × Nat × Nat) (H : List Vec) : List Vec := srt ((rt t ++ H.flatMap hl).filter fun c => !decide (c ∈ H))
theorem ne_of_four {l : List Vec} (h : All4 l) : ∀ a ∈ l, a ≠ [] := fun a ha e => by have := h a ha; rw [e] at this; cases this
theorem map_flat {α β γ : Type} (f : β → γ) (g : α → List β) (l : List α) : l.flatMap (fun a => (g a).map f) = (l.flatMap g).map f := by
  rw [List.map_flatMap]
theorem flat_id {α : Type} (l : List α) : (l.flatMap fun a => [a]) = l := by simpa using flat_one id l
theorem flat_filter {α : Type} (p : α → Bool) (l : List α) : (l.flatMap fun a => if p a then [a] else []) = l.filter p := by
  induction l with
  | nil => rfl
  | cons a l ih => rw [List.flatMap_cons, ih]; cases h : p a <;> simp [h]
theorem flat_map {α β γ : Type} (f : α → β) (g : β → List γ) (l : List α) : (l.map f).flatMap g = l.flatMap fun a => g (f a) := by rw [List.flatMap_map]
/-- over vectors -/
theorem e_compV {tb : Tb} {E : En} {n : Int} {vs : List Nat} {tg : Tg} {it ifs rest e1 : P} (xs : List Vec) (g : Vec → List D) (hw : evW tb false it E n = some (.ok (xs.map vD) n)) (hc : (xs.flatMap g).length ≤ cap)
    (hs : ∀ x ∈ xs, ∀ acc, (match bindT (wipeE E vs) tg (.im (vD x)) with
      | some E1 => (evIf tb ifs E1 n).calm.bind fun c n => if c then evC tb rest E1 n (.li acc) (fun E2 n acc => (evE tb e1 E2 n).calm.bind fun r n => M.of (putL acc r) n) else some (.ok (.li acc) n)
      | none => none) = some (.ok (.li (acc ++ g x)) n)) : evE tb (.comp .li vs tg it ifs rest e1 .no) E n = some (.ok (.fr (.li (xs.flatMap g))) n) := by
  rw [evE, hw]
  have := loopC_li (f := fun x n acc => match bindT (wipeE E vs) tg (.im x) with | some E1 => (evIf tb ifs E1 n).calm.bind fun c n => if c then evC tb rest E1 n acc (fun E2 n acc => (evE tb e1 E2 n).calm.bind fun r n => M.of (putL acc r) n) else some (.ok acc n) | none => none) (n := n) vD g xs hs
  exact Eq.trans (congrArg (fun m : M OT => (M.calm m).bind fun t n => if sizeC t ≤ cap then some (Ro.ok (Lk.R.fr t) n) else none) this) (if_pos hc)
theorem c_genV {tb : Tb} {E : En} {n : Int} {vs : List Nat} {tg : Tg} {it ifs rest : P} {acc : List D} {f : En → Int → OT → M OT} (xs : List Vec) (g : Vec → List D) (hw : evW tb true it E n = some (.ok (xs.map vD) n))
    (hs : ∀ x ∈ xs, ∀ acc, (match bindT (wipeE E vs) tg (.im (vD x)) with
      | some E1 => (evIf tb ifs E1 n).calm.bind fun c n => if c then evC tb rest E1 n (.li acc) f else some (.ok (.li acc) n)
      | none => none) = some (.ok (.li (acc ++ g x)) n)) : evC tb (.gen vs tg it ifs rest) E n (.li acc) f = some (.ok (.li (acc ++ xs.flatMap g)) n) := by
  rw [evC, hw]
  exact loopC_pure (f := fun x n acc => match bindT (wipeE E vs) tg (.im x) with | some E1 => (evIf tb ifs E1 n).calm.bind fun c n => if c then evC tb rest E1 n acc f else some (.ok acc n) | none => none) (n := n) vD g xs acc hs
end Mk
end
section
set_option linter.all false
set_option maxRecDepth 100000
set_option maxHeartbeats 1000000
/-! corners: sets and dicts of places -/
namespace Mk
open PySem PyProof.Rows L2 Lk Hd
def ins (acc : List Vec) (a : Vec) : List Vec := if a ∈ acc then acc else acc ++ [a]
theorem ins_len (acc : List Vec) (a : Vec) : (ins acc a).length ≤ acc.length + 1 := by unfold ins; split <;> simp
theorem ins_mem {acc : List Vec} {a b : Vec} : b ∈ ins acc a ↔ b ∈ acc ∨ b = a := by
  unfold ins; split
  · rename_i h; constructor
    · exact .inl
    · rintro (h' | rfl); exact h'; exact h
  · simp
theorem ins_nodup {acc : List Vec} {a : Vec} (h : acc.Nodup) : (ins acc a).Nodup := by
  unfold ins; split
  · exact h
  · rename_i q; rw [List.nodup_append]; exact ⟨h, by simp, fun x hx y hy => by simp at hy; subst hy; exact fun e => q (e ▸ hx)⟩
def insA (acc : List Vec) (l : List Vec) : List Vec := l.foldl ins acc
theorem insA_len : ∀ (l acc : List Vec), (insA acc l).length ≤ acc.length + l.length
  | [], acc => Nat.le_refl _
  | a :: l, acc => by have h1 := insA_len l (ins acc a); have h2 := ins_len acc a; simp only [insA, List.foldl_cons, List.length_cons] at h1 ⊢; omega
theorem insA_mem : ∀ {l acc : List Vec} {b : Vec}, b ∈ insA acc l ↔ b ∈ acc ∨ b ∈ l
  | [], acc, b => by simp [insA]
  | a :: l, acc, b => by
    have h1 := insA_mem (l := l) (acc := ins acc a) (b := b)
    simp only [insA, List.foldl_cons] at h1 ⊢
    rw [h1, ins_mem, List.mem_cons, or_assoc]
theorem insA_nodup : ∀ {l acc : List Vec}, acc.Nodup → (insA acc l).Nodup
  | [], _, h => h
  | a :: l, acc, h => by
    have h1 := insA_nodup (l := l) (acc := ins acc a) (ins_nodup h)
    simpa only [insA, List.foldl_cons] using h1
def insC (acc : List Vec) (cs : List Vec) : List Vec := cs.foldl (fun acc c => insA acc (cnr c)) acc
theorem insC_mem : ∀ {l acc : List Vec} {b : Vec}, b ∈ insC acc l ↔ b ∈ acc ∨ ∃ c ∈ l, b ∈ cnr c
  | [], acc, b => by simp [insC]
  | a :: l, acc, b => by
    have h1 := insC_mem (l := l) (acc := insA acc (cnr a)) (b := b)
    simp only [insC, List.foldl_cons] at h1 ⊢
    rw [h1, insA_mem]
    simp [or_assoc]
theorem insC_nodup : ∀ {l acc : List Vec}, acc.Nodup → (insC acc l).Nodup
  | [], _, h => h
  | a :: l, acc, h => by
    have h1 := insC_nodup (l := l) (acc := insA acc (cnr a)) (insA_nodup h)
    simpa only [insC, List.foldl_cons] using h1
theorem insC_len : ∀ {l acc : List Vec}, All4 l → (insC acc l).length ≤ acc.length + 8 * l.length
  | [], acc, _ => Nat.le_refl _
  | a :: l, acc, h => by
    have h1 := insC_len (l := l) (acc := insA acc (cnr a)) fun b hb => h b (List.mem_cons_of_mem _ hb)
    have h2 := insA_len (cnr a) acc
    rw [cnr_len (h a (List.mem_cons_self ..))] at h2
    simp only [insC, List.foldl_cons, List.length_cons] at h1 ⊢
    omega
/-- the corners of these cells, ascending -/
def crs (cs : List Vec) : List Vec := srt (insC [] cs)
theorem crs_mem {cs : List Vec} {b : Vec} : b ∈ crs cs ↔ ∃ c ∈ cs, b ∈ cnr c := by unfold crs; rw [srt_mem, insC_mem]; simp
theorem crs_asc (cs : List Vec) : (crs cs).Pairwise (· < ·) := srt_lt (insC_nodup List.nodup_nil)
theorem crs_same {cs ds : List Vec} (h : ∀ c, c ∈ cs ↔ c ∈ ds) : crs cs = crs ds := asc_ext (crs_asc cs) (crs_asc ds) fun a => by
  rw [crs_mem, crs_mem]
  exact ⟨fun ⟨c, h1, h2⟩ => ⟨c, (h c).mp h1, h2⟩, fun ⟨c, h1, h2⟩ => ⟨c, (h c).mpr h1, h2⟩⟩
theorem insC_three {cs : List Vec} {a : Vec} (h : a ∈ insC [] cs) : a ≠ [] := by
  rw [insC_mem] at h
  rcases h with h | ⟨c, _, h⟩
  · cases h
  · intro e; have := cnr_three h; rw [e] at this; cases this
theorem loopC_se {f : D → Int → OT → M OT} {n : Int} {Bd m : Nat} (G : List Vec → Vec → List Vec) (hG : ∀ acc a, (G acc a).length ≤ acc.length + m) : ∀ (l acc : List Vec), acc.length + m * l.length ≤ Bd →
    (∀ a ∈ l, ∀ acc : List Vec, acc.length + m ≤ Bd → f (vD a) n (.se (acc.map vD)) = some (.ok (.se ((G acc a).map vD)) n)) → loopC f (l.map vD) n (.se (acc.map vD)) = some (.ok (.se ((l.foldl G acc).map vD)) n)
  | [], acc, _, _ => rfl
  | a :: l, acc, hb, h => by
    rw [List.length_cons, Nat.mul_succ] at hb
    have := hG acc a
    rw [List.map_cons, loopC, h a (List.mem_cons_self ..) acc (by omega)]
    exact loopC_se G hG l (G acc a) (by omega) fun b hb => h b (List.mem_cons_of_mem _ hb)
theorem dhas_unit (acc : List Vec) (a : Vec) : dhas ((acc.map vD).map fun x => (x, ())) (vD a) = decide (a ∈ acc) := by
  have := dhas_vD (acc.map fun v => (v, ())) a
  simp only [List.map_map, Function.comp_def] at this ⊢
  rw [this]; simp
theorem put_se (acc : List Vec) (a : Vec) (h : acc.length < 4000) : putL (.se (acc.map vD)) (.im (vD a)) = some (.se ((ins acc a).map vD)) := by
  unfold putL
  simp only [fix_im]
  rw [keyN_vD, dhas_unit, Bool.true_and, List.length_map, if_pos (decide_eq_true h)]
  unfold ins
  by_cases q : a ∈ acc <;> simp [q]
end Mk
end
section
set_option linter.all false
set_option maxRecDepth 100000
set_option maxHeartbeats 1000000
/-! the law's cells and corners -/
namespace Mk
open PySem PyProof.Rows L2 Lk Hd
theorem loopS_fold {α β : Type} {c : α → D} {f : D → En → Int → Option So} {n : Int} (P : List α → β → En → Prop) (st : β → α → β) : ∀ (l : List α) (b : β) (E : En), P l b E → (∀ a r b E, P (a :: r) b E → ∃ E', f (c a) E n = some (.nx E' n) ∧ P r (st b a) E') →
    ∃ E', loopS f (l.map c) E n = some (.nx E' n) ∧ P [] (l.foldl st b) E'
  | [], b, E, h, _ => ⟨E, rfl, h⟩
  | a :: l, b, E, h, hs => by
    obtain ⟨E1, e1, h1⟩ := hs a l b E h
    obtain ⟨E2, e2, h2⟩ := loopS_fold P st l (st b a) E1 h1 hs
    exact ⟨E2, by rw [List.map_cons, loopS, e1]; exact e2, h2⟩
theorem s_forr {tb : Tb} {tg : Tg} {f : Str} {as : P} {b r : S} {E E0 E' : En} {n n' : Int} {xs : List D} (hE : frz E (consP as) = E0) (hw : evW tb true (.itr (.call f as [])) E0 n = some (.ok xs n))
    (hl : loopS (fun x E n => (bindT E tg (.im x)).bind fun E => evS tb b E n) xs E0 n = some (.nx E' n')) : evS tb (.forr tg (.itr (.call f as [])) b r) E n = evS tb r E' n' := by
  rw [evS]
  · have e : consP (.call f as []) = consP as := by rw [consP]
    simp only [e, hE, hw]
    show So.then (loopS _ xs E0 n) _ = _
    rw [hl]; rfl
  · intro i h; cases h
theorem fold_flat {α β : Type} (g : α → List β) : ∀ (l : List α) (b : List β), l.foldl (fun b a => b ++ g a) b = b ++ l.flatMap g
  | [], b => by simp
  | a :: l, b => by rw [List.foldl_cons, fold_flat g l]; simp
def lhal (H : List Vec) (o : Vec) : List Vec := if o ∈ H then hl o else [o]
def lone (H : List Vec) (r : Vec) : List Vec := if r ∈ H then (hl r).flatMap (lhal H) else [r]
def lcells (t : Nat × Nat × Nat) (H : List Vec) : List Vec := srt ((rt t).flatMap (lone H))
theorem lhal_len {H : List Vec} {o : Vec} (h : o.length = 4) : (lhal H o).length ≤ 8 := by unfold lhal; split; rw [hl_len h]; exact Nat.le_refl _; simp
theorem lhal_four {H : List Vec} {o : Vec} (h : o.length = 4) : All4 (lhal H o) := by
  intro a ha; unfold lhal at ha; split at ha
  · exact hl_four ha
  · simp at ha; subst ha; exact h
theorem lone_len {H : List Vec} {o : Vec} (h : o.length = 4) : (lone H o).length ≤ 64 := by
  unfold lone; split
  · have := len_flat (l := hl o) (g := lhal H) (m := 8) fun a ha => lhal_len (hl_four ha)
    rw [hl_len h] at this; exact this
  · simp
theorem lone_four {H : List Vec} {o : Vec} (h : o.length = 4) : All4 (lone H o) := by
  intro a ha; unfold lone at ha; split at ha
  · obtain ⟨b, hb, ha⟩ := List.mem_flatMap.mp ha
    exact lhal_four (hl_four hb) a ha
  · simp at ha; subst ha; exact h
theorem lcells_four {t : Nat × Nat × Nat} (ht : t ∈ sz12) {H : List Vec} : All4 (lcells t H) := by
  intro a ha; unfold lcells at ha; rw [srt_mem] at ha
  obtain ⟨b, hb, ha⟩ := List.mem_flatMap.mp ha
  exact lone_four (rt_four ht b hb) a ha
theorem lcells_len {t : Nat × Nat × Nat} (ht : t ∈ sz12) {H : List Vec} : (lcells t H).length ≤ 768 := by
  unfold lcells
  rw [(srt_perm _).length_eq]
  have := len_flat (l := rt t) (g := lone H) (m := 64) fun a ha => lone_len (rt_four ht a ha)
  have h2 := (rt_facts t ht).1
  omega
def lst5 (a b : D) (made : List Vec) (e3 e4 : Option B) : En := [some (.im a), some (.im b), some (.mu (.li (made.map vD))), e3, e4]
theorem dput_true (acc : List Vec) (a : Vec) : dput (acc.map fun v => (vD v, PyData.bool true)) (vD a) (.bool true) = (ins acc a).map fun v => (vD v, PyData.bool true) := by
  unfold dput ins
  have e : dhas (acc.map fun v => (vD v, PyData.bool true)) (vD a) = decide (a ∈ acc) := by
    have := dhas_vD (acc.map fun v => (v, PyData.bool true)) a
    simp only [List.map_map, Function.comp_def] at this
    rw [this]; simp
  rw [e]
  by_cases h : a ∈ acc
  · simp only [h, decide_true, if_true, List.map_map]
    refine List.map_congr_left fun v _ => ?_
    simp only [Function.comp]
    split <;> rfl
  · simp [h]
theorem key_true (acc : List Vec) (a : Vec) : keyOk (acc.map fun v => (vD v, PyData.bool true)) (vD a) = true := by
  unfold keyOk
  rw [keyT_vD]
  have : (acc.map fun v => (vD v, PyData.bool true)).all (fun p => keyT p.1) = true := by
    rw [List.all_map, List.all_eq_true]; intro v _; exact keyT_vD v
  rw [this]; simp
def lst5d (a b : D) (held : List Vec) (e3 e4 : Option B) : En := [some (.im a), some (.im b), some (.mu (.di (held.map fun v => (vD v, PyData.bool true)))), e3, e4]
theorem s_sti {tb : Tb} {E : En} {n : Int} {o : Nat} {i e : P} {r : S} : evS tb (.sti o i e r) E n = if (muAt (frz E (consP e)) o).isSome then So.of (evE tb e (frz E (consP e)) n) fun x n => So.of (evE tb i (frz E (consP e)) n) fun k n => (muAt (frz E (consP e)) o).bind fun t => (putAt t k x).bind fun t => evS tb r ((frz E (consP e)).set o (some (.mu t))) n else none := by rw [evS]
end Mk
end
section
set_option linter.all false
set_option maxRecDepth 100000
set_option maxHeartbeats 1000000
/-! the program's halved cells -/
namespace Mk
open PySem PyProof.Rows L2 Lk Hd
/-- rows or None: whether this is one of them -/
def rtsIn (t : Nat × Nat × Nat) (fo : List (Option Vec)) : List Vec := (rt t).filter fun c => decide (some c ∈ fo)
def secIn (R : List Vec) (fo : List (Option Vec)) : List Vec := (R.flatMap hl).filter fun c => decide (some c ∈ fo)
def haF (v : D) (t : Nat × Nat × Nat) : Option (List Vec) := match itemsOf v with
  | some xs => if xs.length ≤ 6 then
      (if xs.map (rowF · 4) = (rtsIn t (xs.map (rowF · 4)) ++ srt (secIn (rtsIn t (xs.map (rowF · 4))) (xs.map (rowF · 4)))).map some
       then some (rtsIn t (xs.map (rowF · 4)) ++ srt (secIn (rtsIn t (xs.map (rowF · 4))) (xs.map (rowF · 4)))) else none) else none
  | none => none
def oH : Option (List Vec) → D
  | some H => .tuple (H.map vD)
  | none => .none
theorem ne_lists (xs ys : List (Option Vec)) {x y : Lk.R} (hx : x.dat = some (.list (xs.map oD))) (hy : y.dat = some (.list (ys.map oD))) : opCmp .ne x y = some (!decide (xs = ys)) := by
  have hf : ∀ os : List (Option Vec), shp (.list (os.map oD)) = true := fun os => (Fl.list (m := 1) fun e he => by
    obtain ⟨o, _, rfl⟩ := List.mem_map.mp he
    exact Fl.opt o).shp (by decide)
  unfold opCmp; simp only [hx, hy]
  show cmpD .ne _ _ = _
  unfold cmpD
  simp only [hf, Bool.and_self, if_true]
  rw [PyData.eqv, eqvAll_oD]
theorem gt_int (i j : Int) : opCmp .gt (.im (.int i)) (.im (.int j)) = some (decide (j < i)) := rfl
theorem lt_int (i j : Int) : opCmp .lt (.im (.int i)) (.im (.int j)) = some (decide (i < j)) := rfl
theorem len_im {d : D} {xs : List D} (h : itemsOf d = some xs) : biLen (.im d) = some (.im (.int (xs.length : Int))) := by
  unfold biLen; simp only [dat_im, len_seq h]
end Mk
end
section
set_option linter.all false
set_option maxRecDepth 100000
set_option maxHeartbeats 1000000
/-! the program's look at a grid -/
namespace Mk
open PySem PyProof.Rows L2 Lk Hd
def numB : D → Bool
  | .int i => decide (-1000000 ≤ i) && decide (i ≤ 1000000)
  | _ => false
theorem le_int (i j : Int) : opCmp .le (.im (.int i)) (.im (.int j)) = some (decide (i ≤ j)) := rfl
/-- a pair of this place and a number -/
def goodP (p : Vec) (d : D) : Bool := match itemsOf d with
  | some [a, b] => decide (rowF a 3 = some p) && numB b
  | _ => false
def secD (d : D) : D := match itemsOf d with
  | some [_, b] => b
  | _ => .none
def pairD (q : Vec × D) : D := .tuple [vD q.1, q.2]
theorem idx_seq {d e : D} {xs : List D} {n j : Int} (i : Nat) (hj : j = i) (h : itemsOf d = some xs) (hx : xs[i]? = some e) : opIdxN (.im d) (.im (.int j)) n = some (.im e) := by
  subst hj
  have := atI_map (α := D) id xs i e hx
  rw [List.map_id] at this
  cases d <;> simp [itemsOf] at h <;> subst h <;> simp [opIdxN, opIdx, opIdxD, dat_im, this, Lk.part, kids_im]
theorem loopS_all {α β : Type} {c : α → D} {f : D → En → Int → Option So} {n : Int} (P : List α → β → En → Prop) (st : β → α → β) (ok : α → Bool) (rd : D) : ∀ (l : List α) (b : β) (E : En), P l b E →
    (∀ a r b E, P (a :: r) b E → (ok a = true → ∃ E', f (c a) E n = some (.nx E' n) ∧ P r (st b a) E') ∧ (ok a = false → f (c a) E n = some (.rt rd n))) →
    (l.all ok = true → ∃ E', loopS f (l.map c) E n = some (.nx E' n) ∧ P [] (l.foldl st b) E') ∧ (l.all ok = false → loopS f (l.map c) E n = some (.rt rd n))
  | [], b, E, h, _ => ⟨fun _ => ⟨E, rfl, h⟩, fun q => by cases q⟩
  | a :: l, b, E, h, hs => by
    obtain ⟨h1, h2⟩ := hs a l b E h
    rw [List.all_cons]
    cases q : ok a with
    | false => exact ⟨fun z => (by cases z), fun _ => by rw [List.map_cons, loopS, h2 q]⟩
    | true =>
      obtain ⟨E1, e1, p1⟩ := h1 q
      obtain ⟨g1, g2⟩ := loopS_all P st ok rd l (st b a) E1 p1 hs
      rw [Bool.true_and]
      exact ⟨fun z => by
        obtain ⟨E2, e2, p2⟩ := g1 z
        exact ⟨E2, by rw [List.map_cons, loopS, e1]; exact e2, p2⟩, fun z => by rw [List.map_cons, loopS, e1]; exact g2 z⟩
theorem e_at {tb : Tb} {E : En} {n : Int} {a : P} {d e : D} {xs : List D} (i : Nat) {j : Int} (ha : evE tb a E n = some (.ok (.im d) n)) (h : itemsOf d = some xs) (hj : j = i) (hx : xs[i]? = some e) : evE tb (.idx a (.lit (.int j))) E n = some (.ok (.im e) n) := by
  rw [e_idx, ha, bind_ok, e_lit, bind_ok, idx_seq (j := j) i hj h hx]; rfl
/-- a walk over pairs of two rows -/
theorem w_zip {tb : Tb} {E : En} {n : Int} {a b : P} {d e : D} {xs ys : List D} (ha : evE tb a E n = some (.ok (.im d) n)) (hb : evE tb b E n = some (.ok (.im e) n)) (hx : itemsOf d = some xs) (hy : itemsOf e = some ys) :
    evW tb true (.zip a b) E n = some (.ok ((xs.zip ys).map fun p => .tuple [p.1, p.2]) n) := by
  have k : ∀ {d : D} {xs : List D}, itemsOf d = some xs → (isLst (.im d) || isTup (.im d)) = true := fun {d xs} h => by cases d <;> first | rfl | cases h
  rw [evW, ha, bind_ok, hb, bind_ok, k hx, k hy, walk_im, walk_im, hx, hy]
  rfl
theorem s_forZ {tb : Tb} {tg : Tg} {x y : P} {b r : S} {E E0 : En} {n : Int} {xs : List D} (hE : frz E (varOf x ++ varOf y) = E0) (hw : evW tb true (.zip x y) E0 n = some (.ok xs n)) :
    evS tb (.forr tg (.zip x y) b r) E n = So.then (loopS (fun x E n => (bindT E tg (.im x)).bind fun E => evS tb b E n) xs E0 n) fun E n => evS tb r E n := by
  rw [evS]
  simp only [hE, hw]
  rfl
def nst (v : D) (ps : List Vec) (found : List (Vec × D)) (e3 e4 : Option B) : En := [some (.im v), some (.im (.list (ps.map vD))), some (.mu (.li (found.map pairD))), e3, e4]
/-- what the pairs come to -/
def nuF (v : D) (ps : List Vec) : D := match itemsOf v with
  | some xs => if xs.length = ps.length then (if (ps.zip xs).all (fun q => goodP q.1 q.2) then .tuple ((ps.zip xs).map fun q => pairD (q.1, secD q.2)) else .none) else .none
  | none => .none
def sv8 (s : Vec) : Option (Nat × Nat × Nat) := match s with
  | [x, y, z] => if 1 ≤ x ∧ x ≤ 2 ∧ 1 ≤ y ∧ y ≤ 2 ∧ 1 ≤ z ∧ z ≤ 2 then some (x.toNat, y.toNat, z.toNat) else none
  | _ => none
theorem sv8_ok {s : Vec} {t : Nat × Nat × Nat} (h : sv8 s = some t) : t ∈ sz8 ∧ s = sv t := by
  match s with
  | [] => cases h
  | [_] => cases h
  | [_, _] => cases h
  | _ :: _ :: _ :: _ :: _ => cases h
  | [x, y, z] =>
    simp only [sv8] at h
    split at h
    · rename_i q
      cases h
      have h1 : x = 1 ∨ x = 2 := by omega
      have h2 : y = 1 ∨ y = 2 := by omega
      have h3 : z = 1 ∨ z = 2 := by omega
      rcases h1 with rfl | rfl <;> rcases h2 with rfl | rfl <;> rcases h3 with rfl | rfl <;> exact ⟨by decide, rfl⟩
    · cases h
/-- not None -/
def nnB : D → Bool
  | .none => false
  | _ => true
/-- whether the program sees a grid in it -/
def grBt (b c : D) (t : Nat × Nat × Nat) : Bool := match haF b t with
  | some H => nnB (nuF c (crs (fine t H)))
  | none => false
def grB3 (a b c : D) : Bool := match (rowF a 3).bind sv8 with
  | some t => grBt b c t
  | none => false
def grB (v : D) : Bool := match itemsOf v with
  | some [a, b, c] => grB3 a b c
  | _ => false
theorem rowF_len {v : D} {m : Nat} {l : Vec} (h : rowF v m = some l) : l.length = m := by
  unfold rowF at h
  split at h
  · rename_i xs _
    split at h
    · rename_i hl
      have := intsOf_eq h
      rw [this] at hl
      simpa [iD] using hl
    · cases h
  · cases h
theorem haF_four {v : D} {t : Nat × Nat × Nat} (ht : t ∈ sz8) {H : List Vec} (h : haF v t = some H) : All4 H ∧ H.length ≤ 6 := by
  unfold haF at h
  split at h
  · rename_i xs _
    split at h
    · rename_i hl
      split at h
      · rename_i hq
        cases h
        refine ⟨fun a ha => ?_, ?_⟩
        · rcases List.mem_append.mp ha with q | q
          · exact rt_four (in12 ht) a (List.mem_filter.mp q).1
          · rw [srt_mem] at q
            obtain ⟨c, _, q⟩ := List.mem_flatMap.mp (List.mem_filter.mp q).1
            exact hl_four q
        · have := congrArg List.length hq
          rw [List.length_map, List.length_map] at this
          omega
      · cases h
    · cases h
  · cases h
theorem fine_four {t : Nat × Nat × Nat} (ht : t ∈ sz8) {H : List Vec} : All4 (fine t H) := by
  intro a ha
  unfold fine at ha
  rw [srt_mem] at ha
  rcases List.mem_append.mp (List.mem_filter.mp ha).1 with q | q
  · exact rt_four (in12 ht) a q
  · obtain ⟨c, _, q⟩ := List.mem_flatMap.mp q
    exact hl_four q
theorem fine_len {t : Nat × Nat × Nat} (ht : t ∈ sz8) {H : List Vec} (h4 : All4 H) (hl6 : H.length ≤ 6) : (fine t H).length ≤ 60 := by
  unfold fine
  rw [(srt_perm _).length_eq]
  refine Nat.le_trans (List.length_filter_le ..) ?_
  rw [List.length_append]
  have := (rt_facts t (in12 ht)).1
  have := len_flat (l := H) (g := hl) (m := 8) fun c hc => by rw [hl_len (h4 c hc)]; exact Nat.le_refl _
  omega
theorem crs_len {cs : List Vec} (h : All4 cs) : (crs cs).length ≤ 8 * cs.length := by
  unfold crs; rw [(srt_perm _).length_eq]; have := insC_len (acc := []) h; simpa using this
theorem none_D (d : D) : opCmp .isN (.im d) (.im .none) = some (match d with | .none => true | _ => false) ∧ opCmp .ntN (.im d) (.im .none) = some (nnB d) := by
  cases d <;> exact ⟨rfl, rfl⟩
theorem minmax {x y z : Int} : biBest (fun x m => decide (x < m)) (.im (vD [x, y, z])) = some (.im (.int (if z < (if y < x then y else x) then z else (if y < x then y else x)))) ∧
    biBest (fun x m => decide (m < x)) (.im (vD [x, y, z])) = some (.im (.int (if (if x < y then y else x) < z then z else (if x < y then y else x)))) := by
  constructor
  · show some _ = some _
    simp [bestI]
  · show some _ = some _
    simp [bestI]
end Mk
end
section
set_option linter.all false
set_option maxRecDepth 100000
set_option maxHeartbeats 1000000
/-! the law's own look at triples and halved cells -/
namespace Mk
open PySem PyProof.Rows L2 Lk Hd
mutual
theorem pur_nod : ∀ {d : D}, pur d = true → nod d = true
  | .none, _ => rfl
  | .bool _, _ => rfl
  | .int _, _ => rfl
  | .str _, _ => rfl
  | .tuple ds, h => by rw [pur] at h; rw [nod]; exact purs_nods h
  | .list _, h => by cases h
  | .dict _, h => by cases h
theorem purs_nods : ∀ {ds : List D}, purs ds = true → nods ds = true
  | [], _ => rfl
  | d :: ds, h => by
    rw [purs, Bool.and_eq_true] at h
    rw [nods, pur_nod h.1, purs_nods h.2]; rfl
end
theorem pur_items {d : D} {xs : List D} (h : pur d = true) (e : itemsOf d = some xs) : d = .tuple xs := by cases d <;> simp [itemsOf] at e <;> subst e <;> first | rfl | (simp [pur] at h)
theorem pur_in {xs : List D} (h : purs xs = true) : ∀ d ∈ xs, pur d = true := by
  induction xs with
  | nil => intro d hd; cases hd
  | cons x xs ih =>
    rw [purs, Bool.and_eq_true] at h
    intro d hd
    rcases List.mem_cons.mp hd with rfl | hd
    · exact h.1
    · exact ih h.2 d hd
theorem pur_sub {d : D} {xs : List D} (h : pur d = true) (e : itemsOf d = some xs) : ∀ x ∈ xs, pur x = true := by
  rw [pur_items h e, pur] at h; exact pur_in h
theorem pur_T {d : D} (h : pur d = true) : isT d = (itemsOf d).isSome := by cases d <;> first | rfl | (simp [pur] at h)
theorem rowF_vD {d : D} {m : Nat} {l : Vec} (h : pur d = true) (e : rowF d m = some l) : d = vD l := by
  unfold rowF at e
  split at e
  · rename_i xs ei
    split at e
    · rw [pur_items h ei, intsOf_eq e]; rfl
    · cases e
  · cases e
theorem rowF_of (l : Vec) : rowF (vD l) l.length = some l := by
  unfold rowF vD
  rw [items_tu]
  have : (iD l).length = l.length := by simp [iD]
  simp [this, intsOf_iD]
/-- how many are no whole numbers -/
def bad (xs : List D) : List D := xs.filter fun d => !isI d
theorem bad_nil {xs : List D} : (bad xs).length = 0 ↔ (intsOf xs).isSome = true := by
  rw [intsOf_all]
  unfold bad
  rw [List.length_eq_zero_iff, List.filter_eq_nil_iff, List.all_eq_true]
  constructor
  · intro h d hd; have := h d hd; simpa using this
  · intro h d hd; have := h d hd; simpa using this
theorem comp_bad {tb : Tb} {E : En} {n : Int} {vs : List Nat} {i : Nat} {it : P} {xs : List D} (hw : evW tb false it E n = some (.ok xs n)) (hx : xs.length ≤ 1000) (hE : ∀ d, ∃ E1, bindT (wipeE E vs) (.nm i) (.im d) = some E1 ∧ E1[i]? = some (some (.im d)))
    (h : ∀ (E : En) (d : D), d ∈ xs → E[i]? = some (some (.im d)) → evE tb (.call "_law_whole" (.cons (.var i) .no) []) E n = some (.ok (.im (.bool (isI d))) n)) :
    evE tb (.comp .li vs (.nm i) it (.cons (.nott (.tv (.call "_law_whole" (.cons (.var i) (.no)) []))) (.no)) (.no) (.var i) (.no)) E n = some (.ok (.fr (.li (bad xs))) n) := by
  have c := e_comp (tb := tb) (n := n) (E := E) (vs := vs) (tg := .nm i) (it := it) (ifs := .cons (.nott (.tv (.call "_law_whole" (.cons (.var i) (.no)) []))) (.no)) (rest := .no) (e1 := .var i) xs (fun d => if !isI d then [d] else []) hw (by
    refine Nat.le_trans (len_flat (m := 1) fun c _ => by split <;> simp) ?_
    unfold cap; omega) (fun d hd acc => by
    obtain ⟨E1, e1, g1⟩ := hE d
    rw [e1]
    have q := h E1 d hd g1
    cases hi : isI d <;> rw [hi] at q <;> simp [entry, setN, setNs, liAt, muAt, k_len, k_int, k_all, k_max1, k_min1, k_sorted, k_tuple, b_int, fixAll, datAll, retD, newC, sizeC, wipeE, frz, varOf, consP, bind_ok, of_some, calm_ok, Sof_ok, Sthen_nx, Sthen_rt, dat_im, dat_fr, dat_bw, dat_bo, dat_li, dat_di, fix_im, fix_fr, kids_im, kids_fr_li, kids_bw_li, walk_im, walk_fr_li, walk_bw_li, items_li, items_tu, bindT_im, bindT_fr, bindT_tu, bindT_li, put_li, app_li, v_im, v_mu, v_sp, e_lit, e_glob, e_bin, e_neg, e_cmp, e_cmp2, e_bool, e_nott, e_ife, e_tup, e_lst, e_dct0, e_slc, e_bi, e_isin, a_no, a_cons, b_last, b_cons, bt_last, bt_cons, t_bool, t_nott, t_tv, o_no, o_one, w_rng, w_itr, i_no, i_cons, c_no, s_done, s_asg, s_ret, s_ife, s_app, s_brk, q, truth, v_im g1])
  rw [flat_filter] at c
  exact c
def triB (v : D) : Bool := isT v && (rowF v 3).isSome
theorem len_fr (xs : List D) : biLen (.fr (.li xs)) = some (.im (.int (xs.length : Int))) := rfl
end Mk
end
section
set_option linter.all false
set_option maxRecDepth 100000
set_option maxHeartbeats 1000000
/-! draws; what is handed in; the same -/
namespace Mk
open PySem PyProof.Rows L2 Lk Hd
section
variable {tb : Tb} {E : En} {n n1 n' : Int}
theorem call1n {f p : Str} {tb' : Tb} {b : S} {sz : Nat} {a : P} {ks : List Str} {r : Lk.R} {d e : D} (hf : tb.fn f = some ⟨[p], none, runD tb' b none sz⟩) (hk : ks = [] ∨ ks = [p]) (ha : evE tb a E n = some (.ok r n1)) (hx : r.fix = some d) (h : runD tb' b none sz [d] n1 = some (.ok e n')) :
    evE tb (.call f (.cons a .no) ks) E n = some (.ok (.im e) n1) := by
  rw [evE, hf]
  simp only [hk, if_true, a_cons, a_no, ha, bind_ok]
  simp [opCall, argsOf, hx, h]
theorem call2n {f p q : Str} {tb' : Tb} {b : S} {sz : Nat} {a a2 : P} {r r2 : Lk.R} {d d2 e : D} {n2 : Int} (hf : tb.fn f = some ⟨[p, q], none, runD tb' b none sz⟩) (ha : evE tb a E n = some (.ok r n1)) (hx : r.fix = some d) (ha2 : evE tb a2 E n1 = some (.ok r2 n2)) (hx2 : r2.fix = some d2) (h : runD tb' b none sz [d, d2] n2 = some (.ok e n')) :
    evE tb (.call f (.cons a (.cons a2 .no)) []) E n = some (.ok (.im e) n2) := by
  rw [e_call, hf]
  simp only [a_cons, a_no, ha, ha2, bind_ok]
  simp [opCall, argsOf, hx, hx2, h]
theorem call3 {f p q s : Str} {tb' : Tb} {b : S} {sz : Nat} {a a2 a3 : P} {r r2 r3 : Lk.R} {d d2 d3 e : D} (hf : tb.fn f = some ⟨[p, q, s], none, runD tb' b none sz⟩) (ha : evE tb a E n = some (.ok r n)) (hx : r.fix = some d) (ha2 : evE tb a2 E n = some (.ok r2 n)) (hx2 : r2.fix = some d2) (ha3 : evE tb a3 E n = some (.ok r3 n)) (hx3 : r3.fix = some d3) (h : runD tb' b none sz [d, d2, d3] n = some (.ok e n')) :
    evE tb (.call f (.cons a (.cons a2 (.cons a3 .no))) []) E n = some (.ok (.im e) n) := by
  rw [e_call, hf]
  simp only [a_cons, a_no, ha, ha2, ha3, bind_ok]
  simp [opCall, argsOf, hx, hx2, hx3, h]
/-- calls of defs that draw: the moving place is their second argument -/
theorem draw2 {f p q : Str} {tb' : Tb} {b : S} {sz : Nat} {a a2 : P} {d e : D} (hf : tb.fn f = some ⟨[p, q], some 1, runD tb' b (some 1) sz⟩) (ha : evE tb a E n = some (.ok (.im d) n)) (ha2 : evE tb a2 E n = some (.ok .sp n)) (h : runD tb' b (some 1) sz [d, .none] n = some (.ok e n')) :
    evE tb (.call f (.cons a (.cons a2 .no)) []) E n = some (.ok (.im e) n') := by
  rw [e_call, hf]
  simp only [a_cons, a_no, ha, ha2, bind_ok]
  simp [opCall, argsOf, fix_im, h]
theorem draw3 {f p q s : Str} {tb' : Tb} {b : S} {sz : Nat} {a a2 a3 : P} {r3 : Lk.R} {d d3 e : D} (hf : tb.fn f = some ⟨[p, q, s], some 1, runD tb' b (some 1) sz⟩) (ha : evE tb a E n = some (.ok (.im d) n)) (ha2 : evE tb a2 E n = some (.ok .sp n)) (ha3 : evE tb a3 E n = some (.ok r3 n)) (hx3 : r3.fix = some d3) (h : runD tb' b (some 1) sz [d, .none, d3] n = some (.ok e n')) :
    evE tb (.call f (.cons a (.cons a2 (.cons a3 .no))) []) E n = some (.ok (.im e) n') := by
  rw [e_call, hf]
  simp only [a_cons, a_no, ha, ha2, ha3, bind_ok]
  simp [opCall, argsOf, fix_im, hx3, h]
theorem draw4 {f p q s u : Str} {tb' : Tb} {b : S} {sz : Nat} {a a2 a3 a4 : P} {d d3 d4 e : D} (hf : tb.fn f = some ⟨[p, q, s, u], some 1, runD tb' b (some 1) sz⟩) (ha : evE tb a E n = some (.ok (.im d) n)) (ha2 : evE tb a2 E n = some (.ok .sp n)) (ha3 : evE tb a3 E n = some (.ok (.im d3) n)) (ha4 : evE tb a4 E n = some (.ok (.im d4) n)) (h : runD tb' b (some 1) sz [d, .none, d3, d4] n = some (.ok e n')) :
    evE tb (.call f (.cons a (.cons a2 (.cons a3 (.cons a4 .no)))) []) E n = some (.ok (.im e) n') := by
  rw [e_call, hf]
  simp only [a_cons, a_no, ha, ha2, ha3, ha4, bind_ok]
  simp [opCall, argsOf, fix_im, h]
end
theorem bi_add (i j : Int) : opBin .add (.im (.int i)) (.im (.int j)) = some (.im (.int (i + j))) := rfl
theorem bi_sub (i j : Int) : opBin .sub (.im (.int i)) (.im (.int j)) = some (.im (.int (i - j))) := rfl
theorem bi_mul (i j : Int) (h : -(2 ^ 64) < j ∧ j < 2 ^ 64) : opBin .mul (.im (.int i)) (.im (.int j)) = some (.im (.int (i * j))) := by
  have e : mulOk i j = true := by
    unfold mulOk
    rw [decide_eq_true (.inr h : (-(2 ^ 64) < i ∧ i < 2 ^ 64) ∨ (-(2 ^ 64) < j ∧ j < 2 ^ 64)), Bool.true_or]
  have e2 : opBin .mul (.im (.int i)) (.im (.int j)) = (Lk.binI .mul i j).map fun z => .im (.int z) := rfl
  rw [e2, Lk.binI, if_pos e]; rfl
theorem bi_mod (i j : Int) (h : j ≠ 0) : opBin .mod (.im (.int i)) (.im (.int j)) = some (.im (.int (i.fmod j))) := by
  have e2 : opBin .mod (.im (.int i)) (.im (.int j)) = (Lk.binI .mod i j).map fun z => .im (.int z) := rfl
  rw [e2, Lk.binI, if_pos h]; rfl
theorem draw_core (tb : Tb) (n : Int) (row : Vec) (hr : row ≠ []) (a L : Int) (ha : 0 ≤ a) (hL : 0 < L) : ∃ d, runD tb b__law_draw none 4 [.list (iD row), .int a, .int L] n = some (.ok (.int d) n) ∧ 0 ≤ d ∧ d < L := by
  have ln : biLen (.im (.list (iD row))) = some (.im (.int (row.length : Int))) := by rw [len_im (items_li _)]; simp [iD]
  have pos : 0 < row.length := List.length_pos_iff.mpr hr
  have at_ : ∀ i : Int, 0 ≤ i → i < row.length → ∃ z, opIdxN (.im (.list (iD row))) (.im (.int i)) n = some (.im (.int z)) := by
    intro i h0 h1
    refine ⟨row[i.toNat]'(by omega), idx_seq i.toNat (by omega) (items_li _) ?_⟩
    simp [iD, List.getElem?_eq_getElem (show i.toNat < row.length by omega)]
  have hL0 : L ≠ 0 := by omega
  by_cases hlt : a < (row.length : Int)
  · obtain ⟨z, hz⟩ := at_ a ha hlt
    refine ⟨z.fmod L, run_rt ?_, Int.fmod_nonneg_of_pos _ hL, Int.fmod_lt_of_pos _ hL⟩
    have m1 := bi_mod z L hL0
    have ix : evE tb (.idx (.var 0) (.var 1)) [some (.im (.list (iD row))), some (.im (.int a)), some (.im (.int L)), none] n = some (.ok (.im (.int z)) n) := by
      rw [e_idx, v_im (d := .list (iD row)) rfl, bind_ok, v_im (d := .int a) rfl, bind_ok, hz]; rfl
    have lt := lt_int a row.length
    rw [decide_eq_true hlt] at lt
    simp [b__law_draw, entry, setN, setNs, liAt, muAt, k_len, k_int, k_all, k_max1, k_min1, k_sorted, k_tuple, b_int, fixAll, datAll, retD, newC, sizeC, wipeE, frz, varOf, consP, bind_ok, of_some, calm_ok, Sof_ok, Sthen_nx, Sthen_rt, dat_im, dat_fr, dat_bw, dat_bo, dat_li, dat_di, fix_im, fix_fr, kids_im, kids_fr_li, kids_bw_li, walk_im, walk_fr_li, walk_bw_li, items_li, items_tu, bindT_im, bindT_fr, bindT_tu, bindT_li, put_li, app_li, v_im, v_mu, v_sp, e_lit, e_glob, e_bin, e_neg, e_cmp, e_cmp2, e_bool, e_nott, e_ife, e_tup, e_lst, e_dct0, e_slc, e_bi, e_isin, a_no, a_cons, b_last, b_cons, bt_last, bt_cons, t_bool, t_nott, t_tv, o_no, o_one, w_rng, w_itr, i_no, i_cons, c_no, s_done, s_asg, s_ret, s_ife, s_app, s_brk, ln, lt, truth, ix, m1]
  · have hm : 0 ≤ a.fmod row.length ∧ a.fmod row.length < row.length := ⟨Int.fmod_nonneg_of_pos _ (by omega), Int.fmod_lt_of_pos _ (by omega)⟩
    obtain ⟨z, hz⟩ := at_ _ hm.1 hm.2
    have lt := lt_int a row.length
    rw [decide_eq_false hlt] at lt
    have m0 := bi_mod a row.length (by omega)
    have m1 := bi_mul z 40692 (by decide)
    have m2 := bi_mul a 7919 (by decide)
    have m3 := bi_mod (z * 40692 + a * 7919 + 3) 2147483399 (by decide)
    have m4 := bi_mul ((z * 40692 + a * 7919 + 3).fmod 2147483399) 48271 (by decide)
    have m5 := bi_mod ((z * 40692 + a * 7919 + 3).fmod 2147483399 * 48271 + a) 2147483647 (by decide)
    have m6 := bi_mod (((z * 40692 + a * 7919 + 3).fmod 2147483399 * 48271 + a).fmod 2147483647) L hL0
    refine ⟨_, run_rt ?_, Int.fmod_nonneg_of_pos (((z * 40692 + a * 7919 + 3).fmod 2147483399 * 48271 + a).fmod 2147483647) hL, Int.fmod_lt_of_pos _ hL⟩
    have ix : evE tb (.idx (.var 0) (.bin .mod (.bi .int (.cons (.var 1) (.no))) (.bi .len (.cons (.var 0) (.no))))) [some (.im (.list (iD row))), some (.im (.int a)), some (.im (.int L)), none] n = some (.ok (.im (.int z)) n) := by
      rw [e_idx, v_im (d := .list (iD row)) rfl, bind_ok]
      have : evE tb (.bin .mod (.bi .int (.cons (.var 1) (.no))) (.bi .len (.cons (.var 0) (.no)))) [some (.im (.list (iD row))), some (.im (.int a)), some (.im (.int L)), none] n = some (.ok (.im (.int (a.fmod row.length))) n) := by
        simp [entry, setN, setNs, liAt, muAt, k_len, k_int, k_all, k_max1, k_min1, k_sorted, k_tuple, b_int, fixAll, datAll, retD, newC, sizeC, wipeE, frz, varOf, consP, bind_ok, of_some, calm_ok, Sof_ok, Sthen_nx, Sthen_rt, dat_im, dat_fr, dat_bw, dat_bo, dat_li, dat_di, fix_im, fix_fr, kids_im, kids_fr_li, kids_bw_li, walk_im, walk_fr_li, walk_bw_li, items_li, items_tu, bindT_im, bindT_fr, bindT_tu, bindT_li, put_li, app_li, v_im, v_mu, v_sp, e_lit, e_glob, e_bin, e_neg, e_cmp, e_cmp2, e_bool, e_nott, e_ife, e_tup, e_lst, e_dct0, e_slc, e_bi, e_isin, a_no, a_cons, b_last, b_cons, bt_last, bt_cons, t_bool, t_nott, t_tv, o_no, o_one, w_rng, w_itr, i_no, i_cons, c_no, s_done, s_asg, s_ret, s_ife, s_app, s_brk, ln, m0]
      rw [this, bind_ok, hz]; rfl
    simp [b__law_draw, entry, setN, setNs, liAt, muAt, k_len, k_int, k_all, k_max1, k_min1, k_sorted, k_tuple, b_int, fixAll, datAll, retD, newC, sizeC, wipeE, frz, varOf, consP, bind_ok, of_some, calm_ok, Sof_ok, Sthen_nx, Sthen_rt, dat_im, dat_fr, dat_bw, dat_bo, dat_li, dat_di, fix_im, fix_fr, kids_im, kids_fr_li, kids_bw_li, walk_im, walk_fr_li, walk_bw_li, items_li, items_tu, bindT_im, bindT_fr, bindT_tu, bindT_li, put_li, app_li, v_im, v_mu, v_sp, e_lit, e_glob, e_bin, e_neg, e_cmp, e_cmp2, e_bool, e_nott, e_ife, e_tup, e_lst, e_dct0, e_slc, e_bi, e_isin, a_no, a_cons, b_last, b_cons, bt_last, bt_cons, t_bool, t_nott, t_tv, o_no, o_one, w_rng, w_itr, i_no, i_cons, c_no, s_done, s_asg, s_ret, s_ife, s_app, s_brk, ln, lt, truth, ix, m1, m2, m3, m4, m5, m6, bi_add]
theorem s_spt {tb : Tb} {E : En} {n : Int} {o : Nat} {i e : P} {r : S} (h : E[o]? = some (some .sp)) : evS tb (.spt o i e r) E n = So.of (evE tb e E n) fun x n => So.of (evE tb i E n) fun k n => match opInt x, opInt k with
      | some j, some 0 => evS tb r E j
      | _, _ => none := by rw [evS, h] <;> rfl
theorem take_core (tb : Tb) (n : Int) (row : D) (L : Int) (hn : 0 ≤ n) (h : ∃ d, evE tb (.call "_law_draw" (.cons (.var 0) (.cons (.bin .sub (.idx (.var 1) (.lit (.int 0))) (.lit (.int 1))) (.cons (.var 2) (.no)))) []) [some (.im row), some .sp, some (.im (.int L))] (n + 1) = some (.ok (.im (.int d)) (n + 1)) ∧ 0 ≤ d ∧ d < L) :
    ∃ d, runD tb b__law_take (some 1) 3 [row, .none, .int L] n = some (.ok (.int d) (n + 1)) ∧ 0 ≤ d ∧ d < L := by
  obtain ⟨d, e, h1, h2⟩ := h
  refine ⟨d, run_rt ?_, h1, h2⟩
  have ix : ∀ n, evE tb (.idx (.var 1) (.lit (.int 0))) [some (.im row), some .sp, some (.im (.int L))] n = some (.ok (.im (.int n)) n) := fun n => by
    rw [e_idx, v_sp rfl, bind_ok, e_lit, bind_ok]; rfl
  have o1 : ∀ i : Int, opInt (.im (.int i)) = some i := fun i => rfl
  simp [b__law_take, entry, setN, setNs, liAt, muAt, k_len, k_int, k_all, k_max1, k_min1, k_sorted, k_tuple, b_int, fixAll, datAll, retD, newC, sizeC, wipeE, frz, varOf, consP, bind_ok, of_some, calm_ok, Sof_ok, Sthen_nx, Sthen_rt, dat_im, dat_fr, dat_bw, dat_bo, dat_li, dat_di, fix_im, fix_fr, kids_im, kids_fr_li, kids_bw_li, walk_im, walk_fr_li, walk_bw_li, items_li, items_tu, bindT_im, bindT_fr, bindT_tu, bindT_li, put_li, app_li, v_im, v_mu, v_sp, e_lit, e_glob, e_bin, e_neg, e_cmp, e_cmp2, e_bool, e_nott, e_ife, e_tup, e_lst, e_dct0, e_slc, e_bi, e_isin, a_no, a_cons, b_last, b_cons, bt_last, bt_cons, t_bool, t_nott, t_tv, o_no, o_one, w_rng, w_itr, i_no, i_cons, c_no, s_done, s_asg, s_ret, s_ife, s_app, s_brk, s_spt, ix, bi_add, o1, e]
theorem sp__law_take (k : Nat) (n : Int) (row : Vec) (hr : row ≠ []) (L : Int) (hn : 0 ≤ n) (hL : 0 < L) : ∃ d, runD (T (k + 1)) b__law_take (some 1) 3 [.list (iD row), .none, .int L] n = some (.ok (.int d) (n + 1)) ∧ 0 ≤ d ∧ d < L := by
  refine take_core _ n _ L hn ?_
  obtain ⟨d, e, h⟩ := draw_core (T k) (n + 1) row hr n L hn hL
  refine ⟨d, call3 (fn__law_draw k) (v_im rfl) rfl (d2 := .int n) (r2 := .im (.int n)) ?_ rfl (v_im rfl) rfl e, h⟩
  rw [e_bin, e_idx, v_sp rfl, bind_ok, e_lit, bind_ok]
  show M.bind (some (.ok (Lk.R.im (.int (n + 1))) (n + 1))) _ = _
  rw [bind_ok, e_lit, bind_ok, bi_sub]
  have : n + 1 - 1 = n := by omega
  rw [this]; rfl
end Mk
end
section
set_option linter.all false
set_option maxRecDepth 100000
set_option maxHeartbeats 1000000
namespace Mk
open PySem PyProof.Rows L2 Lk Hd
theorem s_forR {tb : Tb} {tg : Tg} {as : P} {b r : S} {E : En} {n : Int} {xs : List D} (hw : evW tb true (.rng as) E n = some (.ok xs n)) :
    evS tb (.forr tg (.rng as) b r) E n = So.then (loopS (fun x E n => (bindT E tg (.im x)).bind fun E => evS tb b E n) xs E n) fun E n => evS tb r E n := by
  rw [evS]
  · simp only [frz, hw]
    rfl
  all_goals (intros; first | (rename_i h; cases h) | skip)
theorem rng_one (m : Nat) (h : m < 1000000) : rngOf [(m : Int)] = some ((List.range m).map fun (j : Nat) => PyData.int (j : Int)) := by
  simp only [rngOf]
  rw [if_pos (by constructor <;> omega)]
  simp
theorem w_rng1 {tb : Tb} {E : En} {n i : Int} {st : Bool} {a : P} {xs : List D} (ha : evE tb a E n = some (.ok (.im (.int i)) n)) (h : rngOf [i] = some xs) : evW tb st (.rng (.cons a .no)) E n = some (.ok xs n) := by
  rw [w_rng, a_cons, ha, bind_ok, a_no, bind_ok, bind_ok]
  have e : (datAll [Lk.R.im (.int i)]).bind (fun ds => (intsOf ds).bind rngOf) = rngOf [i] := rfl
  rw [e, h]; rfl
end Mk
end
section
set_option linter.all false
set_option maxRecDepth 100000
set_option maxHeartbeats 1000000
/-! the row of numbers that a script gives -/
namespace Mk
open PySem PyProof.Rows L2 Lk Hd
theorem loopS_any {α : Type} {c : α → D} {f : D → En → Int → Option So} {n : Int} (P : List α → En → Prop) (Q : En → Prop) : ∀ (l : List α) (E : En), P l E → (∀ a r E, P (a :: r) E → (∃ E', f (c a) E n = some (.nx E' n) ∧ P r E') ∨ (∃ E', f (c a) E n = some (.bk E' n) ∧ Q E')) →
    ∃ E', loopS f (l.map c) E n = some (.nx E' n) ∧ (P [] E' ∨ Q E')
  | [], E, h, _ => ⟨E, rfl, .inl h⟩
  | a :: l, E, h, hs => by
    rcases hs a l E h with ⟨E1, e1, h1⟩ | ⟨E1, e1, h1⟩
    · obtain ⟨E2, e2, h2⟩ := loopS_any P Q l E1 h1 hs
      exact ⟨E2, by rw [List.map_cons, loopS, e1]; exact e2, h2⟩
    · exact ⟨E1, by rw [List.map_cons, loopS, e1], .inr h1⟩
theorem s_forI {tb : Tb} {tg : Tg} {a : P} {b r : S} {E E0 : En} {n : Int} {xs : List D} (hv : ∀ i, a ≠ .var i) (hE : frz E (consP a) = E0) (hw : evW tb true (.itr a) E0 n = some (.ok xs n)) :
    evS tb (.forr tg (.itr a) b r) E n = So.then (loopS (fun x E n => (bindT E tg (.im x)).bind fun E => evS tb b E n) xs E0 n) fun E n => evS tb r E n := by
  rw [evS]
  · simp only [hE, hw]
    rfl
  · intro i h; exact hv i h
theorem bi_fdv (i j : Int) (h : j ≠ 0 ∧ j.natAbs < 1073741824) : opBin .fdv (.im (.int i)) (.im (.int j)) = some (.im (.int (i.fdiv j))) := by
  have e2 : opBin .fdv (.im (.int i)) (.im (.int j)) = (Lk.binI .fdv i j).map fun z => .im (.int z) := rfl
  rw [e2, Lk.binI, if_pos ⟨h.1, .inl h.2⟩]; rfl
theorem ge_int (i j : Int) : opCmp .ge (.im (.int i)) (.im (.int j)) = some (decide (j ≤ i)) := rfl
def rst (s : D) (row : Vec) (e2 e3 e4 e5 : Option B) : En := [some (.im s), some (.mu (.li (iD row))), e2, e3, e4, e5]
theorem iD_app (a : Vec) (i : Int) : iD a ++ [.int i] = iD (a ++ [i]) := by simp [iD]
theorem iD_len (a : Vec) : (iD a).length = a.length := by simp [iD]
def bigB : S := (.ife (.tv (.cmp .eq (.var 3) (.lit (.int 0)))) (.brk) (.done) (.app 1 (.bin .mod (.bi .int (.cons (.var 3) (.no))) (.lit (.int 997))) (.asg (.nm 3) (.bin .fdv (.var 3) (.lit (.int 997))) (.done))))
def smallB : S := (.asg (.nm 5) (.bin .mod (.bi .int (.cons (.bin .add (.bin .add (.bin .mul (.var 2) (.lit (.int 48271))) (.bin .mul (.var 4) (.lit (.int 69621)))) (.lit (.int 11))) (.no))) (.lit (.int 2147483647))) (.app 1 (.bin .mod (.bi .int (.cons (.bin .add (.bin .mul (.var 5) (.lit (.int 16807))) (.var 4)) (.no))) (.lit (.int 2147483629))) (.done)))
theorem big_loop (tb : Tb) (n : Int) (s : D) (row : Vec) (z l : Int) (e4 e5 : Option B) (hr : row.length ≤ 5000) : ∃ row' e3' e4', row'.length ≤ row.length + 60 ∧ loopS (fun x E n => (bindT E (.nm 4) (.im x)).bind fun E => evS tb bigB E n) ((List.range 60).map fun (j : Nat) => PyData.int (j : Int)) (rst s row (some (.im (.int z))) (some (.im (.int l))) e4 e5) n = some (.nx (rst s row' (some (.im (.int z))) e3' e4' e5) n) := by
  obtain ⟨E', e, q⟩ := loopS_any (n := n) (c := fun (j : Nat) => PyData.int (j : Int)) (f := fun x E n => (bindT E (.nm 4) (.im x)).bind fun E => evS tb bigB E n)
    (fun (rm : List Nat) E => ∃ row' l' e4', E = rst s row' (some (.im (.int z))) (some (.im (.int l'))) e4' e5 ∧ row'.length + rm.length ≤ row.length + 60) (fun E => ∃ row' l' e4', E = rst s row' (some (.im (.int z))) (some (.im (.int l'))) e4' e5 ∧ row'.length ≤ row.length + 60)
    (List.range 60) (rst s row (some (.im (.int z))) (some (.im (.int l))) e4 e5) ⟨row, l, e4, rfl, by simp⟩ (by
      rintro j rm E ⟨row', l', e4', rfl, hb⟩
      rw [List.length_cons] at hb
      have q := cmp_int .eq l' 0
      have lt : row'.length < cap := by unfold cap; omega
      by_cases h : l' = 0
      · rw [decide_eq_true h] at q
        refine .inr ⟨rst s row' (some (.im (.int z))) (some (.im (.int l'))) (some (.im (.int (j : Int)))) e5, ?_, row', l', _, rfl, by omega⟩
        unfold rst
        simp [bigB, entry, setN, setNs, liAt, muAt, k_len, k_int, k_all, k_max1, k_min1, k_sorted, k_tuple, b_int, fixAll, datAll, retD, newC, sizeC, wipeE, frz, varOf, consP, bind_ok, of_some, calm_ok, Sof_ok, Sthen_nx, Sthen_rt, dat_im, dat_fr, dat_bw, dat_bo, dat_li, dat_di, fix_im, fix_fr, kids_im, kids_fr_li, kids_bw_li, walk_im, walk_fr_li, walk_bw_li, items_li, items_tu, bindT_im, bindT_fr, bindT_tu, bindT_li, put_li, app_li, v_im, v_mu, v_sp, e_lit, e_glob, e_bin, e_neg, e_cmp, e_cmp2, e_bool, e_nott, e_ife, e_tup, e_lst, e_dct0, e_slc, e_bi, e_isin, a_no, a_cons, b_last, b_cons, bt_last, bt_cons, t_bool, t_nott, t_tv, o_no, o_one, w_rng, w_itr, i_no, i_cons, c_no, s_done, s_asg, s_ret, s_ife, s_app, s_brk, q, truth]
        rfl
      · rw [decide_eq_false h] at q
        have m1 := bi_mod l' 997 (by decide)
        have m2 := bi_fdv l' 997 (by decide)
        refine .inl ⟨rst s (row' ++ [l'.fmod 997]) (some (.im (.int z))) (some (.im (.int (l'.fdiv 997)))) (some (.im (.int (j : Int)))) e5, ?_, row' ++ [l'.fmod 997], l'.fdiv 997, _, rfl, by rw [List.length_append]; simp; omega⟩
        unfold rst
        rw [← iD_app]
        have lt' : (iD row').length < cap := by rw [iD_len]; exact lt
        simp [bigB, entry, setN, setNs, liAt, muAt, k_len, k_int, k_all, k_max1, k_min1, k_sorted, k_tuple, b_int, fixAll, datAll, retD, newC, sizeC, wipeE, frz, varOf, consP, bind_ok, of_some, calm_ok, Sof_ok, Sthen_nx, Sthen_rt, dat_im, dat_fr, dat_bw, dat_bo, dat_li, dat_di, fix_im, fix_fr, kids_im, kids_fr_li, kids_bw_li, walk_im, walk_fr_li, walk_bw_li, items_li, items_tu, bindT_im, bindT_fr, bindT_tu, bindT_li, put_li, app_li, v_im, v_mu, v_sp, e_lit, e_glob, e_bin, e_neg, e_cmp, e_cmp2, e_bool, e_nott, e_ife, e_tup, e_lst, e_dct0, e_slc, e_bi, e_isin, a_no, a_cons, b_last, b_cons, bt_last, bt_cons, t_bool, t_nott, t_tv, o_no, o_one, w_rng, w_itr, i_no, i_cons, c_no, s_done, s_asg, s_ret, s_ife, s_app, s_brk, q, truth, m1, m2, lt'])
  rcases q with ⟨row', l', e4', rfl, h⟩ | ⟨row', l', e4', rfl, h⟩
  · exact ⟨row', _, e4', by simpa using h, e⟩
  · exact ⟨row', _, e4', h, e⟩
theorem small_loop (tb : Tb) (n : Int) (s : D) (row : Vec) (z : Int) (e3 e4 e5 : Option B) (hr : row.length ≤ 5000) : ∃ row' e4' e5', row'.length ≤ row.length + 60 ∧ loopS (fun x E n => (bindT E (.nm 4) (.im x)).bind fun E => evS tb smallB E n) ((List.range 4).map fun (j : Nat) => PyData.int (j : Int)) (rst s row (some (.im (.int z))) e3 e4 e5) n = some (.nx (rst s row' (some (.im (.int z))) e3 e4' e5') n) := by
  obtain ⟨E', e, row', e4', e5', rfl, h⟩ := loopS_fold (n := n) (c := fun (j : Nat) => PyData.int (j : Int)) (f := fun x E n => (bindT E (.nm 4) (.im x)).bind fun E => evS tb smallB E n)
    (fun (rm : List Nat) (_ : Unit) E => ∃ row' e4' e5', E = rst s row' (some (.im (.int z))) e3 e4' e5' ∧ row'.length + rm.length ≤ row.length + 4) (fun _ _ => ())
    (List.range 4) () (rst s row (some (.im (.int z))) e3 e4 e5) ⟨row, e4, e5, rfl, by simp⟩ (by
      rintro j rm _ E ⟨row', e4', e5', rfl, hb⟩
      rw [List.length_cons] at hb
      have lt' : (iD row').length < cap := by rw [iD_len]; unfold cap; omega
      have m1 := bi_mul z 48271 (by decide)
      have m2 := bi_mul (j : Int) 69621 (by decide)
      have m3 := bi_mod (z * 48271 + j * 69621 + 11) 2147483647 (by decide)
      generalize (z * 48271 + j * 69621 + 11).fmod 2147483647 = y at m3
      have m4 := bi_mul y 16807 (by decide)
      have m5 := bi_mod (y * 16807 + j) 2147483629 (by decide)
      generalize (y * 16807 + j).fmod 2147483629 = w at m5
      refine ⟨rst s (row' ++ [w]) (some (.im (.int z))) e3 (some (.im (.int (j : Int)))) (some (.im (.int y))), ?_, row' ++ [w], _, _, rfl, by rw [List.length_append]; simp; omega⟩
      unfold rst
      rw [← iD_app]
      simp [smallB, entry, setN, setNs, liAt, muAt, k_len, k_int, k_all, k_max1, k_min1, k_sorted, k_tuple, b_int, fixAll, datAll, retD, newC, sizeC, wipeE, frz, varOf, consP, bind_ok, of_some, calm_ok, Sof_ok, Sthen_nx, Sthen_rt, dat_im, dat_fr, dat_bw, dat_bo, dat_li, dat_di, fix_im, fix_fr, kids_im, kids_fr_li, kids_bw_li, walk_im, walk_fr_li, walk_bw_li, items_li, items_tu, bindT_im, bindT_fr, bindT_tu, bindT_li, put_li, app_li, v_im, v_mu, v_sp, e_lit, e_glob, e_bin, e_neg, e_cmp, e_cmp2, e_bool, e_nott, e_ife, e_tup, e_lst, e_dct0, e_slc, e_bi, e_isin, a_no, a_cons, b_last, b_cons, bt_last, bt_cons, t_bool, t_nott, t_tv, o_no, o_one, w_rng, w_itr, i_no, i_cons, c_no, s_done, s_asg, s_ret, s_ife, s_app, s_brk, m1, m2, m3, m4, m5, bi_add, lt'])
  exact ⟨row', e4', e5', by simp at h; omega, e⟩
theorem cut_map {α : Type} (f : α → D) (l : List α) (lo hi : Option Int) : cutG (l.map f) lo hi = (cutG l lo hi).map f := by unfold cutG; simp
theorem sp__law_numbers (tb : Tb) (n : Int) (ns : List Int) (hl : ns.length ≤ 63) : ∃ row : Vec, row ≠ [] ∧ row.length ≤ 4000 ∧ runD tb b__law_numbers none 6 [.list (iD ns)] n = some (.ok (.list (iD row)) n) := by
  have pw : opBin .pow (.im (.int 10)) (.im (.int 18)) = some (.im (.int 1000000000000000000)) := rfl
  have r60 := rng_one 60 (by decide)
  have r4 := rng_one 4 (by decide)
  have cl : (cutG ns none (some 63)).length ≤ 63 := by
    have : (cutG ns none (some 63)).length ≤ ns.length := by unfold cutG; simp; omega
    omega
  have lp : ∃ row e2 e3 e4 e5, row.length ≤ 3780 ∧ loopS (fun x E n => (bindT E (.nm 2) (.im x)).bind fun E => evS tb (.ife (.tv (.cmp .ge (.var 2) (.bin .pow (.lit (.int 10)) (.lit (.int 18))))) (.asg (.nm 3) (.var 2) (.forr (.nm 4) (.rng (.cons (.lit (.int 60)) (.no))) bigB (.done))) (.forr (.nm 4) (.rng (.cons (.lit (.int 4)) (.no))) smallB (.done)) (.done)) E n) ((cutG ns none (some 63)).map PyData.int) (rst (.list (iD ns)) [] none none none none) n = some (.nx (rst (.list (iD ns)) row e2 e3 e4 e5) n) := by
    obtain ⟨E', e, row, e2, e3, e4, e5, rfl, h⟩ := loopS_fold (n := n) (c := PyData.int) (f := fun x E n => (bindT E (.nm 2) (.im x)).bind fun E => evS tb (.ife (.tv (.cmp .ge (.var 2) (.bin .pow (.lit (.int 10)) (.lit (.int 18))))) (.asg (.nm 3) (.var 2) (.forr (.nm 4) (.rng (.cons (.lit (.int 60)) (.no))) bigB (.done))) (.forr (.nm 4) (.rng (.cons (.lit (.int 4)) (.no))) smallB (.done)) (.done)) E n)
      (fun (rm : List Int) (_ : Unit) E => ∃ row e2 e3 e4 e5, E = rst (.list (iD ns)) row e2 e3 e4 e5 ∧ row.length + 60 * rm.length ≤ 3780) (fun _ _ => ()) (cutG ns none (some 63)) () (rst (.list (iD ns)) [] none none none none) ⟨[], _, _, _, _, rfl, by simp; omega⟩ (by
        rintro z rm _ E ⟨row, e2, e3, e4, e5, rfl, hb⟩
        rw [List.length_cons, Nat.mul_succ] at hb
        have g := ge_int z 1000000000000000000
        by_cases hz : (1000000000000000000 : Int) ≤ z
        · rw [decide_eq_true hz] at g
          obtain ⟨row', e3', e4', h1, h2⟩ := big_loop tb n (.list (iD ns)) row z z e4 e5 (by omega)
          refine ⟨rst (.list (iD ns)) row' (some (.im (.int z))) e3' e4' e5, ?_, row', _, _, _, _, rfl, by omega⟩
          have hw : evW tb true (.rng (.cons (.lit (.int 60)) (.no))) (rst (.list (iD ns)) row (some (.im (.int z))) (some (.im (.int z))) e4 e5) n = some (.ok ((List.range 60).map fun (j : Nat) => PyData.int (j : Int)) n) := w_rng1 (e_lit _) r60
          have st := (s_forR (tg := .nm 4) (b := bigB) (r := .done) hw).trans ((congrArg (fun o => So.then o _) h2).trans (Sthen_nx _ _ _))
          rw [s_done] at st
          unfold rst at st ⊢
          simp [entry, setN, setNs, liAt, muAt, k_len, k_int, k_all, k_max1, k_min1, k_sorted, k_tuple, b_int, fixAll, datAll, retD, newC, sizeC, wipeE, frz, varOf, consP, bind_ok, of_some, calm_ok, Sof_ok, Sthen_nx, Sthen_rt, dat_im, dat_fr, dat_bw, dat_bo, dat_li, dat_di, fix_im, fix_fr, kids_im, kids_fr_li, kids_bw_li, walk_im, walk_fr_li, walk_bw_li, items_li, items_tu, bindT_im, bindT_fr, bindT_tu, bindT_li, put_li, app_li, v_im, v_mu, v_sp, e_lit, e_glob, e_bin, e_neg, e_cmp, e_cmp2, e_bool, e_nott, e_ife, e_tup, e_lst, e_dct0, e_slc, e_bi, e_isin, a_no, a_cons, b_last, b_cons, bt_last, bt_cons, t_bool, t_nott, t_tv, o_no, o_one, w_rng, w_itr, i_no, i_cons, c_no, s_done, s_asg, s_ret, s_ife, s_app, s_brk, pw, g, truth, st]
        · rw [decide_eq_false hz] at g
          obtain ⟨row', e4', e5', h1, h2⟩ := small_loop tb n (.list (iD ns)) row z e3 e4 e5 (by omega)
          refine ⟨rst (.list (iD ns)) row' (some (.im (.int z))) e3 e4' e5', ?_, row', _, _, _, _, rfl, by omega⟩
          have hw : evW tb true (.rng (.cons (.lit (.int 4)) (.no))) (rst (.list (iD ns)) row (some (.im (.int z))) e3 e4 e5) n = some (.ok ((List.range 4).map fun (j : Nat) => PyData.int (j : Int)) n) := w_rng1 (e_lit _) r4
          have st := (s_forR (tg := .nm 4) (b := smallB) (r := .done) hw).trans ((congrArg (fun o => So.then o _) h2).trans (Sthen_nx _ _ _))
          rw [s_done] at st
          unfold rst at st ⊢
          simp [entry, setN, setNs, liAt, muAt, k_len, k_int, k_all, k_max1, k_min1, k_sorted, k_tuple, b_int, fixAll, datAll, retD, newC, sizeC, wipeE, frz, varOf, consP, bind_ok, of_some, calm_ok, Sof_ok, Sthen_nx, Sthen_rt, dat_im, dat_fr, dat_bw, dat_bo, dat_li, dat_di, fix_im, fix_fr, kids_im, kids_fr_li, kids_bw_li, walk_im, walk_fr_li, walk_bw_li, items_li, items_tu, bindT_im, bindT_fr, bindT_tu, bindT_li, put_li, app_li, v_im, v_mu, v_sp, e_lit, e_glob, e_bin, e_neg, e_cmp, e_cmp2, e_bool, e_nott, e_ife, e_tup, e_lst, e_dct0, e_slc, e_bi, e_isin, a_no, a_cons, b_last, b_cons, bt_last, bt_cons, t_bool, t_nott, t_tv, o_no, o_one, w_rng, w_itr, i_no, i_cons, c_no, s_done, s_asg, s_ret, s_ife, s_app, s_brk, pw, g, truth, st])
    exact ⟨row, e2, e3, e4, e5, by simpa using h, e⟩
  obtain ⟨row, e2, e3, e4, e5, hrl, lp⟩ := lp
  have hw : evW tb true (.itr (.slc (.var 0) (.no) (.cons (.lit (.int 63)) .no))) (rst (.list (iD ns)) [] none none none none) n = some (.ok ((cutG ns none (some 63)).map PyData.int) n) := by
    rw [w_itr, e_slc, v_im (d := .list (iD ns)) rfl, bind_ok, o_no, bind_ok, o_one, e_lit, bind_ok]
    have : opSlc (.im (.list (iD ns))) none (some 63) = some (.fr (.li ((cutG ns none (some 63)).map PyData.int))) := by
      unfold opSlc
      simp only [dat_im, kids_im, Bool.true_or, if_true]
      unfold iD; rw [cut_map]
    show M.bind (M.of (opSlc (.im (.list (iD ns))) none (some 63)) n) _ = _
    rw [this]; rfl
  have st := fun r => (s_forI (tg := .nm 2) (r := r) (b := (.ife (.tv (.cmp .ge (.var 2) (.bin .pow (.lit (.int 10)) (.lit (.int 18))))) (.asg (.nm 3) (.var 2) (.forr (.nm 4) (.rng (.cons (.lit (.int 60)) (.no))) bigB (.done))) (.forr (.nm 4) (.rng (.cons (.lit (.int 4)) (.no))) smallB (.done)) (.done))) (E := rst (.list (iD ns)) [] none none none none) (by intro i h; cases h) (by simp [rst, entry, setN, setNs, liAt, muAt, k_len, k_int, k_all, k_max1, k_min1, k_sorted, k_tuple, b_int, fixAll, datAll, retD, newC, sizeC, wipeE, frz, varOf, consP, bind_ok, of_some, calm_ok, Sof_ok, Sthen_nx, Sthen_rt, dat_im, dat_fr, dat_bw, dat_bo, dat_li, dat_di, fix_im, fix_fr, kids_im, kids_fr_li, kids_bw_li, walk_im, walk_fr_li, walk_bw_li, items_li, items_tu, bindT_im, bindT_fr, bindT_tu, bindT_li, put_li, app_li, v_im, v_mu, v_sp, e_lit, e_glob, e_bin, e_neg, e_cmp, e_cmp2, e_bool, e_nott, e_ife, e_tup, e_lst, e_dct0, e_slc, e_bi, e_isin, a_no, a_cons, b_last, b_cons, bt_last, bt_cons, t_bool, t_nott, t_tv, o_no, o_one, w_rng, w_itr, i_no, i_cons, c_no, s_done, s_asg, s_ret, s_ife, s_app, s_brk]) hw).trans ((congrArg (fun o => So.then o _) lp).trans (Sthen_nx _ _ _))
  have ln : biLen (.bw (.li (iD row))) = some (.im (.int (row.length : Int))) := by rw [← iD_len]; rfl
  have q := cmp_int .eq (row.length : Int) 0
  unfold rst iD at st
  simp only [List.map_nil] at st
  by_cases h : (row.length : Int) = 0
  · rw [decide_eq_true h] at q
    have hr : row = [] := List.length_eq_zero_iff.mp (by omega)
    subst hr
    refine ⟨[0], by simp, by simp, run_rt ?_⟩
    have ln : biLen (.bw (.li [])) = some (.im (.int 0)) := rfl
    have q : opCmp .eq (.im (.int 0)) (.im (.int 0)) = some true := by rw [cmp_int .eq]; rfl
    have c0 : 0 < cap := by unfold cap; omega
    simp only [b__law_numbers]
    rw [s_asg]
    simp only [entry, setN, setNs, liAt, muAt, k_len, k_int, k_all, k_max1, k_min1, k_sorted, k_tuple, b_int, fixAll, datAll, retD, newC, sizeC, wipeE, frz, varOf, consP, bind_ok, of_some, calm_ok, Sof_ok, Sthen_nx, Sthen_rt, dat_im, dat_fr, dat_bw, dat_bo, dat_li, dat_di, fix_im, fix_fr, kids_im, kids_fr_li, kids_bw_li, walk_im, walk_fr_li, walk_bw_li, items_li, items_tu, bindT_im, bindT_fr, bindT_tu, bindT_li, put_li, app_li, v_im, v_mu, v_sp, e_lit, e_glob, e_bin, e_neg, e_cmp, e_cmp2, e_bool, e_nott, e_ife, e_tup, e_lst, e_dct0, e_slc, e_bi, e_isin, a_no, a_cons, b_last, b_cons, bt_last, bt_cons, t_bool, t_nott, t_tv, o_no, o_one, w_rng, w_itr, i_no, i_cons, c_no, s_done, s_asg, s_ret, s_ife, s_app, s_brk, Option.map_some, Option.bind_some, List.length_cons, List.length_nil, List.replicate, List.cons_append, List.nil_append, Nat.reduceSub, List.set_cons_zero]
    refine (st _).trans ?_
    simp [entry, setN, setNs, liAt, muAt, k_len, k_int, k_all, k_max1, k_min1, k_sorted, k_tuple, b_int, fixAll, datAll, retD, newC, sizeC, wipeE, frz, varOf, consP, bind_ok, of_some, calm_ok, Sof_ok, Sthen_nx, Sthen_rt, dat_im, dat_fr, dat_bw, dat_bo, dat_li, dat_di, fix_im, fix_fr, kids_im, kids_fr_li, kids_bw_li, walk_im, walk_fr_li, walk_bw_li, items_li, items_tu, bindT_im, bindT_fr, bindT_tu, bindT_li, put_li, app_li, v_im, v_mu, v_sp, e_lit, e_glob, e_bin, e_neg, e_cmp, e_cmp2, e_bool, e_nott, e_ife, e_tup, e_lst, e_dct0, e_slc, e_bi, e_isin, a_no, a_cons, b_last, b_cons, bt_last, bt_cons, t_bool, t_nott, t_tv, o_no, o_one, w_rng, w_itr, i_no, i_cons, c_no, s_done, s_asg, s_ret, s_ife, s_app, s_brk, ln, q, truth, c0, iD]
  · rw [decide_eq_false h] at q
    refine ⟨row, by intro e; rw [e] at h; exact h rfl, by omega, run_rt ?_⟩
    simp only [b__law_numbers]
    rw [s_asg]
    simp only [entry, setN, setNs, liAt, muAt, k_len, k_int, k_all, k_max1, k_min1, k_sorted, k_tuple, b_int, fixAll, datAll, retD, newC, sizeC, wipeE, frz, varOf, consP, bind_ok, of_some, calm_ok, Sof_ok, Sthen_nx, Sthen_rt, dat_im, dat_fr, dat_bw, dat_bo, dat_li, dat_di, fix_im, fix_fr, kids_im, kids_fr_li, kids_bw_li, walk_im, walk_fr_li, walk_bw_li, items_li, items_tu, bindT_im, bindT_fr, bindT_tu, bindT_li, put_li, app_li, v_im, v_mu, v_sp, e_lit, e_glob, e_bin, e_neg, e_cmp, e_cmp2, e_bool, e_nott, e_ife, e_tup, e_lst, e_dct0, e_slc, e_bi, e_isin, a_no, a_cons, b_last, b_cons, bt_last, bt_cons, t_bool, t_nott, t_tv, o_no, o_one, w_rng, w_itr, i_no, i_cons, c_no, s_done, s_asg, s_ret, s_ife, s_app, s_brk, Option.map_some, Option.bind_some, List.length_cons, List.length_nil, List.replicate, List.cons_append, List.nil_append, Nat.reduceSub, List.set_cons_zero]
    refine (st _).trans ?_
    unfold iD at ln
    simp [entry, setN, setNs, liAt, muAt, k_len, k_int, k_all, k_max1, k_min1, k_sorted, k_tuple, b_int, fixAll, datAll, retD, newC, sizeC, wipeE, frz, varOf, consP, bind_ok, of_some, calm_ok, Sof_ok, Sthen_nx, Sthen_rt, dat_im, dat_fr, dat_bw, dat_bo, dat_li, dat_di, fix_im, fix_fr, kids_im, kids_fr_li, kids_bw_li, walk_im, walk_fr_li, walk_bw_li, items_li, items_tu, bindT_im, bindT_fr, bindT_tu, bindT_li, put_li, app_li, v_im, v_mu, v_sp, e_lit, e_glob, e_bin, e_neg, e_cmp, e_cmp2, e_bool, e_nott, e_ife, e_tup, e_lst, e_dct0, e_slc, e_bi, e_isin, a_no, a_cons, b_last, b_cons, bt_last, bt_cons, t_bool, t_nott, t_tv, o_no, o_one, w_rng, w_itr, i_no, i_cons, c_no, s_done, s_asg, s_ret, s_ife, s_app, s_brk, ln, q, truth, iD]
end Mk
end
section
set_option linter.all false
set_option maxRecDepth 100000
set_option maxHeartbeats 1000000
/-! law_k00: what is the same; own exceptions made, asked, caught -/
namespace Mk
open PySem PyProof.Rows L2 Lk Hd
theorem tyx_int (tb : Tb) (i : Int) (ts : List Str) : isTysX tb (.int i) ts = isTys (.int i) ts := rfl
theorem tyx_tup (tb : Tb) (xs : List D) (ts : List Str) : isTysX tb (.tuple xs) ts = isTys (.tuple xs) ts := rfl
theorem so_bool (tb : Tb) (n : Int) (b : Bool) : runD tb b__law_so none 3 [.bool b, .bool b] n = some (.ok (.bool true) n) := by cases b <;> rfl
theorem so_none (tb : Tb) (n : Int) : runD tb b__law_so none 3 [.none, .none] n = some (.ok (.bool true) n) := rfl
theorem so_x (tb : Tb) (n : Int) : runD tb b__law_so none 3 [.str "x", .str "x"] n = some (.ok (.bool true) n) := by
  refine run_rt ?_
  have q : opCmp .eq (.im (.str "x")) (.im (.str "x")) = some true := by decide +kernel
  have t1 : isTysX tb (.str "x") ["tuple"] = some false := rfl
  have t2 : isTysX tb (.str "x") ["bool"] = some false := rfl
  have t3 : isTysX tb (.str "x") ["int"] = some false := rfl
  have t4 : isTysX tb (.str "x") ["str"] = some true := rfl
  have nn : opCmp .isN (.im (.str "x")) (.im .none) = some false := rfl
  simp [b__law_so, entry, setN, setNs, liAt, muAt, k_len, k_int, k_all, k_max1, k_min1, k_sorted, k_tuple, b_int, fixAll, datAll, retD, newC, sizeC, wipeE, frz, varOf, consP, bind_ok, of_some, calm_ok, Sof_ok, Sthen_nx, Sthen_rt, dat_im, dat_fr, dat_bw, dat_bo, dat_li, dat_di, fix_im, fix_fr, kids_im, kids_fr_li, kids_bw_li, walk_im, walk_fr_li, walk_bw_li, items_li, items_tu, bindT_im, bindT_fr, bindT_tu, bindT_li, put_li, app_li, v_im, v_mu, v_sp, e_lit, e_glob, e_bin, e_neg, e_cmp, e_cmp2, e_bool, e_nott, e_ife, e_tup, e_lst, e_dct0, e_slc, e_bi, e_isin, a_no, a_cons, b_last, b_cons, bt_last, bt_cons, t_bool, t_nott, t_tv, o_no, o_one, w_rng, w_itr, i_no, i_cons, c_no, s_done, s_asg, s_ret, s_ife, s_app, s_brk, nn, t1, t2, t3, t4, truth, q]
theorem so_int (tb : Tb) (n i : Int) : runD tb b__law_so none 3 [.int i, .int i] n = some (.ok (.bool true) n) := by
  refine run_rt ?_
  have q := cmp_int .eq i i
  have t1 := ty_tup (.int i) rfl
  have t2 := ty_bool (.int i) rfl
  have t3 := ty_int (.int i) rfl
  have nn := (none_D (.int i)).1
  have nn : opCmp .isN (.im (.int i)) (.im .none) = some false := nn
  simp only [isT, isB, isI, Bool.or_false, decide_true] at q t1 t2 t3
  simp [b__law_so, entry, setN, setNs, liAt, muAt, k_len, k_int, k_all, k_max1, k_min1, k_sorted, k_tuple, b_int, fixAll, datAll, retD, newC, sizeC, wipeE, frz, varOf, consP, bind_ok, of_some, calm_ok, Sof_ok, Sthen_nx, Sthen_rt, dat_im, dat_fr, dat_bw, dat_bo, dat_li, dat_di, fix_im, fix_fr, kids_im, kids_fr_li, kids_bw_li, walk_im, walk_fr_li, walk_bw_li, items_li, items_tu, bindT_im, bindT_fr, bindT_tu, bindT_li, put_li, app_li, v_im, v_mu, v_sp, e_lit, e_glob, e_bin, e_neg, e_cmp, e_cmp2, e_bool, e_nott, e_ife, e_tup, e_lst, e_dct0, e_slc, e_bi, e_isin, a_no, a_cons, b_last, b_cons, bt_last, bt_cons, t_bool, t_nott, t_tv, o_no, o_one, w_rng, w_itr, i_no, i_cons, c_no, s_done, s_asg, s_ret, s_ife, s_app, s_brk, tyx_int, nn, t1, t2, t3, truth, q]
theorem so_tup (tb : Tb) (n : Int) (xs : List D) (hl : xs.length ≤ 100000)
    (h : ∀ (j : Nat) (d : D), xs[j]? = some d → evE tb (.call "_law_so" (.cons (.idx (.var 0) (.var 2)) (.cons (.idx (.var 1) (.var 2)) (.no))) []) [some (.im (.tuple xs)), some (.im (.tuple xs)), some (.im (.int (j : Int)))] n = some (.ok (.im (.bool true)) n)) :
    runD tb b__law_so none 3 [.tuple xs, .tuple xs] n = some (.ok (.bool true) n) := by
  refine run_rt ?_
  have t1 : isTys (.tuple xs) ["tuple"] = some true := ty_tup (.tuple xs) rfl
  have nn : opCmp .isN (.im (.tuple xs)) (.im .none) = some false := rfl
  have ln := len_im (items_tu xs)
  have ne : opCmp .ne (.im (.int (xs.length : Int))) (.im (.int (xs.length : Int))) = some false := by rw [ne_int]; simp
  have hw : evW tb true (.rng (.cons (.bi .len (.cons (.var 1) (.no))) (.no))) [some (.im (.tuple xs)), some (.im (.tuple xs)), none] n = some (.ok ((List.range xs.length).map fun (j : Nat) => PyData.int (j : Int)) n) :=
    w_rng1 (by rw [e_bi, a_cons, v_im (d := .tuple xs) rfl, bind_ok, a_no, bind_ok, bind_ok, k_len, ln]; rfl) (rng_one xs.length (by omega))
  obtain ⟨E', e', _⟩ := loopS_fold (n := n) (c := fun (j : Nat) => PyData.int (j : Int)) (f := fun x E n => (bindT E (.nm 2) (.im x)).bind fun E => evS tb (.ife (.nott (.tv (.call "_law_so" (.cons (.idx (.var 0) (.var 2)) (.cons (.idx (.var 1) (.var 2)) (.no))) []))) (.ret (.lit (.bool false))) (.done) (.done)) E n)
    (fun (rm : List Nat) (_ : Unit) E => (∃ e2, E = [some (.im (.tuple xs)), some (.im (.tuple xs)), e2]) ∧ ∀ j ∈ rm, j < xs.length) (fun _ _ => ()) (List.range xs.length) () [some (.im (.tuple xs)), some (.im (.tuple xs)), none] ⟨⟨_, rfl⟩, fun j hj => List.mem_range.mp hj⟩ (by
      rintro j rm _ E ⟨⟨e2, rfl⟩, hj⟩
      have hlt := hj j (List.mem_cons_self ..)
      have q := h j xs[j] (List.getElem?_eq_getElem hlt)
      refine ⟨[some (.im (.tuple xs)), some (.im (.tuple xs)), some (.im (.int (j : Int)))], ?_, ⟨_, rfl⟩, fun i hi => hj i (List.mem_cons_of_mem _ hi)⟩
      simp [entry, setN, setNs, liAt, muAt, k_len, k_int, k_all, k_max1, k_min1, k_sorted, k_tuple, b_int, fixAll, datAll, retD, newC, sizeC, wipeE, frz, varOf, consP, bind_ok, of_some, calm_ok, Sof_ok, Sthen_nx, Sthen_rt, dat_im, dat_fr, dat_bw, dat_bo, dat_li, dat_di, fix_im, fix_fr, kids_im, kids_fr_li, kids_bw_li, walk_im, walk_fr_li, walk_bw_li, items_li, items_tu, bindT_im, bindT_fr, bindT_tu, bindT_li, put_li, app_li, v_im, v_mu, v_sp, e_lit, e_glob, e_bin, e_neg, e_cmp, e_cmp2, e_bool, e_nott, e_ife, e_tup, e_lst, e_dct0, e_slc, e_bi, e_isin, a_no, a_cons, b_last, b_cons, bt_last, bt_cons, t_bool, t_nott, t_tv, o_no, o_one, w_rng, w_itr, i_no, i_cons, c_no, s_done, s_asg, s_ret, s_ife, s_app, s_brk, q, truth])
  have st := s_forR (tg := .nm 2) (b := (.ife (.nott (.tv (.call "_law_so" (.cons (.idx (.var 0) (.var 2)) (.cons (.idx (.var 1) (.var 2)) (.no))) []))) (.ret (.lit (.bool false))) (.done) (.done))) (r := .ret (.lit (.bool true))) hw
  have st2 := st.trans ((congrArg (fun o => So.then o _) e').trans (Sthen_nx _ _ _))
  rw [s_ret, e_lit, Sof_ok] at st2
  simp [b__law_so, entry, setN, setNs, liAt, muAt, k_len, k_int, k_all, k_max1, k_min1, k_sorted, k_tuple, b_int, fixAll, datAll, retD, newC, sizeC, wipeE, frz, varOf, consP, bind_ok, of_some, calm_ok, Sof_ok, Sthen_nx, Sthen_rt, dat_im, dat_fr, dat_bw, dat_bo, dat_li, dat_di, fix_im, fix_fr, kids_im, kids_fr_li, kids_bw_li, walk_im, walk_fr_li, walk_bw_li, items_li, items_tu, bindT_im, bindT_fr, bindT_tu, bindT_li, put_li, app_li, v_im, v_mu, v_sp, e_lit, e_glob, e_bin, e_neg, e_cmp, e_cmp2, e_bool, e_nott, e_ife, e_tup, e_lst, e_dct0, e_slc, e_bi, e_isin, a_no, a_cons, b_last, b_cons, bt_last, bt_cons, t_bool, t_nott, t_tv, o_no, o_one, w_rng, w_itr, i_no, i_cons, c_no, s_done, s_asg, s_ret, s_ife, s_app, s_brk, tyx_tup, nn, t1, truth, ln, ne]
  rw [st2]; rfl
theorem e_ix {tb : Tb} {E : En} {n : Int} {a b : P} {d e : D} {xs : List D} (i : Nat) {j : Int} (ha : evE tb a E n = some (.ok (.im d) n)) (hb : evE tb b E n = some (.ok (.im (.int j)) n)) (h : itemsOf d = some xs) (hj : j = i) (hx : xs[i]? = some e) : evE tb (.idx a b) E n = some (.ok (.im e) n) := by
  rw [e_idx, ha, bind_ok, hb, bind_ok, idx_seq (j := j) i hj h hx]; rfl
/-- what NoPoint, NoCell are made with -/
inductive Oth (a : Int) : D → Prop
  | non : Oth a .none
  | int (i : Int) : Oth a (.int i)
  | str : Oth a (.str "x")
  | tup : Oth a (.tuple [.int a, .int 2])
  | tru : Oth a (.bool true)
theorem so_oth (k : Nat) (n a : Int) : ∀ {d : D}, Oth a d → runD (T (k + 1)) b__law_so none 3 [d, d] n = some (.ok (.bool true) n)
  | _, .non => so_none _ n
  | _, .int i => so_int _ n i
  | _, .str => so_x _ n
  | _, .tru => so_bool _ n true
  | _, .tup => so_tup _ n [.int a, .int 2] (by simp) fun j d hd => by
    have hi : ∃ i, d = .int i := by
      match j, hd with
      | 0, hd => exact ⟨a, (Option.some.inj hd).symm⟩
      | 1, hd => exact ⟨2, (Option.some.inj hd).symm⟩
      | j + 2, hd => cases hd
    obtain ⟨i, rfl⟩ := hi
    exact call2 (fn__law_so k) (e_ix j (v_im rfl) (v_im rfl) (items_tu _) rfl hd) rfl (e_ix j (v_im rfl) (v_im rfl) (items_tu _) rfl hd) rfl (so_int _ n i)
/-- an own exception asked for its class -/
theorem e_isx {tb : Tb} {E : En} {n : Int} {a : P} {d : D} {c t : Str} {b : Bool} (ha : evE tb a E n = some (.ok (.im d) n)) (hc : excOf d = some c) (hx : tb.ix c t = some b) : evE tb (.isin a [t]) E n = some (.ok (.im (.bool b)) n) := by
  have : isTysX tb d [t] = some b := by unfold isTysX; rw [hc]; exact hx
  rw [e_isin, ha, bind_ok, dat_im, Option.bind_some, this]; rfl
theorem of_core {tb : Tb} {n : Int} {d : D} {c : Str} {b1 b2 b3 b4 b5 : Bool} (hc : excOf d = some c) (h1 : tb.ix c "BadValue" = some b1) (h2 : tb.ix c "BadText" = some b2) (h3 : tb.ix c "NoPoint" = some b3) (h4 : tb.ix c "NoCell" = some b4) (h5 : tb.ix c "TooMany" = some b5) :
    runD tb b__law_of none 2 [d] n = some (.ok (.list [.bool b1, .bool b2, .bool b3, .bool b4, .bool b5]) n) := by
  refine run_rt ?_
  have g1 : ∀ e1, evE tb (.isin (.var 0) ["BadValue"]) [some (.im d), e1] n = some (.ok (.im (.bool b1)) n) := fun e1 => e_isx (v_im rfl) hc h1
  have g2 : ∀ e1, evE tb (.isin (.var 0) ["BadText"]) [some (.im d), e1] n = some (.ok (.im (.bool b2)) n) := fun e1 => e_isx (v_im rfl) hc h2
  have g3 : ∀ e1, evE tb (.isin (.var 0) ["NoPoint"]) [some (.im d), e1] n = some (.ok (.im (.bool b3)) n) := fun e1 => e_isx (v_im rfl) hc h3
  have g4 : ∀ e1, evE tb (.isin (.var 0) ["NoCell"]) [some (.im d), e1] n = some (.ok (.im (.bool b4)) n) := fun e1 => e_isx (v_im rfl) hc h4
  have g5 : ∀ e1, evE tb (.isin (.var 0) ["TooMany"]) [some (.im d), e1] n = some (.ok (.im (.bool b5)) n) := fun e1 => e_isx (v_im rfl) hc h5
  have ad : opBin .add (.bw (.li [.bool b1, .bool b2, .bool b3])) (Lk.R.fr (.li [.bool b4, .bool b5])) = some (Lk.R.fr (.li [.bool b1, .bool b2, .bool b3, .bool b4, .bool b5])) := rfl
  rw [b__law_of, s_asg]
  show So.of (evE tb _ [some (.im d), none] n) _ = _
  rw [e_lst, a_cons, g1, bind_ok, a_cons, g2, bind_ok, a_cons, g3, bind_ok, a_no, bind_ok, bind_ok, bind_ok, bind_ok]
  show evS tb (.ret _) [some (.im d), some (.mu (.li [.bool b1, .bool b2, .bool b3]))] n = _
  rw [s_ret]
  show So.of (evE tb _ [some (.im d), some (.mu (.li [.bool b1, .bool b2, .bool b3]))] n) _ = _
  rw [e_bin, v_mu (t := .li [.bool b1, .bool b2, .bool b3]) rfl, bind_ok, e_lst, a_cons, g4, bind_ok, a_cons, g5, bind_ok, a_no, bind_ok, bind_ok, bind_ok]
  show So.of (M.bind (some (.ok (Lk.R.fr (.li [.bool b4, .bool b5])) n)) _) _ = _
  rw [bind_ok, ad]; rfl
theorem foreign_core {tb : Tb} {n : Int} {d : D} {c : Str} (hc : excOf d = some c) (h1 : tb.ix c "ValueError" = some false) (h2 : tb.ix c "LookupError" = some false) (h3 : tb.ix c "ArithmeticError" = some false) (h4 : tb.ix c "Exception" = some true) :
    runD tb b__law_foreign none 1 [d] n = some (.ok (.bool false) n) := by
  refine run_rt ?_
  have g1 : evE tb (.isin (.var 0) ["ValueError"]) [some (.im d)] n = some (.ok (.im (.bool false)) n) := e_isx (v_im rfl) hc h1
  have g2 : evE tb (.isin (.var 0) ["LookupError"]) [some (.im d)] n = some (.ok (.im (.bool false)) n) := e_isx (v_im rfl) hc h2
  have g3 : evE tb (.isin (.var 0) ["ArithmeticError"]) [some (.im d)] n = some (.ok (.im (.bool false)) n) := e_isx (v_im rfl) hc h3
  have g4 : evE tb (.isin (.var 0) ["Exception"]) [some (.im d)] n = some (.ok (.im (.bool true)) n) := e_isx (v_im rfl) hc h4
  simp [b__law_foreign, entry, setN, setNs, liAt, muAt, k_len, k_int, k_all, k_max1, k_min1, k_sorted, k_tuple, b_int, fixAll, datAll, retD, newC, sizeC, wipeE, frz, varOf, consP, bind_ok, of_some, calm_ok, Sof_ok, Sthen_nx, Sthen_rt, dat_im, dat_fr, dat_bw, dat_bo, dat_li, dat_di, fix_im, fix_fr, kids_im, kids_fr_li, kids_bw_li, walk_im, walk_fr_li, walk_bw_li, items_li, items_tu, bindT_im, bindT_fr, bindT_tu, bindT_li, put_li, app_li, v_im, v_mu, v_sp, e_lit, e_glob, e_bin, e_neg, e_cmp, e_cmp2, e_bool, e_nott, e_ife, e_tup, e_lst, e_dct0, e_slc, e_bi, a_no, a_cons, b_last, b_cons, bt_last, bt_cons, t_bool, t_nott, t_tv, o_no, o_one, w_rng, w_itr, i_no, i_cons, c_no, s_done, s_asg, s_ret, s_ife, s_app, s_brk, g1, g2, g3, g4, truth]
end Mk
end
section
set_option linter.all false
set_option maxRecDepth 100000
set_option maxHeartbeats 1000000
/-! law_k00: the law's parts -/
namespace Mk
open PySem PyProof.Rows L2 Lk Hd
section
variable {tb tb' : Tb} {E : En} {n n' : Int}
theorem e_fld (a : P) (f : Str) : evE tb (.fld a f) E n = (evE tb a E n).bind fun x n => M.of (x.dat.bind fun d => (excF tb f d).map (part x)) n := by rw [evE]
theorem e_fldX {i : Nat} {c f : Str} {d : D} (h : E[i]? = some (some (.im (exD c f d)))) (hc : tb.cl c = some f) : evE tb (.fld (.var i) f) E n = some (.ok (.im d) n) := by
  have : excF tb f (exD c f d) = some d := by
    show (if f = f ∧ tb.cl c = some f then some d else none) = _
    rw [if_pos ⟨rfl, hc⟩]
  rw [e_fld, v_im h, bind_ok, dat_im, Option.bind_some, this]; rfl
theorem e_callK (f : Str) (as : P) (ks : List Str) : evE tb (.call f as ks) E n = match tb.fn f with
    | some fn => if ks = [] ∨ ks = fn.ps then (evA tb as E n).bind fun rs n => opCall fn rs n else none
    | none => none := by rw [evE] <;> rfl
theorem callX {c f : Str} {a : P} {r : Lk.R} {d : D} {ks : List Str} (hf : tb.fn c = some (fnX c f)) (ha : evE tb a E n = some (.ok r n)) (hx : r.fix = some d) (hk : ks = [] ∨ ks = [f]) : evE tb (.call c (.cons a .no) ks) E n = some (.ok (.im (exD c f d)) n) := by
  rw [e_callK, hf]
  show (if ks = [] ∨ ks = [f] then _ else _) = _
  rw [if_pos hk, a_cons, ha, bind_ok, a_no, bind_ok, bind_ok]
  simp [opCall, argsOf, fnX, hx]
theorem callX0 {c : Str} (hf : tb.fn c = some (fn0 c)) : evE tb (.call c .no []) E n = some (.ok (.im (exD0 c)) n) := by
  rw [e_callK, hf]
  show (if ([] : List Str) = [] ∨ _ then _ else _) = _
  rw [if_pos (Or.inl rfl), a_no, bind_ok]; rfl
theorem s_tryx (b : S) (cb : Str) (o : Nat) (ct : Str) : evS tb (.tryx b cb o ct) E n = if (tb.ix cb cb).isSome then match evS tb b E n with
    | some (.rt d n) => some (.rt d n)
    | some (.ex c d n) => if tb.ix c cb = some true ∧ o < E.length then (tb.ix c ct).map fun r => .rt (.bool r) n else none
    | _ => none else none := by rw [evS] <;> rfl
theorem s_rs0 {c : Str} (h : tb.c0 c = true) : evS tb (.rs0 c) E n = some (.ex c .none n) := by rw [evS, if_pos h]
theorem s_rse {c f : Str} {i : Nat} {d : D} (h : tb.cl c = some f) (hi : E[i]? = some (some (.im d))) (hf : frz E [i] = E) : evS tb (.rse c (.var i)) E n = some (.ex c d n) := by
  rw [evS, if_pos (by rw [h]; rfl)]
  show So.of (evE tb (.var i) (frz E [i]) n) _ = _
  rw [hf, v_im hi]; rfl
theorem caught0 (h0 : (tb.ix "LevelError" "LevelError").isSome = true) (h1 : tb.c0 "TooMany" = true) (h2 : tb.ix "TooMany" "LevelError" = some true) (h3 : tb.ix "TooMany" "NoCell" = some false) :
    runD tb b__law_caught none 2 [.int 0] n = some (.ok (.bool false) n) := by
  refine run_rt ?_
  show evS tb b__law_caught [some (.im (.int 0)), none] n = _
  have q := cmp_int .eq 0 0
  have e : evS tb (.ife (.tv (.cmp .eq (.var 0) (.lit (.int 0)))) (.rs0 "TooMany") (.done) (.rse "NoCell" (.var 0))) [some (.im (.int 0)), none] n = some (.ex "TooMany" .none n) := by
    have z : evE tb (.var 0) [some (.im (.int 0)), none] n = some (.ok (.im (.int 0)) n) := v_im rfl
    rw [s_ife, t_tv, e_cmp, z, bind_ok, e_lit, bind_ok, q]
    show So.of (some (.ok true n)) _ = _
    rw [Sof_ok, if_pos rfl, s_rs0 h1]; rfl
  rw [b__law_caught, s_tryx, if_pos h0, e]
  show (if tb.ix "TooMany" "LevelError" = some true ∧ 1 < 2 then _ else _) = _
  rw [if_pos ⟨h2, by decide⟩, h3]; rfl
theorem caught1 {a : Int} (ha : a ≠ 0) (h0 : (tb.ix "LevelError" "LevelError").isSome = true) (h1 : tb.cl "NoCell" = some "cell") (h2 : tb.ix "NoCell" "LevelError" = some true) (h3 : tb.ix "NoCell" "NoCell" = some true) :
    runD tb b__law_caught none 2 [.int a] n = some (.ok (.bool true) n) := by
  refine run_rt ?_
  show evS tb b__law_caught [some (.im (.int a)), none] n = _
  have q := cmp_int .eq a 0
  rw [decide_eq_false ha] at q
  have e : evS tb (.ife (.tv (.cmp .eq (.var 0) (.lit (.int 0)))) (.rs0 "TooMany") (.done) (.rse "NoCell" (.var 0))) [some (.im (.int a)), none] n = some (.ex "NoCell" (.int a) n) := by
    have z : evE tb (.var 0) [some (.im (.int a)), none] n = some (.ok (.im (.int a)) n) := v_im rfl
    rw [s_ife, t_tv, e_cmp, z, bind_ok, e_lit, bind_ok, q]
    show So.of (some (.ok false n)) _ = _
    rw [Sof_ok, if_neg (by decide), s_done, Sthen_nx, s_rse h1 rfl rfl]
  rw [b__law_caught, s_tryx, if_pos h0, e]
  show (if tb.ix "NoCell" "LevelError" = some true ∧ 1 < 2 then _ else _) = _
  rw [if_pos ⟨h2, by decide⟩, h3]; rfl
/-- for made in ..: if not _law_so(made.f, v): return False -/
def mBody (f : Str) (i : Nat) : S := .ife (.nott (.tv (.call "_law_so" (.cons (.fld (.var 5) f) (.cons (.var i) .no)) []))) (.ret (.lit (.bool false))) .done .done
theorem mBody_ok {c f : Str} {i : Nat} {d : D} (h5 : E[5]? = some (some (.im (exD c f d)))) (hi : E[i]? = some (some (.im d))) (hc : tb.cl c = some f) (hf : tb.fn "_law_so" = some ⟨["found", "meant"], none, runD tb' b__law_so none 3⟩)
    (hs : runD tb' b__law_so none 3 [d, d] n = some (.ok (.bool true) n)) : evS tb (mBody f i) E n = some (.nx E n) := by
  have q := call2 (E := E) hf (e_fldX (n := n) h5 hc) rfl (v_im hi) rfl hs
  rw [mBody, s_ife, t_nott, t_tv, q, bind_ok]
  show So.of (some (.ok false n)) _ = _
  rw [Sof_ok, if_neg (by decide), s_done, Sthen_nx, s_done]
def st (s row : D) (a : Int) (o : D) (e5 e6 e7 e8 : Option B) : En := [some (.im s), some (.im row), some .sp, some (.im (.int a)), some (.im o), e5, e6, e7, e8]
theorem mLoop {s row o d : D} {a : Int} {e6 e7 e8 : Option B} {f : Str} {i : Nat} (hi : ∀ e5, (st s row a o e5 e6 e7 e8)[i]? = some (some (.im d))) (hf : tb.fn "_law_so" = some ⟨["found", "meant"], none, runD tb' b__law_so none 3⟩)
    (hs : runD tb' b__law_so none 3 [d, d] n = some (.ok (.bool true) n)) : ∀ (cs : List Str) (e5 : Option B), (∀ c ∈ cs, tb.cl c = some f) →
    ∃ e5', loopS (fun x E n => (bindT E (.nm 5) (.im x)).bind fun E => evS tb (mBody f i) E n) (cs.map fun c => exD c f d) (st s row a o e5 e6 e7 e8) n = some (.nx (st s row a o e5' e6 e7 e8) n)
  | [], e5, _ => ⟨e5, rfl⟩
  | c :: cs, e5, h => by
    obtain ⟨e5', q⟩ := mLoop hi hf hs cs (some (.im (exD c f d))) fun c hc => h c (List.mem_cons_of_mem _ hc)
    refine ⟨e5', ?_⟩
    have b : (bindT (st s row a o e5 e6 e7 e8) (.nm 5) (.im (exD c f d))).bind (fun E => evS tb (mBody f i) E n) = some (.nx (st s row a o (some (.im (exD c f d))) e6 e7 e8) n) := by
      show evS tb (mBody f i) (st s row a o (some (.im (exD c f d))) e6 e7 e8) n = _
      exact mBody_ok rfl (hi _) (h c (List.mem_cons_self ..)) hf hs
    rw [List.map_cons, loopS, b]
    exact q
/-- every[k] is asked -/
def kBody : S := .ife (.bool false (.cons (.tv (.cmp .ne (.call "_law_of" (.cons (.idx (.var 6) (.var 7)) (.no)) []) (.comp .li [8] (.nm 8) (.rng (.cons (.lit (.int 5)) (.no))) (.no) (.no) (.cmp .eq (.var 8) (.var 7)) (.no)))) (.cons (.tv (.call "_law_foreign" (.cons (.idx (.var 6) (.var 7)) (.no)) [])) (.cons (.nott (.tv (.isin (.idx (.var 6) (.var 7)) ["LevelError"]))) (.no))))) (.ret (.lit (.bool false))) (.done) (.done)
theorem kBody_ok {d : D} {c : Str} {bs : List D} (hd : evE tb (.idx (.var 6) (.var 7)) E n = some (.ok (.im d) n)) (hc : excOf d = some c) (hf : tb.fn "_law_of" = some ⟨["value"], none, runD tb' b__law_of none 2⟩) (hg : tb.fn "_law_foreign" = some ⟨["value"], none, runD tb' b__law_foreign none 1⟩)
    (h1 : runD tb' b__law_of none 2 [d] n = some (.ok (.list bs) n)) (h2 : evE tb (.comp .li [8] (.nm 8) (.rng (.cons (.lit (.int 5)) (.no))) (.no) (.no) (.cmp .eq (.var 8) (.var 7)) (.no)) E n = some (.ok (.fr (.li bs)) n))
    (h3 : opCmp .ne (.im (.list bs)) (.fr (.li bs)) = some false) (h4 : runD tb' b__law_foreign none 1 [d] n = some (.ok (.bool false) n)) (h5 : tb.ix c "LevelError" = some true) : evS tb kBody E n = some (.nx E n) := by
  have g1 := call1 (E := E) (n := n) hf hd rfl h1
  have g2 := call1 (E := E) (n := n) hg hd rfl h4
  have g3 : evE tb (.isin (.idx (.var 6) (.var 7)) ["LevelError"]) E n = some (.ok (.im (.bool true)) n) := e_isx hd hc h5
  have t1 : evT tb (.tv (.cmp .ne (.call "_law_of" (.cons (.idx (.var 6) (.var 7)) (.no)) []) (.comp .li [8] (.nm 8) (.rng (.cons (.lit (.int 5)) (.no))) (.no) (.no) (.cmp .eq (.var 8) (.var 7)) (.no)))) E n = some (.ok false n) := by
    rw [t_tv, e_cmp, g1, bind_ok, h2, bind_ok, h3]; rfl
  have t2 : evT tb (.tv (.call "_law_foreign" (.cons (.idx (.var 6) (.var 7)) (.no)) [])) E n = some (.ok false n) := by
    rw [t_tv, g2, bind_ok]; rfl
  have t3 : evT tb (.nott (.tv (.isin (.idx (.var 6) (.var 7)) ["LevelError"]))) E n = some (.ok false n) := by
    rw [t_nott, t_tv, g3, bind_ok]; rfl
  rw [kBody, s_ife, t_bool, bt_cons, t1, bind_ok, if_pos rfl, bt_cons, t2, bind_ok, if_pos rfl, bt_last, t3, Sof_ok, if_neg (by decide), s_done, Sthen_nx, s_done]
end
end Mk
end
section
set_option linter.all false
set_option maxRecDepth 100000
set_option maxHeartbeats 1000000
/-! law_k00: the law -/
namespace Mk
open PySem PyProof.Rows L2 Lk Hd
theorem s_asgE {tb : Tb} {tg : Tg} {e : P} {r : S} {E E0 E' : En} {x : Lk.R} {n n' : Int} (hE : frz E (consP e) = E0) (he : evE tb e E0 n = some (.ok x n')) (hb : bindT E0 tg x = some E') : evS tb (.asg tg e r) E n = evS tb r E' n' := by
  rw [s_asg, hE, he, Sof_ok, hb]; rfl
theorem s_mksp {tb : Tb} {o : Nat} {r : S} {E E' : En} {n : Int} (h : setN E o .sp = some E') : evS tb (.mksp o r) E n = onlyRt (evS tb r E' 0) := by
  rw [evS, h]; rfl
section
variable (k : Nat)
theorem cl_BadValue : (T (k + 2)).cl "BadValue" = some "at" := rfl
theorem cl_BadText : (T (k + 2)).cl "BadText" = some "at" := rfl
theorem cl_NoPoint : (T (k + 2)).cl "NoPoint" = some "place" := rfl
theorem cl_NoCell : (T (k + 2)).cl "NoCell" = some "cell" := rfl
theorem fx_BadValue : (T (k + 2)).fn "BadValue" = some (fnX "BadValue" "at") := rfl
theorem fx_BadText : (T (k + 2)).fn "BadText" = some (fnX "BadText" "at") := rfl
theorem fx_NoPoint : (T (k + 2)).fn "NoPoint" = some (fnX "NoPoint" "place") := rfl
theorem fx_NoCell : (T (k + 2)).fn "NoCell" = some (fnX "NoCell" "cell") := rfl
theorem fx_TooMany : (T (k + 2)).fn "TooMany" = some (fn0 "TooMany") := rfl
end
def l1P : P := (.lst (.cons (.call "BadValue" (.cons (.var 3) (.no)) []) (.cons (.call "BadText" (.cons (.var 3) (.no)) []) (.cons (.call "BadValue" (.cons (.var 3) (.no)) ["at"]) (.cons (.call "BadText" (.cons (.var 3) (.no)) ["at"]) (.no))))))
def l2P : P := (.lst (.cons (.call "NoPoint" (.cons (.var 4) (.no)) []) (.cons (.call "NoPoint" (.cons (.var 4) (.no)) ["place"]) (.no))))
def l3P : P := (.lst (.cons (.call "NoCell" (.cons (.var 4) (.no)) []) (.cons (.call "NoCell" (.cons (.var 4) (.no)) ["cell"]) (.no))))
def l4P : P := (.lst (.cons (.call "BadValue" (.cons (.var 3) (.no)) []) (.cons (.call "BadText" (.cons (.var 3) (.no)) []) (.cons (.call "NoPoint" (.cons (.var 4) (.no)) []) (.cons (.call "NoCell" (.cons (.var 4) (.no)) []) (.cons (.call "TooMany" (.no) []) (.no)))))))
def e3P : P := (.bin .sub (.call "_law_take" (.cons (.var 1) (.cons (.var 2) (.cons (.lit (.int 997)) (.no)))) []) (.lit (.int 9)))
def e4P : P := (.idx (.lst (.cons (.lit .none) (.cons (.neg (.var 3)) (.cons (.lit (.str "x")) (.cons (.tup (.cons (.var 3) (.cons (.lit (.int 2)) (.no)))) (.cons (.lit (.bool true)) (.no))))))) (.call "_law_take" (.cons (.var 1) (.cons (.var 2) (.cons (.lit (.int 5)) (.no)))) []))
def finP : P := (.bool true (.cons (.nott (.tv (.call "_law_caught" (.cons (.lit (.int 0)) (.no)) []))) (.cons (.call "_law_caught" (.cons (.bin .add (.lit (.int 1)) (.call "_law_take" (.cons (.var 1) (.cons (.var 2) (.cons (.lit (.int 9)) (.no)))) [])) (.no)) []) (.no))))
theorem law_is : b_law = .asg (.nm 1) (.call "_law_numbers" (.cons (.var 0) (.no)) []) (.mksp 2 (.asg (.nm 3) e3P (.asg (.nm 4) e4P (.forr (.nm 5) (.itr l1P) (mBody "at" 3) (.forr (.nm 5) (.itr l2P) (mBody "place" 4) (.forr (.nm 5) (.itr l3P) (mBody "cell" 4) (.asg (.nm 6) l4P (.forr (.nm 7) (.rng (.cons (.lit (.int 5)) (.no))) kBody (.ret finP))))))))) := rfl
section
variable (k : Nat) {E : En} {n : Int} {d o : D}
theorem l1_ok (h : E[3]? = some (some (.im d))) : evW (T (k + 2)) true (.itr l1P) E n = some (.ok ((["BadValue", "BadText", "BadValue", "BadText"] : List Str).map fun c => exD c "at" d) n) := by
  have v : evE (T (k + 2)) (.var 3) E n = some (.ok (.im d) n) := v_im h
  rw [w_itr, l1P, e_lst, a_cons, callX (fx_BadValue k) v rfl (.inl rfl), bind_ok, a_cons, callX (fx_BadText k) v rfl (.inl rfl), bind_ok, a_cons, callX (fx_BadValue k) v rfl (.inr rfl), bind_ok, a_cons, callX (fx_BadText k) v rfl (.inr rfl), bind_ok, a_no]
  rfl
theorem l2_ok (h : E[4]? = some (some (.im d))) : evW (T (k + 2)) true (.itr l2P) E n = some (.ok ((["NoPoint", "NoPoint"] : List Str).map fun c => exD c "place" d) n) := by
  have v : evE (T (k + 2)) (.var 4) E n = some (.ok (.im d) n) := v_im h
  rw [w_itr, l2P, e_lst, a_cons, callX (fx_NoPoint k) v rfl (.inl rfl), bind_ok, a_cons, callX (fx_NoPoint k) v rfl (.inr rfl), bind_ok, a_no]
  rfl
theorem l3_ok (h : E[4]? = some (some (.im d))) : evW (T (k + 2)) true (.itr l3P) E n = some (.ok ((["NoCell", "NoCell"] : List Str).map fun c => exD c "cell" d) n) := by
  have v : evE (T (k + 2)) (.var 4) E n = some (.ok (.im d) n) := v_im h
  rw [w_itr, l3P, e_lst, a_cons, callX (fx_NoCell k) v rfl (.inl rfl), bind_ok, a_cons, callX (fx_NoCell k) v rfl (.inr rfl), bind_ok, a_no]
  rfl
def evy (d o : D) : List D := [exD "BadValue" "at" d, exD "BadText" "at" d, exD "NoPoint" "place" o, exD "NoCell" "cell" o, exD0 "TooMany"]
theorem l4_ok (h : E[3]? = some (some (.im d))) (h' : E[4]? = some (some (.im o))) : evE (T (k + 2)) l4P E n = some (.ok (.fr (.li (evy d o))) n) := by
  have v : evE (T (k + 2)) (.var 3) E n = some (.ok (.im d) n) := v_im h
  have w : evE (T (k + 2)) (.var 4) E n = some (.ok (.im o) n) := v_im h'
  rw [l4P, e_lst, a_cons, callX (fx_BadValue k) v rfl (.inl rfl), bind_ok, a_cons, callX (fx_BadText k) v rfl (.inl rfl), bind_ok, a_cons, callX (fx_NoPoint k) w rfl (.inl rfl), bind_ok, a_cons, callX (fx_NoCell k) w rfl (.inl rfl), bind_ok, a_cons, callX0 (fx_TooMany k), bind_ok, a_no]
  rfl
end
/-- a turn of the last loop -/
theorem turn {k : Nat} {s row d o x : D} {a j : Int} {e5 e7 e8 : Option B} {n : Int} {c : Str} {b1 b2 b3 b4 b5 : Bool} (hx : opIdxN (.bw (.li (evy (.int a) o))) (.im (.int j)) n = some (.im x)) (hc : excOf x = some c)
    (h1 : (T (k + 2)).ix c "BadValue" = some b1) (h2 : (T (k + 2)).ix c "BadText" = some b2) (h3 : (T (k + 2)).ix c "NoPoint" = some b3) (h4 : (T (k + 2)).ix c "NoCell" = some b4) (h5 : (T (k + 2)).ix c "TooMany" = some b5)
    (g1 : (T (k + 2)).ix c "ValueError" = some false) (g2 : (T (k + 2)).ix c "LookupError" = some false) (g3 : (T (k + 2)).ix c "ArithmeticError" = some false) (g4 : (T (k + 2)).ix c "Exception" = some true) (g5 : (T (k + 3)).ix c "LevelError" = some true)
    (hcmp : evE (T (k + 3)) (.comp .li [8] (.nm 8) (.rng (.cons (.lit (.int 5)) (.no))) (.no) (.no) (.cmp .eq (.var 8) (.var 7)) (.no)) (st s row a o e5 (some (.mu (.li (evy (.int a) o)))) (some (.im (.int j))) e8) n = some (.ok (.fr (.li [.bool b1, .bool b2, .bool b3, .bool b4, .bool b5])) n)) :
    (bindT (st s row a o e5 (some (.mu (.li (evy (.int a) o)))) e7 e8) (.nm 7) (.im (.int j))).bind (fun E => evS (T (k + 3)) kBody E n) = some (.nx (st s row a o e5 (some (.mu (.li (evy (.int a) o)))) (some (.im (.int j))) e8) n) := by
  show evS (T (k + 3)) kBody (st s row a o e5 (some (.mu (.li (evy (.int a) o)))) (some (.im (.int j))) e8) n = _
  refine kBody_ok ?_ hc (fn__law_of (k + 2)) (fn__law_foreign (k + 2)) (of_core hc h1 h2 h3 h4 h5) hcmp ?_ (foreign_core hc g1 g2 g3 g4) g5
  · rw [e_idx, v_mu (t := .li (evy (.int a) o)) rfl, bind_ok, v_im (d := .int j) rfl, bind_ok, hx]; rfl
  · cases b1 <;> cases b2 <;> cases b3 <;> cases b4 <;> cases b5 <;> rfl
theorem cmp_j {tb : Tb} {s row o : D} {a : Int} {e5 e6 e8 : Option B} {n j : Int} : evE tb (.comp .li [8] (.nm 8) (.rng (.cons (.lit (.int 5)) (.no))) (.no) (.no) (.cmp .eq (.var 8) (.var 7)) (.no)) (st s row a o e5 e6 (some (.im (.int j))) e8) n =
    some (.ok (.fr (.li [.bool (decide ((0 : Int) = j)), .bool (decide ((1 : Int) = j)), .bool (decide ((2 : Int) = j)), .bool (decide ((3 : Int) = j)), .bool (decide ((4 : Int) = j))])) n) := by
  have r5 := rng_one 5 (by decide)
  have hw : evW tb false (.rng (.cons (.lit (.int 5)) (.no))) (st s row a o e5 e6 (some (.im (.int j))) e8) n = some (.ok ((List.range 5).map fun (j : Nat) => PyData.int (j : Int)) n) := w_rng1 (e_lit _) r5
  have q := e_comp (tb := tb) (vs := [8]) (tg := .nm 8) (ifs := .no) (rest := .no) (e1 := .cmp .eq (.var 8) (.var 7)) ((List.range 5).map fun (j : Nat) => PyData.int (j : Int)) (fun x => match x with | .int i => [.bool (decide (i = j))] | _ => []) hw (by
      show 5 ≤ cap
      unfold cap; omega) (by
    intro x hx acc
    obtain ⟨i, hi, rfl⟩ := List.mem_map.mp hx
    show (evIf tb .no (st s row a o e5 e6 (some (.im (.int j))) (some (.im (.int (i : Int))))) n).calm.bind _ = _
    rw [i_no, calm_ok, bind_ok, if_pos rfl, c_no, e_cmp, v_im (d := .int (i : Int)) rfl, bind_ok, v_im (d := .int j) rfl, bind_ok, cmp_int .eq]
    rfl)
  exact q
theorem idx5 {xs : List D} {x : D} {n j : Int} (i : Nat) (hj : j = i) (hx : xs[i]? = some x) : opIdxN (.bw (.li xs)) (.im (.int j)) n = some (.im x) := by
  have e : opIdxN (.bw (.li xs)) (.im (.int j)) n = (atI xs j).map (part (.bw (.li xs))) := rfl
  have h2 : atI xs j = some x := by
    have := idx_seq (n := n) (d := .list xs) i hj rfl hx
    have e2 : opIdxN (.im (.list xs)) (.im (.int j)) n = (atI xs j).map (part (.im (.list xs))) := rfl
    rw [e2, Option.map_eq_some_iff] at this
    obtain ⟨y, h1, h2⟩ := this
    rw [h1]
    have : part (.im (.list xs)) y = .im y := rfl
    rw [this] at h2
    cases h2; rfl
  rw [e, h2]; rfl
theorem idxF {xs : List D} {x : D} {n j : Int} (i : Nat) (hj : j = i) (hx : xs[i]? = some x) : opIdxN (.fr (.li xs)) (.im (.int j)) n = some (.im x) := idx5 (n := n) i hj hx
theorem last_loop (k : Nat) {s row o : D} {a n : Int} {e5 e7 e8 : Option B} : ∃ e7', loopS (fun x E n => (bindT E (.nm 7) (.im x)).bind fun E => evS (T (k + 3)) kBody E n) ((List.range 5).map fun (j : Nat) => PyData.int (j : Int)) (st s row a o e5 (some (.mu (.li (evy (.int a) o)))) e7 e8) n =
    some (.nx (st s row a o e5 (some (.mu (.li (evy (.int a) o)))) e7' e8) n) := by
  have b0 := fun e7 => turn (k := k) (s := s) (row := row) (o := o) (a := a) (e5 := e5) (e7 := e7) (e8 := e8) (n := n) (d := .none) (j := 0) (idx5 0 rfl rfl) rfl rfl rfl rfl rfl rfl rfl rfl rfl rfl rfl (cmp_j (j := 0))
  have b1 := fun e7 => turn (k := k) (s := s) (row := row) (o := o) (a := a) (e5 := e5) (e7 := e7) (e8 := e8) (n := n) (d := .none) (j := 1) (idx5 1 rfl rfl) rfl rfl rfl rfl rfl rfl rfl rfl rfl rfl rfl (cmp_j (j := 1))
  have b2 := fun e7 => turn (k := k) (s := s) (row := row) (o := o) (a := a) (e5 := e5) (e7 := e7) (e8 := e8) (n := n) (d := .none) (j := 2) (idx5 2 rfl rfl) rfl rfl rfl rfl rfl rfl rfl rfl rfl rfl rfl (cmp_j (j := 2))
  have b3 := fun e7 => turn (k := k) (s := s) (row := row) (o := o) (a := a) (e5 := e5) (e7 := e7) (e8 := e8) (n := n) (d := .none) (j := 3) (idx5 3 rfl rfl) rfl rfl rfl rfl rfl rfl rfl rfl rfl rfl rfl (cmp_j (j := 3))
  have b4 := fun e7 => turn (k := k) (s := s) (row := row) (o := o) (a := a) (e5 := e5) (e7 := e7) (e8 := e8) (n := n) (d := .none) (j := 4) (idx5 4 rfl rfl) rfl rfl rfl rfl rfl rfl rfl rfl rfl rfl rfl (cmp_j (j := 4))
  refine ⟨some (.im (.int 4)), ?_⟩
  show loopS _ [.int 0, .int 1, .int 2, .int 3, .int 4] _ n = _
  rw [loopS, b0]
  show loopS _ [.int 1, .int 2, .int 3, .int 4] _ n = _
  rw [loopS, b1]
  show loopS _ [.int 2, .int 3, .int 4] _ n = _
  rw [loopS, b2]
  show loopS _ [.int 3, .int 4] _ n = _
  rw [loopS, b3]
  show loopS _ [.int 4] _ n = _
  rw [loopS, b4]; rfl
theorem fin_ok (k : Nat) (row : Vec) (hr : row ≠ []) {s o : D} {a n : Int} {e5 e6 e7 e8 : Option B} (hn : 0 ≤ n) : ∃ n', evS (T (k + 3)) (.ret finP) (st s (.list (iD row)) a o e5 e6 e7 e8) n = some (.rt (.bool true) n') := by
  obtain ⟨d, e, h0, h1⟩ := sp__law_take (k + 1) n row hr 9 hn (by decide)
  have tk : evE (T (k + 3)) (.call "_law_take" (.cons (.var 1) (.cons (.var 2) (.cons (.lit (.int 9)) (.no)))) []) (st s (.list (iD row)) a o e5 e6 e7 e8) n = some (.ok (.im (.int d)) (n + 1)) := draw3 (fn__law_take (k + 2)) (v_im rfl) (v_sp rfl) (e_lit _) rfl e
  have c0 : evE (T (k + 3)) (.call "_law_caught" (.cons (.lit (.int 0)) (.no)) []) (st s (.list (iD row)) a o e5 e6 e7 e8) n = some (.ok (.im (.bool false)) n) := call1 (fn__law_caught (k + 2)) (e_lit _) rfl (caught0 rfl rfl rfl rfl)
  have c1 : evE (T (k + 3)) (.call "_law_caught" (.cons (.bin .add (.lit (.int 1)) (.call "_law_take" (.cons (.var 1) (.cons (.var 2) (.cons (.lit (.int 9)) (.no)))) [])) (.no)) []) (st s (.list (iD row)) a o e5 e6 e7 e8) n = some (.ok (.im (.bool true)) (n + 1)) :=
    call1n (fn__law_caught (k + 2)) (.inl rfl) (r := .im (.int (1 + d))) (by rw [e_bin, e_lit, bind_ok, tk, bind_ok, bi_add]; rfl) rfl (caught1 (by omega) rfl rfl rfl rfl)
  refine ⟨n + 1, ?_⟩
  rw [s_ret]
  show So.of (evE (T (k + 3)) finP (st s (.list (iD row)) a o e5 e6 e7 e8) n) _ = _
  rw [finP, e_bool, b_cons, e_nott, t_tv, c0, bind_ok]
  show So.of (M.bind (some (.ok (Lk.R.im (.bool true)) n)) _) _ = _
  rw [bind_ok]
  show So.of (if true = true then _ else _) _ = _
  rw [if_pos rfl, b_last, c1]; rfl
theorem holds (ns : List Int) (hl : ns.length ≤ 63) : ∃ n', runD (tblC defs glo cl 30) b_law none d_law.N.length [scr ns] 0 = some (.ok (.bool true) n') := by
  obtain ⟨row, hr, _, e1⟩ := sp__law_numbers (T 29) 0 ns hl
  obtain ⟨d1, t1, _, _⟩ := sp__law_take 28 0 row hr 997 (by decide) (by decide)
  obtain ⟨d2, t2, h20, h25⟩ := sp__law_take 28 1 row hr 5 (by decide) (by decide)
  generalize ha : d1 - 9 = a
  have c1 : evE (T 30) (.call "_law_numbers" (.cons (.var 0) (.no)) []) [some (.im (scr ns)), none, none, none, none, none, none, none, none] 0 = some (.ok (.im (.list (iD row))) 0) := call1 (fn__law_numbers 29) (v_im rfl) rfl e1
  have c3 : evE (T 30) e3P [some (.im (scr ns)), some (.im (.list (iD row))), some .sp, none, none, none, none, none, none] 0 = some (.ok (.im (.int a)) 1) := by
    have tk : evE (T 30) (.call "_law_take" (.cons (.var 1) (.cons (.var 2) (.cons (.lit (.int 997)) (.no)))) []) [some (.im (scr ns)), some (.im (.list (iD row))), some .sp, none, none, none, none, none, none] 0 = some (.ok (.im (.int d1)) 1) := draw3 (fn__law_take 29) (v_im rfl) (v_sp rfl) (e_lit _) rfl t1
    rw [e3P, e_bin, tk, bind_ok, e_lit, bind_ok, bi_sub, ha]; rfl
  have c4 : ∃ o, Oth a o ∧ evE (T 30) e4P [some (.im (scr ns)), some (.im (.list (iD row))), some .sp, some (.im (.int a)), none, none, none, none, none] 1 = some (.ok (.im o) 2) := by
    have tk : evE (T 30) (.call "_law_take" (.cons (.var 1) (.cons (.var 2) (.cons (.lit (.int 5)) (.no)))) []) [some (.im (scr ns)), some (.im (.list (iD row))), some .sp, some (.im (.int a)), none, none, none, none, none] 1 = some (.ok (.im (.int d2)) 2) := draw3 (fn__law_take 29) (v_im rfl) (v_sp rfl) (e_lit _) rfl t2
    have v : evE (T 30) (.var 3) [some (.im (scr ns)), some (.im (.list (iD row))), some .sp, some (.im (.int a)), none, none, none, none, none] 1 = some (.ok (.im (.int a)) 1) := v_im rfl
    have ls : evE (T 30) (.lst (.cons (.lit .none) (.cons (.neg (.var 3)) (.cons (.lit (.str "x")) (.cons (.tup (.cons (.var 3) (.cons (.lit (.int 2)) (.no)))) (.cons (.lit (.bool true)) (.no))))))) [some (.im (scr ns)), some (.im (.list (iD row))), some .sp, some (.im (.int a)), none, none, none, none, none] 1 =
        some (.ok (.fr (.li [.none, .int (-a), .str "x", .tuple [.int a, .int 2], .bool true])) 1) := by
      rw [e_lst, a_cons, e_lit, bind_ok, a_cons, e_neg, v, bind_ok]
      show M.bind (M.bind (M.bind (some (.ok (Lk.R.im (.int (-a))) 1)) _) _) _ = _
      rw [bind_ok, a_cons, e_lit, bind_ok, a_cons, e_tup, a_cons, v, bind_ok, a_cons, e_lit, bind_ok, a_no, bind_ok, bind_ok, bind_ok]
      show M.bind (M.bind (M.bind (M.bind (M.bind (some (.ok (Lk.R.im (.tuple [.int a, .int 2])) 1)) _) _) _) _) _ = _
      rw [bind_ok, a_cons, e_lit, bind_ok, a_no]; rfl
    have fin : ∀ (i : Nat) (x : D), d2 = i → ([.none, .int (-a), .str "x", .tuple [.int a, .int 2], .bool true] : List D)[i]? = some x → Oth a x → ∃ o, Oth a o ∧ evE (T 30) e4P [some (.im (scr ns)), some (.im (.list (iD row))), some .sp, some (.im (.int a)), none, none, none, none, none] 1 = some (.ok (.im o) 2) := fun i x h1 h2 h3 => by
      refine ⟨x, h3, ?_⟩
      rw [e4P, e_idx, ls, bind_ok, tk, bind_ok, idxF i h1 h2]; rfl
    have hd : d2 = 0 ∨ d2 = 1 ∨ d2 = 2 ∨ d2 = 3 ∨ d2 = 4 := by omega
    rcases hd with h | h | h | h | h
    · exact fin 0 _ h rfl .non
    · exact fin 1 _ h rfl (.int _)
    · exact fin 2 _ h rfl .str
    · exact fin 3 _ h rfl .tup
    · exact fin 4 _ h rfl .tru
  obtain ⟨o, ho, c4⟩ := c4
  have so1 : runD (T 29) b__law_so none 3 [.int a, .int a] 2 = some (.ok (.bool true) 2) := so_int _ 2 a
  have so2 : runD (T 29) b__law_so none 3 [o, o] 2 = some (.ok (.bool true) 2) := so_oth 28 2 a ho
  obtain ⟨f1, l1⟩ := mLoop (tb := T 30) (s := scr ns) (row := .list (iD row)) (o := o) (a := a) (e6 := none) (e7 := none) (e8 := none) (f := "at") (i := 3) (d := .int a) (fun _ => rfl) (fn__law_so 29) so1 ["BadValue", "BadText", "BadValue", "BadText"] none (by intro c hc; simp at hc; rcases hc with rfl | rfl | rfl | rfl <;> rfl)
  obtain ⟨f2, l2⟩ := mLoop (tb := T 30) (s := scr ns) (row := .list (iD row)) (o := o) (a := a) (e6 := none) (e7 := none) (e8 := none) (f := "place") (i := 4) (d := o) (fun _ => rfl) (fn__law_so 29) so2 ["NoPoint", "NoPoint"] f1 (by intro c hc; simp at hc; rcases hc with rfl | rfl <;> rfl)
  obtain ⟨f3, l3⟩ := mLoop (tb := T 30) (s := scr ns) (row := .list (iD row)) (o := o) (a := a) (e6 := none) (e7 := none) (e8 := none) (f := "cell") (i := 4) (d := o) (fun _ => rfl) (fn__law_so 29) so2 ["NoCell", "NoCell"] f2 (by intro c hc; simp at hc; rcases hc with rfl | rfl <;> rfl)
  obtain ⟨f7, l4⟩ := last_loop 27 (s := scr ns) (row := .list (iD row)) (o := o) (a := a) (n := 2) (e5 := f3) (e7 := none) (e8 := none)
  obtain ⟨n', e9⟩ := fin_ok 27 row hr (s := scr ns) (o := o) (a := a) (n := 2) (e5 := f3) (e6 := some (.mu (.li (evy (.int a) o)))) (e7 := f7) (e8 := none) (by decide)
  refine ⟨n', run_rt ?_⟩
  show evS (T 30) b_law [some (.im (scr ns)), none, none, none, none, none, none, none, none] 0 = _
  rw [law_is]
  refine (s_asgE (E' := [some (.im (scr ns)), some (.im (.list (iD row))), none, none, none, none, none, none, none]) rfl c1 rfl).trans ?_
  rw [s_mksp (E' := [some (.im (scr ns)), some (.im (.list (iD row))), some .sp, none, none, none, none, none, none]) rfl]
  rw [s_asgE (E' := [some (.im (scr ns)), some (.im (.list (iD row))), some .sp, some (.im (.int a)), none, none, none, none, none]) rfl c3 rfl]
  rw [s_asgE (E' := st (scr ns) (.list (iD row)) a o none none none none) rfl c4 rfl]
  rw [s_forI (E0 := st (scr ns) (.list (iD row)) a o none none none none) (fun i h => by unfold l1P at h; cases h) rfl (l1_ok 28 rfl), l1, Sthen_nx]
  rw [s_forI (E0 := st (scr ns) (.list (iD row)) a o f1 none none none) (fun i h => by unfold l2P at h; cases h) rfl (l2_ok 28 rfl), l2, Sthen_nx]
  rw [s_forI (E0 := st (scr ns) (.list (iD row)) a o f2 none none none) (fun i h => by unfold l3P at h; cases h) rfl (l3_ok 28 rfl), l3, Sthen_nx]
  rw [s_asgE (E' := st (scr ns) (.list (iD row)) a o f3 (some (.mu (.li (evy (.int a) o)))) none none) (E0 := st (scr ns) (.list (iD row)) a o f3 none none none) rfl (l4_ok 28 rfl rfl) rfl]
  have hw : evW (T 30) true (.rng (.cons (.lit (.int 5)) (.no))) (st (scr ns) (.list (iD row)) a o f3 (some (.mu (.li (evy (.int a) o)))) none none) 2 = some (.ok ((List.range 5).map fun (j : Nat) => PyData.int (j : Int)) 2) := w_rng1 (e_lit _) (rng_one 5 (by decide))
  rw [s_forR hw]
  refine (congrArg (fun q => onlyRt (So.then q _)) l4).trans ?_
  rw [Sthen_nx]
  refine (congrArg onlyRt e9).trans rfl
end Mk
theorem PySem.Challenge.cw_levelkind_k00_errors_holds : PySem.Challenge.rw_levelkind_k00_errors.Holds :=
  Hd.finish fun ns hl _ => Mk.holds ns hl
end
