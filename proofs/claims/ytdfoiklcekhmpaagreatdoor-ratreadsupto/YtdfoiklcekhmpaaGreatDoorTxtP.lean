import Derived.Test.YtdfoiklcekhmpaaGreatDoorTxtV
import Derived.Test.YtdfoiklcekhmpaaGreatDoorLawAll
import Derived.Test.YtdfoiklcekhmpaaGreatDoorRatAll
namespace Go.Proofs.YtdfoiklcekhmpaaGreatDoor
open Go.RowKit

theorem byt_app (t u : ByteArray) (h : 0 < t.size) : byt (t ++ u) 0 = byt t 0 := by
  obtain ⟨⟨l⟩⟩ := t
  obtain ⟨⟨r⟩⟩ := u
  cases l with
  | nil => exact absurd h (by decide)
  | cons x l => simp [byt, ByteArray.data_append]
theorem ext_app (t u : ByteArray) (h : t.size = 1) : (t ++ u).extract 1 (t ++ u).size = u := by
  obtain ⟨⟨l⟩⟩ := t
  obtain ⟨⟨r⟩⟩ := u
  have h1 : l.length = 1 := h
  obtain ⟨y, rfl⟩ := List.length_eq_one_iff.1 h1
  apply ByteArray.ext
  rw [ByteArray.size_append]
  simp only [ByteArray.data_extract, ByteArray.data_append]
  have : ({ data := { toList := [y] } } : ByteArray).size = 1 := rfl
  have : ({ data := { toList := r } } : ByteArray).size = r.length := rfl
  simp [*]
theorem cut_txtI (x : Int) : cutS (txtI x) = (decide (x < 0), txt x.natAbs) := by
  have hd := digs_txt x.natAbs 0 (size_txt _)
  have hs := size_txt x.natAbs
  unfold txtI
  split
  · rename_i h
    unfold cutS
    rw [if_pos ⟨by rw [ByteArray.size_append, strOfNums_size]; simp only [List.length_cons, List.length_nil]; omega, by rw [byt_app _ _ (by decide)]; decide⟩, ext_app _ _ (by decide), decide_eq_true h]
  · rename_i h
    unfold cutS
    rw [if_neg (by omega), if_neg (by omega), decide_eq_false h]
theorem parseT {x : Int} (w : World) (hs : (txtI x).size ≤ 100000000) :
    Calls Tryz.prog 49 #[.string (txtI x)] w fun e w' => ∃ f c n d, e = .returned (.tuple #[.agg #[.bool f, .slice c n d], .nilIface]) ∧ GI w' w.heap.size (.agg #[.bool f, .slice c n d]) x 100000000 ∧ Below w.heap.size w w' := by
  have hz := cutS_size (txtI x)
  have h := parseI (txtI x) w hs (by rw [cut_txtI]; exact digs_txt _) (by rw [cut_txtI]; exact size_txt _)
  refine h.mono ?_
  rintro e w' ⟨v, rfl, G, hb⟩
  obtain ⟨f, c, n, d, rfl⟩ := G.form
  rw [cut_txtI] at G
  have e1 : rdF (txt x.natAbs) 0 (txt x.natAbs).size = (x.natAbs : Int) := rd_txt _
  have G' : GI w' w.heap.size _ (ws (decide (x < 0)) (rdF (txt x.natAbs) 0 (txt x.natAbs).size)) _ := G
  rw [e1, ws_sign] at G'
  exact ⟨f, c, n, d, rfl, G'.le (by rw [cut_txtI] at hz; exact Nat.le_trans hz hs), hb⟩
/-- nat.Parse of a number's text. -/
theorem parseTN (v : Nat) (w : World) (hs : (txt v).size ≤ 100000000) :
    Calls Tryz.prog 50 #[.string (txt v)] w fun e w' => ∃ c n d, e = .returned (.tuple #[.slice c n d, .nilIface]) ∧ Got w' w.heap.size (.slice c n d) (v : Int) 100000000 ∧ Below w.heap.size w w' := by
  refine (parse_yes (txt v) w hs (digs_txt v) (size_txt v)).mono ?_
  rintro e w' ⟨c, n, k, rfl, G, hb⟩
  exact ⟨c, n, k, rfl, (G.val (rd_txt v)).le hs, hb⟩
end Go.Proofs.YtdfoiklcekhmpaaGreatDoor
