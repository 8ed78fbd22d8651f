import PyProof.Rows.All
import Wide.All
import OpenK.AllK
import Wide.FinOn
import Open.SpecLaws
import KE.OsGo
import HandS.ForSpec
import HandS.ForMost
import HandS.SortInts
import HandS.More
import KE.GoesEnumKw
import PySem.Challenge.RW_tickstore_s01_answers
set_option Elab.async false
set_option linter.all false
set_option maxRecDepth 100000
set_option maxHeartbeats 4000000
namespace TS
open Vbwsai
/-! integers -/
def Sm (n : Int) : Prop := -9671406556917033397649408 ≤ n ∧ n < 9671406556917033397649408
def Byt (l : Bytes) : Prop := ∀ b ∈ l, b < 256
theorem Byt.nil : Byt [] := fun b h => by simp at h
theorem Byt.cons {b : Nat} {l : Bytes} (h : b < 256) (hl : Byt l) : Byt (b :: l) := fun c hc => by
  rcases List.mem_cons.mp hc with e | e
  · rw [e]; exact h
  · exact hl c e
theorem Byt.app {a b : Bytes} (h : Byt a) (h' : Byt b) : Byt (a ++ b) := fun c hc => by
  rcases List.mem_append.mp hc with e | e
  · exact h c e
  · exact h' c e
theorem Byt.take {a : Bytes} (n : Nat) (h : Byt a) : Byt (a.take n) := fun c hc => h c (List.mem_of_mem_take hc)
theorem Byt.drop {a : Bytes} (n : Nat) (h : Byt a) : Byt (a.drop n) := fun c hc => h c (List.mem_of_mem_drop hc)
theorem Byt.tail {b : Nat} {l : Bytes} (h : Byt (b :: l)) : Byt l := fun c hc => h c (List.mem_cons_of_mem _ hc)
theorem Byt.head {b : Nat} {l : Bytes} (h : Byt (b :: l)) : b < 256 := h b List.mem_cons_self
theorem zz_pos {n : Int} (h : 0 ≤ n) : ((zigzagEncode n : Nat) : Int) = 2 * n := by
  unfold zigzagEncode; rw [if_pos h]; omega
theorem zz_neg {n : Int} (h : ¬ 0 ≤ n) : ((zigzagEncode n : Nat) : Int) = -2 * n - 1 := by
  unfold zigzagEncode; rw [if_neg h]; omega
theorem zd_even {n : Nat} (h : n % 2 = 0) : zigzagDecode n = ((n / 2 : Nat) : Int) := by
  unfold zigzagDecode; rw [if_pos h]
theorem zd_odd {n : Nat} (h : ¬ n % 2 = 0) : zigzagDecode n = -((n / 2 : Nat) : Int) - 1 := by
  unfold zigzagDecode; rw [if_neg h]; omega
theorem p12 : (128 : Nat) ^ 12 = 19342813113834066795298816 := by decide
theorem zz_lt {n : Int} (h : Sm n) : zigzagEncode n < 128 ^ 12 := by
  rw [p12]; obtain ⟨a, b⟩ := h
  by_cases c : 0 ≤ n
  · have := zz_pos c; omega
  · have := zz_neg c; omega
theorem zd_sm {n : Nat} (h : n < 128 ^ 12) : Sm (zigzagDecode n) := by
  rw [p12] at h; unfold Sm
  by_cases c : n % 2 = 0
  · rw [zd_even c]; omega
  · rw [zd_odd c]; omega
theorem digits_lt {f n : Nat} (h : n < 128) : base128Digits (f + 1) n = [n] := by
  show (if n < 128 then [n] else _) = _; rw [if_pos h]
theorem digits_ge {f n : Nat} (h : ¬ n < 128) : base128Digits (f + 1) n = (128 + n % 128) :: base128Digits f (n / 128) := by
  show (if n < 128 then [n] else _) = _; rw [if_neg h]
theorem digits_len : ∀ (f n : Nat), (base128Digits f n).length ≤ f
  | 0, _ => Nat.le_refl _
  | f + 1, n => by
    by_cases c : n < 128
    · rw [digits_lt c]; simp
    · rw [digits_ge c]; have := digits_len f (n / 128); simp; omega
theorem digits_byt : ∀ (f n : Nat), Byt (base128Digits f n)
  | 0, _ => Byt.nil
  | f + 1, n => by
    by_cases c : n < 128
    · rw [digits_lt c]; exact Byt.cons (by omega) Byt.nil
    · rw [digits_ge c]; exact Byt.cons (by omega) (digits_byt f _)
theorem enc_len (n : Int) : (encodeInteger n).length ≤ 12 := digits_len _ _
theorem enc_byt (n : Int) : Byt (encodeInteger n) := digits_byt _ _
theorem row_nil : encodeRow [] = [] := rfl
theorem row_app (a b : List Int) : encodeRow (a ++ b) = encodeRow a ++ encodeRow b := by
  unfold encodeRow; exact List.flatMap_append
theorem row_one (n : Int) : encodeRow [n] = encodeInteger n := by unfold encodeRow; simp
theorem row_len : ∀ l : List Int, (encodeRow l).length ≤ 12 * l.length
  | [] => Nat.le_refl _
  | n :: l => by
    have h := row_len l
    have e : encodeRow (n :: l) = encodeInteger n ++ encodeRow l := rfl
    rw [e, List.length_append, List.length_cons]
    have := enc_len n; omega
theorem row_byt : ∀ l : List Int, Byt (encodeRow l)
  | [] => Byt.nil
  | n :: l => by
    have e : encodeRow (n :: l) = encodeInteger n ++ encodeRow l := rfl
    rw [e]; exact (enc_byt n).app (row_byt l)
/-! decoding -/
def pvc (p : Bytes) (n : Nat) : Nat := p.foldr (fun b m => m * 128 + b % 128) n
theorem pvc_snoc (p : Bytes) (b n : Nat) : pvc (p ++ [b]) n = pvc p (n * 128 + b % 128) := by
  unfold pvc; rw [List.foldr_append]; rfl
def decL : Bytes → List Int → Bytes → Option (List Int)
  | [], row, part => if part = [] then some row else none
  | b :: r, row, part => if 12 < part.length + 1 then none else if b < 128 then decL r (row ++ [zigzagDecode (pvc (part ++ [b]) 0)]) [] else decL r row (part ++ [b])
theorem decL_digits : ∀ (r : Bytes) (row : List Int) (part : Bytes) (f : Nat), Byt r → part.length + f = 12 → (r ≠ [] ∨ part ≠ []) →
    decL r row part = match decodeDigits f r with
      | none => none
      | some (n, q) => decL q (row ++ [zigzagDecode (pvc part n)]) []
  | [], row, part, f, _, _, hp => by
    have e : decodeDigits f [] = none := by cases f <;> rfl
    rw [e]
    have hp' : part ≠ [] := by rcases hp with h | h; exact absurd rfl h; exact h
    show (if part = [] then some row else none) = none
    rw [if_neg hp']
  | b :: r, row, part, 0, _, hf, _ => by
    show (if 12 < part.length + 1 then none else _) = none
    rw [if_pos (by omega)]
  | b :: r, row, part, f + 1, hb, hf, _ => by
    show (if 12 < part.length + 1 then none else if b < 128 then decL r (row ++ [zigzagDecode (pvc (part ++ [b]) 0)]) [] else decL r row (part ++ [b])) = _
    rw [if_neg (by omega)]
    by_cases c : b < 128
    · have e : decodeDigits (f + 1) (b :: r) = some (b, r) := by show (if b < 128 then _ else _) = _; rw [if_pos c]
      rw [if_pos c, e, pvc_snoc, Nat.zero_mul, Nat.zero_add, Nat.mod_eq_of_lt c]
    · rw [if_neg c, decL_digits r row (part ++ [b]) f hb.tail (by simp; omega) (.inr (by simp))]
      have e : decodeDigits (f + 1) (b :: r) = match decodeDigits f r with
        | none => none
        | some (n, q) => some (b - 128 + 128 * n, q) := by show (if b < 128 then _ else _) = _; rw [if_neg c]; rfl
      rw [e]
      cases decodeDigits f r with
      | none => rfl
      | some x =>
        obtain ⟨n, q⟩ := x
        show decL q (row ++ [zigzagDecode (pvc (part ++ [b]) n)]) [] = decL q (row ++ [zigzagDecode (pvc part (b - 128 + 128 * n))]) []
        have h : b < 256 := hb.head
        have e2 : n * 128 + b % 128 = b - 128 + 128 * n := by omega
        rw [pvc_snoc, e2]
theorem digits_some : ∀ (f : Nat) (r : Bytes) (n : Nat) (q : Bytes), Byt r → decodeDigits f r = some (n, q) → n < 128 ^ f ∧ ∃ p, r = p ++ q ∧ p ≠ []
  | 0, _, _, _, _, h => by cases h
  | f + 1, [], _, _, _, h => by cases h
  | f + 1, b :: r, n, q, hb, h => by
    by_cases c : b < 128
    · have e : decodeDigits (f + 1) (b :: r) = some (b, r) := by show (if b < 128 then _ else _) = _; rw [if_pos c]
      rw [e] at h; cases h
      refine ⟨?_, [b], rfl, by simp⟩
      have : 0 < 128 ^ f := Nat.pow_pos (by decide)
      rw [Nat.pow_succ]; omega
    · have e : decodeDigits (f + 1) (b :: r) = match decodeDigits f r with
        | none => none
        | some (n, q) => some (b - 128 + 128 * n, q) := by show (if b < 128 then _ else _) = _; rw [if_neg c]; rfl
      rw [e] at h
      cases e3 : decodeDigits f r with
      | none => rw [e3] at h; cases h
      | some x =>
        obtain ⟨m, t⟩ := x
        rw [e3] at h; cases h
        obtain ⟨h1, p, e4, _⟩ := digits_some f r m q hb.tail e3
        have := hb.head
        refine ⟨?_, b :: p, by rw [e4]; rfl, by simp⟩
        rw [Nat.pow_succ]; omega
theorem decL_row : ∀ (f : Nat) (bs : Bytes) (row : List Int), Byt bs → bs.length ≤ f → decL bs row [] = (decodeRow f bs).map fun l => row ++ l
  | f, [], row, _, _ => by
    have e : decodeRow f [] = some [] := by cases f <;> rfl
    rw [e]; show (if ([] : Bytes) = [] then some row else none) = _
    rw [if_pos rfl]; simp
  | 0, b :: r, _, _, h => by simp at h
  | f + 1, b :: r, row, hb, h => by
    rw [decL_digits (b :: r) row [] 12 hb rfl (.inl (by simp))]
    have e : decodeRow (f + 1) (b :: r) = match decodeDigits 12 (b :: r) with
      | none => none
      | some (n, q) => (decodeRow f q).map fun l => zigzagDecode n :: l := rfl
    rw [e]
    cases e3 : decodeDigits 12 (b :: r) with
    | none => rfl
    | some x =>
      obtain ⟨n, q⟩ := x
      obtain ⟨_, p, e4, hp⟩ := digits_some 12 _ n q hb e3
      have hq : Byt q := fun c hc => hb c (by rw [e4]; exact List.mem_append.mpr (.inr hc))
      have hl : q.length ≤ f := by
        have := congrArg List.length e4
        rw [List.length_append] at this
        have : 0 < p.length := List.length_pos_iff.mpr hp
        simp at *; omega
      show decL q (row ++ [zigzagDecode (pvc [] n)]) [] = ((decodeRow f q).map fun l => zigzagDecode n :: l).map fun l => row ++ l
      rw [decL_row f q _ hq hl]
      cases decodeRow f q with
      | none => rfl
      | some l => show some (row ++ [zigzagDecode n] ++ l) = some (row ++ (zigzagDecode n :: l)); rw [List.append_assoc]; rfl
theorem decodeRow_eq {bs : Bytes} (hb : Byt bs) : decodeRow bs.length bs = decL bs [] [] := by
  rw [decL_row bs.length bs [] hb (Nat.le_refl _)]
  cases decodeRow bs.length bs <;> rfl
theorem decodeRow_sm : ∀ (f : Nat) (bs : Bytes) (l : List Int), Byt bs → decodeRow f bs = some l → (∀ z ∈ l, Sm z) ∧ l.length ≤ bs.length
  | f, [], l, _, h => by
    have e : decodeRow f [] = some [] := by cases f <;> rfl
    rw [e] at h; cases h; exact ⟨fun z hz => by simp at hz, by simp⟩
  | 0, b :: r, _, _, h => by cases h
  | f + 1, b :: r, l, hb, h => by
    have e : decodeRow (f + 1) (b :: r) = match decodeDigits 12 (b :: r) with
      | none => none
      | some (n, q) => (decodeRow f q).map fun l => zigzagDecode n :: l := rfl
    rw [e] at h
    cases e3 : decodeDigits 12 (b :: r) with
    | none => rw [e3] at h; cases h
    | some x =>
      obtain ⟨n, q⟩ := x
      obtain ⟨hn, p, e4, hp⟩ := digits_some 12 _ n q hb e3
      have hq : Byt q := fun c hc => hb c (by rw [e4]; exact List.mem_append.mpr (.inr hc))
      rw [e3] at h
      have h' : (decodeRow f q).map (fun l => zigzagDecode n :: l) = some l := h
      cases e5 : decodeRow f q with
      | none => rw [e5] at h'; cases h'
      | some m =>
        rw [e5] at h'
        have e6 : zigzagDecode n :: m = l := Option.some.inj h'
        obtain ⟨h1, h2⟩ := decodeRow_sm f q m hq e5
        subst e6
        refine ⟨fun z hz => ?_, ?_⟩
        · rcases List.mem_cons.mp hz with e | e
          · rw [e]; exact zd_sm hn
          · exact h1 z e
        · rw [e4, List.length_append, List.length_cons]
          have : 0 < p.length := List.length_pos_iff.mpr hp
          omega
/-! checksums -/
def csum : Nat → Bytes → Nat
  | _, [] => 0
  | i, b :: r => (b + 1) * i + csum (i + 1) r
theorem csum_snoc : ∀ (l : Bytes) (i b : Nat), csum i (l ++ [b]) = csum i l + (b + 1) * (i + l.length)
  | [], i, b => by simp [csum]
  | c :: l, i, b => by
    show (c + 1) * i + csum (i + 1) (l ++ [b]) = (c + 1) * i + csum (i + 1) l + (b + 1) * (i + (l.length + 1))
    rw [csum_snoc l (i + 1) b, Nat.add_assoc i 1, Nat.add_comm 1, Nat.add_assoc]
theorem from_csum : ∀ (l : Bytes) (i c : Nat), c < 65521 → checksumFrom i c l = (c + csum i l) % 65521
  | [], i, c, h => by show c = (c + 0) % 65521; rw [Nat.add_zero, Nat.mod_eq_of_lt h]
  | b :: l, i, c, h => by
    show checksumFrom (i + 1) ((c + (b + 1) * i) % 65521) l = (c + ((b + 1) * i + csum (i + 1) l)) % 65521
    rw [from_csum l _ _ (Nat.mod_lt _ (by decide)), Nat.mod_add_mod, Nat.add_assoc]
theorem checksum_eq (l : Bytes) : checksum l = csum 1 l % 65521 := by
  unfold checksum; rw [from_csum l 1 0 (by decide), Nat.zero_add]
theorem checksum_lt (l : Bytes) : checksum l < 65521 := by rw [checksum_eq]; exact Nat.mod_lt _ (by decide)
theorem two_eq {n : Nat} (h : n < 65536) : twoBytes n = [n / 256, n % 256] := by
  unfold twoBytes; rw [Nat.mod_eq_of_lt (by omega)]
theorem two_byt (n : Nat) : Byt (twoBytes n) := Byt.cons (by omega) (Byt.cons (by omega) Byt.nil)
theorem two_ne {n c d : Nat} (h : n < 65536) (hd : d < 256) : twoBytes n ≠ [c, d] ↔ c * 256 + d ≠ n := by
  rw [two_eq h]
  constructor
  · intro q e; apply q; subst e
    have e1 : (c * 256 + d) / 256 = c := by omega
    have e2 : (c * 256 + d) % 256 = d := by omega
    rw [e1, e2]
  · intro q e
    have e1 : n / 256 = c := (List.cons.inj e).1
    have e2 : n % 256 = d := (List.cons.inj (List.cons.inj e).2).1
    omega
theorem frame_byt (l : List Int) : Byt (encodeFrame l) :=
  (two_byt _).app ((two_byt _).app ((row_byt l).app ((two_byt _).app (Byt.cons (by decide) Byt.nil))))
theorem frame_len (l : List Int) : (encodeFrame l).length = 7 + (encodeRow l).length := by
  show (twoBytes _ ++ (twoBytes _ ++ (encodeRow l ++ (twoBytes _ ++ [endByte])))).length = _
  have t : ∀ n, (twoBytes n).length = 2 := fun _ => rfl
  simp only [List.length_append, t, List.length_singleton]; omega
theorem frame_len_le (l : List Int) : (encodeFrame l).length ≤ 7 + 12 * l.length := by
  rw [frame_len]; have := row_len l; omega
end TS
namespace TS
open Vbwsai
/-! frames in a list of bytes -/
def at_ (d : Bytes) (i : Nat) : Nat := d[i]?.getD 0
def nAt (d : Bytes) (i : Nat) : Nat := at_ d i * 256 + at_ d (i + 1)
theorem at_drop (d : Bytes) (s i : Nat) : at_ (d.drop s) i = at_ d (s + i) := by unfold at_; rw [List.getElem?_drop]
theorem at_lt {d : Bytes} (h : Byt d) (i : Nat) : at_ d i < 256 := by
  unfold at_
  cases e : d[i]? with
  | none => decide
  | some b => exact h b (List.mem_of_getElem? e)
theorem at_get {d : Bytes} {i : Nat} (h : i < d.length) : d[i]? = some (at_ d i) := by
  unfold at_; rw [List.getElem?_eq_getElem h]; rfl
theorem drop3 {r : Bytes} (h : 3 ≤ r.length) : ∃ u v e t, r = u :: v :: e :: t := by
  match r, h with
  | u :: v :: e :: t, _ => exact ⟨u, v, e, t, rfl⟩
theorem drop_lt3 {r : Bytes} {α : Type} (h : r.length < 3) (f : Nat → Nat → Nat → Bytes → Option α) : (match r with | u :: v :: e :: q => f u v e q | _ => none) = none := by
  match r, h with
  | [], _ => rfl
  | [_], _ => rfl
  | [_, _], _ => rfl
theorem decodeFrame4 (x y c d : Nat) (r : Bytes) : decodeFrame (x :: y :: c :: d :: r) =
    (if twoBytes (checksum [x, y]) ≠ [c, d] then none
    else if (r.take (256 * x + y)).length < 256 * x + y then none else match r.drop (256 * x + y) with
      | u :: v :: e :: q => if twoBytes (checksum (r.take (256 * x + y))) ≠ [u, v] ∨ e ≠ endByte then none else (decodeRow (r.take (256 * x + y)).length (r.take (256 * x + y))).map fun l => (l, q)
      | _ => none) := rfl
theorem spec_short {x y c d n : Nat} {r : Bytes} (h : r.length < n + 3) : (if twoBytes (checksum [x, y]) ≠ [c, d] then none
    else if (r.take n).length < n then none else match r.drop n with
      | u :: v :: e :: q => if twoBytes (checksum (r.take n)) ≠ [u, v] ∨ e ≠ endByte then none else (decodeRow (r.take n).length (r.take n)).map fun l => (l, q)
      | _ => none) = none := by
  by_cases a : twoBytes (checksum [x, y]) ≠ [c, d]
  · rw [if_pos a]
  · rw [if_neg a]
    by_cases b : (r.take n).length < n
    · rw [if_pos b]
    · rw [if_neg b]
      exact drop_lt3 (by rw [List.length_drop]; omega) fun u v e q => if twoBytes (checksum (r.take n)) ≠ [u, v] ∨ e ≠ endByte then none else (decodeRow (r.take n).length (r.take n)).map fun l => (l, q)
theorem decodeFrame_eq {q : Bytes} (hb : Byt q) : decodeFrame q =
    if q.length < 7 then none else
    if q.length < 7 + nAt q 0 ∨ at_ q (6 + nAt q 0) ≠ 165 then none else
    if nAt q 2 ≠ checksum (q.take 2) then none else
    if nAt q (4 + nAt q 0) ≠ checksum ((q.drop 4).take (nAt q 0)) then none else
    (decL ((q.drop 4).take (nAt q 0)) [] []).map fun l => (l, q.drop (7 + nAt q 0)) := by
  match q, hb with
  | [], _ => rfl
  | [_], _ => rfl
  | [_, _], _ => rfl
  | [_, _, _], _ => rfl
  | x :: y :: c :: d :: r, hb =>
    have hn : nAt (x :: y :: c :: d :: r) 0 = 256 * x + y := by show x * 256 + y = _; omega
    have h2 : nAt (x :: y :: c :: d :: r) 2 = c * 256 + d := rfl
    have hd : d < 256 := hb d (by simp)
    rw [decodeFrame4, hn, h2]
    generalize hN : 256 * x + y = n
    have hck : (twoBytes (checksum [x, y]) ≠ [c, d]) ↔ (c * 256 + d ≠ checksum [x, y]) := two_ne (by have := checksum_lt [x, y]; omega) hd
    have ht2 : (x :: y :: c :: d :: r).take 2 = [x, y] := rfl
    have hd4 : (x :: y :: c :: d :: r).drop 4 = r := rfl
    have hl : (x :: y :: c :: d :: r).length = r.length + 4 := rfl
    rw [ht2, hd4, hl]
    by_cases c1 : r.length + 4 < 7
    · rw [if_pos c1]
      exact spec_short (by omega)
    · rw [if_neg c1]
      by_cases c2 : r.length + 4 < 7 + n
      · rw [if_pos (show r.length + 4 < 7 + n ∨ at_ (x :: y :: c :: d :: r) (6 + n) ≠ 165 from .inl c2)]
        exact spec_short (by omega)
      · obtain ⟨u, v, e, t, ht⟩ := drop3 (r := r.drop n) (by rw [List.length_drop]; omega)
        have hat : ∀ i, at_ (x :: y :: c :: d :: r) (4 + n + i) = at_ (r.drop n) i := fun i => by
          rw [at_drop]
          have e1 : 4 + n + i = n + i + 4 := by omega
          rw [e1]; rfl
        have he : at_ (x :: y :: c :: d :: r) (6 + n) = e := by
          have := hat 2
          rw [show 4 + n + 2 = 6 + n by omega] at this
          rw [this, ht]; rfl
        have hu : nAt (x :: y :: c :: d :: r) (4 + n) = u * 256 + v := by
          unfold nAt
          have h0 := hat 0
          have h1 := hat 1
          rw [show 4 + n + 0 = 4 + n by omega] at h0
          rw [h0, h1, ht]; rfl
        have hv : v < 256 := hb v (by
          have : v ∈ r.drop n := by rw [ht]; simp
          have := List.mem_of_mem_drop this
          simp [this])
        have ht7 : (x :: y :: c :: d :: r).drop (7 + n) = t := by
          have e1 : 7 + n = n + 3 + 4 := by omega
          rw [e1]
          show r.drop (n + 3) = t
          rw [← List.drop_drop, ht]; rfl
        have hp : Byt (r.take n) := fun b hb' => hb b (by have := List.mem_of_mem_take hb'; simp [this])
        rw [he, hu, ht, ht7]
        have h3 : ¬ (r.take n).length < n := by rw [List.length_take]; omega
        rw [if_neg h3]
        have hck2 : (twoBytes (checksum (r.take n)) ≠ [u, v]) ↔ (u * 256 + v ≠ checksum (r.take n)) := two_ne (by have := checksum_lt (r.take n); omega) hv
        show (if twoBytes (checksum [x, y]) ≠ [c, d] then none else (if twoBytes (checksum (r.take n)) ≠ [u, v] ∨ e ≠ endByte then none else _)) = _
        by_cases a1 : e ≠ 165
        · rw [if_pos (.inr a1 : r.length + 4 < 7 + n ∨ e ≠ 165), if_pos (.inr a1 : twoBytes (checksum (r.take n)) ≠ [u, v] ∨ e ≠ endByte)]
          split <;> rfl
        · have a1' : ¬ (r.length + 4 < 7 + n ∨ e ≠ 165) := fun z => z.elim c2 a1
          rw [if_neg a1']
          by_cases a2 : c * 256 + d ≠ checksum [x, y]
          · rw [if_pos a2, if_pos (hck.mpr a2)]
          · rw [if_neg a2, if_neg (fun z => a2 (hck.mp z))]
            by_cases a3 : u * 256 + v ≠ checksum (r.take n)
            · rw [if_pos a3, if_pos (.inl (hck2.mpr a3))]
            · have a3' : ¬ (twoBytes (checksum (r.take n)) ≠ [u, v] ∨ e ≠ endByte) := fun z => z.elim (fun z => a3 (hck2.mp z)) a1
              rw [if_neg a3, if_neg a3', decodeRow_eq hp]
def frameAt (d : Bytes) (s : Nat) : Option (List Int × Nat) := (decodeFrame (d.drop s)).map fun x => (x.1, d.length - x.2.length)
theorem frameAt_eq {d : Bytes} {s : Nat} (hb : Byt d) (hs : s ≤ d.length) : frameAt d s =
    if d.length < s + 7 then none else
    if d.length < s + 7 + nAt d s ∨ at_ d (s + 7 + nAt d s - 1) ≠ 165 then none else
    if nAt d (s + 2) ≠ checksum ((d.drop s).take 2) then none else
    if nAt d (s + 4 + nAt d s) ≠ checksum ((d.drop (s + 4)).take (nAt d s)) then none else
    (decL ((d.drop (s + 4)).take (nAt d s)) [] []).map fun l => (l, s + 7 + nAt d s) := by
  unfold frameAt
  rw [decodeFrame_eq (hb.drop s)]
  have n0 : ∀ i, nAt (d.drop s) i = nAt d (s + i) := fun i => by unfold nAt; rw [at_drop, at_drop, Nat.add_assoc]
  have hl : (d.drop s).length = d.length - s := List.length_drop
  have hz : nAt (d.drop s) 0 = nAt d s := n0 0
  rw [hz, n0 2, n0 (4 + nAt d s), at_drop, hl, List.drop_drop, List.drop_drop]
  generalize nAt d s = n
  have e1 : (s + (4 + n)) = s + 4 + n := by omega
  have e2 : s + (6 + n) = s + 7 + n - 1 := by omega
  rw [e1, e2]
  by_cases c1 : d.length < s + 7
  · rw [if_pos (by omega : d.length - s < 7), if_pos c1]; rfl
  · rw [if_neg (by omega : ¬ d.length - s < 7), if_neg c1]
    by_cases c2 : d.length < s + 7 + n ∨ at_ d (s + 7 + n - 1) ≠ 165
    · rw [if_pos c2, if_pos (by rcases c2 with z | z; exact .inl (by omega); exact .inr z)]; rfl
    · have c2' : ¬ (d.length - s < 7 + n ∨ at_ d (s + 7 + n - 1) ≠ 165) := fun z => c2 (by rcases z with z | z; exact .inl (by omega); exact .inr z)
      rw [if_neg c2, if_neg c2']
      have c3 : ¬ d.length < s + 7 + n := fun z => c2 (.inl z)
      split
      · rfl
      · split
        · rfl
        · cases decL ((d.drop (s + 4)).take n) [] [] with
          | none => rfl
          | some l =>
            show some (l, d.length - (d.drop (s + (7 + n))).length) = some (l, s + 7 + n)
            have e3 : d.length - (d.drop (s + (7 + n))).length = s + 7 + n := by rw [List.length_drop]; omega
            rw [e3]
theorem decL_sm {bs : Bytes} {l : List Int} (hb : Byt bs) (h : decL bs [] [] = some l) : (∀ z ∈ l, Sm z) ∧ l.length ≤ bs.length := by
  rw [← decodeRow_eq hb] at h
  exact decodeRow_sm _ _ _ hb h
theorem frameAt_some {d : Bytes} {s e : Nat} {l : List Int} (hb : Byt d) (hs : s ≤ d.length) (h : frameAt d s = some (l, e)) :
    decodeFrame (d.drop s) = some (l, d.drop e) ∧ s + 7 ≤ e ∧ e ≤ d.length ∧ (∀ z ∈ l, Sm z) ∧ l.length ≤ d.length := by
  have h0 := h
  rw [frameAt_eq hb hs] at h
  generalize hn : nAt d s = n at h
  split at h
  · cases h
  · split at h
    · cases h
    · rename_i c2
      split at h
      · cases h
      · split at h
        · cases h
        · cases e3 : decL ((d.drop (s + 4)).take n) [] [] with
          | none => rw [e3] at h; cases h
          | some m =>
            rw [e3] at h
            have h' : (m, s + 7 + n) = (l, e) := Option.some.inj h
            obtain ⟨rfl, rfl⟩ := Prod.mk.inj h'
            obtain ⟨s1, s2⟩ := decL_sm ((hb.drop _).take _) e3
            have le : s + 7 + n ≤ d.length := by
              have := mt .inl c2; omega
            refine ⟨?_, by omega, le, s1, ?_⟩
            · unfold frameAt at h0
              cases e4 : decodeFrame (d.drop s) with
              | none => rw [e4] at h0; cases h0
              | some x =>
                obtain ⟨a, b⟩ := x
                rw [e4] at h0
                have h0' := Option.some.inj h0
                have hq := e4
                rw [decodeFrame_eq (hb.drop s)] at hq
                have n0 : nAt (d.drop s) 0 = n := by
                  rw [← hn]; unfold nAt; rw [at_drop, at_drop]; rfl
                rw [n0] at hq
                split at hq
                · cases hq
                · split at hq
                  · cases hq
                  · split at hq
                    · cases hq
                    · split at hq
                      · cases hq
                      · cases e5 : decL (((d.drop s).drop 4).take n) [] [] with
                        | none => rw [e5] at hq; cases hq
                        | some k =>
                          rw [e5] at hq
                          have hq' : (k, (d.drop s).drop (7 + n)) = (a, b) := Option.some.inj hq
                          have e6 : (d.drop s).drop (7 + n) = b := (Prod.mk.inj hq').2
                          have e7 : a = m := (Prod.mk.inj h0').1
                          rw [e7, ← e6, List.drop_drop, Nat.add_assoc]
            · have := List.length_take_le n (d.drop (s + 4))
              rw [List.length_take, List.length_drop] at s2; omega
theorem frameAt_none {d : Bytes} {s : Nat} (h : frameAt d s = none) : decodeFrame (d.drop s) = none := by
  unfold frameAt at h
  cases e : decodeFrame (d.drop s) with
  | none => rfl
  | some x => rw [e] at h; cases h
/-- the valid frames from a place on: the row and the end of each -/
def framesFrom : Nat → Bytes → Nat → List (List Int × Nat)
  | 0, _, _ => []
  | f + 1, d, s => match frameAt d s with
    | none => []
    | some (l, e) => (l, e) :: framesFrom f d e
def vframes (d : Bytes) : List (List Int × Nat) := framesFrom (d.length + 1) d 0
def lastE : Nat → List (List Int × Nat) → Nat
  | s, [] => s
  | _, x :: r => lastE x.2 r
theorem frames_none {f : Nat} {d : Bytes} {s : Nat} (h : frameAt d s = none) : framesFrom f d s = [] := by
  cases f with
  | zero => rfl
  | succ f => show (match frameAt d s with | none => [] | some (l, e) => (l, e) :: framesFrom f d e) = []; rw [h]
theorem frames_some {f : Nat} {d : Bytes} {s e : Nat} {l : List Int} (h : frameAt d s = some (l, e)) : framesFrom (f + 1) d s = (l, e) :: framesFrom f d e := by
  show (match frameAt d s with | none => [] | some (l, e) => (l, e) :: framesFrom f d e) = _; rw [h]
theorem frames_sm {d : Bytes} (hb : Byt d) : ∀ (f s : Nat), s ≤ d.length → ∀ x ∈ framesFrom f d s, (∀ z ∈ x.1, Sm z) ∧ x.1.length ≤ d.length ∧ s < x.2 ∧ x.2 ≤ d.length
  | 0, _, _, x, hx => by simp [framesFrom] at hx
  | f + 1, s, hs, x, hx => by
    cases e : frameAt d s with
    | none => rw [frames_none e] at hx; simp at hx
    | some y =>
      obtain ⟨l, e'⟩ := y
      rw [frames_some e] at hx
      obtain ⟨_, h1, h2, h3, h4⟩ := frameAt_some hb hs e
      rcases List.mem_cons.mp hx with q | q
      · subst q; exact ⟨h3, h4, by show s < e'; omega, h2⟩
      · obtain ⟨a, b, c, g⟩ := frames_sm hb f e' h2 x q
        exact ⟨a, b, by omega, g⟩
theorem frames_len {d : Bytes} (hb : Byt d) : ∀ (f s : Nat), s ≤ d.length → (framesFrom f d s).length + s ≤ d.length ∧ s ≤ lastE s (framesFrom f d s) ∧ lastE s (framesFrom f d s) ≤ d.length
  | 0, s, hs => by simp [framesFrom, lastE]; exact hs
  | f + 1, s, hs => by
    cases e : frameAt d s with
    | none => rw [frames_none e]; simp [lastE]; exact hs
    | some y =>
      obtain ⟨l, e'⟩ := y
      rw [frames_some e]
      obtain ⟨_, h1, h2, h3, h4⟩ := frameAt_some hb hs e
      obtain ⟨a, b, c⟩ := frames_len hb f e' h2
      show ((l, e') :: framesFrom f d e').length + s ≤ _ ∧ s ≤ lastE e' (framesFrom f d e') ∧ lastE e' (framesFrom f d e') ≤ d.length
      rw [List.length_cons]; omega
theorem readFrom_eq {d : Bytes} (hb : Byt d) : ∀ (f s : Nat), s ≤ d.length → readFramesFrom f (d.drop s) = ((framesFrom f d s).map (·.1), lastE s (framesFrom f d s) - s)
  | 0, s, _ => by show ([], 0) = ([], s - s); rw [Nat.sub_self]
  | f + 1, s, hs => by
    cases e : frameAt d s with
    | none =>
      rw [frames_none e]
      show (match decodeFrame (d.drop s) with | none => ([], 0) | some (l, r) => (l :: (readFramesFrom f r).1, (d.drop s).length - r.length + (readFramesFrom f r).2)) = ([], s - s)
      rw [frameAt_none e, Nat.sub_self]
    | some y =>
      obtain ⟨l, e'⟩ := y
      rw [frames_some e]
      obtain ⟨h0, h1, h2, h3, h4⟩ := frameAt_some hb hs e
      show (match decodeFrame (d.drop s) with | none => ([], 0) | some (l, r) => (l :: (readFramesFrom f r).1, (d.drop s).length - r.length + (readFramesFrom f r).2)) = (l :: (framesFrom f d e').map (·.1), lastE e' (framesFrom f d e') - s)
      rw [h0]
      show (l :: (readFramesFrom f (d.drop e')).1, (d.drop s).length - (d.drop e').length + (readFramesFrom f (d.drop e')).2) = _
      rw [readFrom_eq hb f e' h2]
      have hl := frames_len hb f e' h2
      refine Prod.ext rfl ?_
      show (d.drop s).length - (d.drop e').length + (lastE e' (framesFrom f d e') - e') = lastE e' (framesFrom f d e') - s
      rw [List.length_drop, List.length_drop]; omega
theorem readFrames_eq {d : Bytes} (hb : Byt d) : readFrames d = ((vframes d).map (·.1), lastE 0 (vframes d)) := by
  have h := readFrom_eq hb (d.length + 1) 0 (Nat.zero_le _)
  rw [List.drop_zero, Nat.sub_zero] at h
  exact h
/-! ticks that are replayed -/
def takeTicks : Nat → List (List Int × Nat) → List (List Int × Nat)
  | _, [] => []
  | t, (l, e) :: r => match parseTickRow l with
    | none => []
    | some (n, _) => if n ≠ t + 1 then [] else (l, e) :: takeTicks n r
def after (s : Store) (x : List Int × Nat) : Store := match parseTickRow x.1 with
  | none => s
  | some (_, cs) => applyChanges s cs
theorem takeTicks_len : ∀ (fs : List (List Int × Nat)) (t : Nat), (takeTicks t fs).length ≤ fs.length
  | [], _ => Nat.le_refl _
  | (l, e) :: r, t => by
    unfold takeTicks
    split
    · simp
    · split
      · simp
      · rename_i n _ _ _
        have := takeTicks_len r n
        simp; omega
theorem replay_from {d : Bytes} (hb : Byt d) : ∀ (f t : Nat) (s : Store) (p : Nat), p ≤ d.length →
    replayFrom f t s (d.drop p) = ((takeTicks t (framesFrom f d p)).length, ((takeTicks t (framesFrom f d p)).foldl after s, lastE p (takeTicks t (framesFrom f d p)) - p)) ∧ p ≤ lastE p (takeTicks t (framesFrom f d p)) ∧ lastE p (takeTicks t (framesFrom f d p)) ≤ d.length
  | 0, t, s, p, hp => by
    refine ⟨?_, Nat.le_refl _, hp⟩
    show (0, (s, 0)) = (0, (s, p - p))
    rw [Nat.sub_self]
  | f + 1, t, s, p, hp => by
    have un : replayFrom (f + 1) t s (d.drop p) = (match decodeFrame (d.drop p) with
      | none => (0, s, 0)
      | some (l, r) => (match parseTickRow l with
        | none => (0, s, 0)
        | some (n, cs) => if n ≠ t + 1 then (0, s, 0) else
          ((replayFrom f n (applyChanges s cs) r).1 + 1, (replayFrom f n (applyChanges s cs) r).2.1, (d.drop p).length - r.length + (replayFrom f n (applyChanges s cs) r).2.2))) := rfl
    rw [un]
    cases e : frameAt d p with
    | none =>
      rw [frames_none e, frameAt_none e]
      refine ⟨?_, Nat.le_refl _, hp⟩
      show (0, (s, 0)) = (0, (s, p - p))
      rw [Nat.sub_self]
    | some y =>
      obtain ⟨l, e'⟩ := y
      obtain ⟨h0, h1, h2, h3, h4⟩ := frameAt_some hb hp e
      rw [frames_some e, h0]
      dsimp only
      have tk : takeTicks t ((l, e') :: framesFrom f d e') = (match parseTickRow l with
        | none => []
        | some (n, _) => if n ≠ t + 1 then [] else (l, e') :: takeTicks n (framesFrom f d e')) := rfl
      rw [tk]
      cases e5 : parseTickRow l with
      | none =>
        refine ⟨?_, Nat.le_refl _, hp⟩
        show (0, (s, 0)) = (0, (s, p - p))
        rw [Nat.sub_self]
      | some z =>
        obtain ⟨n, cs⟩ := z
        by_cases c : n ≠ t + 1
        · have g1 : (match (some (n, cs) : Option (Nat × List Change)) with
            | none => ([] : List (List Int × Nat))
            | some (n, _) => if n ≠ t + 1 then [] else (l, e') :: takeTicks n (framesFrom f d e')) = [] := if_pos c
          rw [g1]
          refine ⟨?_, Nat.le_refl _, hp⟩
          show (if n ≠ t + 1 then (0, s, 0) else _) = (0, (s, p - p))
          rw [if_pos c, Nat.sub_self]
        · have g1 : (match (some (n, cs) : Option (Nat × List Change)) with
            | none => ([] : List (List Int × Nat))
            | some (n, _) => if n ≠ t + 1 then [] else (l, e') :: takeTicks n (framesFrom f d e')) = (l, e') :: takeTicks n (framesFrom f d e') := if_neg c
          rw [g1]
          obtain ⟨i1, i2, i3⟩ := replay_from hb f n (applyChanges s cs) e' h2
          refine ⟨?_, ?_, i3⟩
          · show (if n ≠ t + 1 then (0, s, 0) else ((replayFrom f n (applyChanges s cs) (d.drop e')).1 + 1, (replayFrom f n (applyChanges s cs) (d.drop e')).2.1, (d.drop p).length - (d.drop e').length + (replayFrom f n (applyChanges s cs) (d.drop e')).2.2)) = _
            rw [if_neg c, i1]
            have af : after s (l, e') = applyChanges s cs := by unfold after; rw [e5]
            refine Prod.ext rfl (Prod.ext ?_ ?_)
            · show (takeTicks n (framesFrom f d e')).foldl after (applyChanges s cs) = (takeTicks n (framesFrom f d e')).foldl after (after s (l, e'))
              rw [af]
            · show (d.drop p).length - (d.drop e').length + (lastE e' (takeTicks n (framesFrom f d e')) - e') = lastE e' (takeTicks n (framesFrom f d e')) - p
              rw [List.length_drop, List.length_drop]; omega
          · show p ≤ lastE e' (takeTicks n (framesFrom f d e'))
            omega
theorem replay_eq {d : Bytes} (hb : Byt d) (t : Nat) (s : Store) :
    replay t s d = ((takeTicks t (vframes d)).length, ((takeTicks t (vframes d)).foldl after s, lastE 0 (takeTicks t (vframes d)))) ∧ lastE 0 (takeTicks t (vframes d)) ≤ d.length := by
  have h := replay_from hb (d.length + 1) t s 0 (Nat.zero_le _)
  rw [List.drop_zero, Nat.sub_zero] at h
  exact ⟨h.1, h.2.2⟩
theorem parseTick_cons {l : List Int} {n : Nat} {cs : List Change} (h : parseTickRow l = some (n, cs)) : ∃ r, l = (n : Int) :: r ∧ parseChanges r = some cs ∧ 1 ≤ n := by
  cases l with
  | nil => cases h
  | cons t r =>
    have h' : (if t < 1 then none else (parseChanges r).map fun l => (t.toNat, l)) = some (n, cs) := h
    split at h'
    · cases h'
    · cases e : parseChanges r with
      | none => rw [e] at h'; cases h'
      | some c =>
        rw [e] at h'
        have h2 : (t.toNat, c) = (n, cs) := Option.some.inj h'
        cases h2
        exact ⟨r, by rw [show ((t.toNat : Nat) : Int) = t by omega], e, by omega⟩
end TS
namespace TS
open Vbwsai
/-! the contents -/
structure StOk (s : Store) : Prop where
  srt : s.Pairwise (fun x y => x.1 < y.1)
  key : ∀ x ∈ s, x.1 < 64
  val : ∀ x ∈ s, -1000000000000000000 ≤ x.2 ∧ x.2 ≤ 1000000000000000000
theorem StOk.nil : StOk [] := ⟨.nil, fun x h => by simp at h, fun x h => by simp at h⟩
theorem StOk.tail {x : Nat × Int} {s : Store} (h : StOk (x :: s)) : StOk s :=
  ⟨(List.pairwise_cons.mp h.srt).2, fun y hy => h.key y (List.mem_cons_of_mem _ hy), fun y hy => h.val y (List.mem_cons_of_mem _ hy)⟩
theorem StOk.head {x : Nat × Int} {s : Store} (h : StOk (x :: s)) : ∀ y ∈ s, x.1 < y.1 := (List.pairwise_cons.mp h.srt).1
theorem insert_mem {k : Nat} {v : Int} : ∀ {s : Store} {y : Nat × Int}, y ∈ insertKey k v s → y = (k, v) ∨ y ∈ s
  | [], y, h => by
    have h' : y ∈ [(k, v)] := h
    exact .inl (List.mem_singleton.mp h')
  | x :: r, y, h => by
    have h' : y ∈ (if k < x.1 then (k, v) :: x :: r else if k = x.1 then (k, v) :: r else x :: insertKey k v r) := h
    split at h'
    · rcases List.mem_cons.mp h' with e | e
      · exact .inl e
      · exact .inr e
    · split at h'
      · rcases List.mem_cons.mp h' with e | e
        · exact .inl e
        · exact .inr (List.mem_cons_of_mem _ e)
      · rcases List.mem_cons.mp h' with e | e
        · exact .inr (by rw [e]; exact List.mem_cons_self)
        · rcases insert_mem e with q | q
          · exact .inl q
          · exact .inr (List.mem_cons_of_mem _ q)
theorem StOk.insert {k : Nat} {v : Int} (hk : k < 64) (hv : -1000000000000000000 ≤ v ∧ v ≤ 1000000000000000000) : ∀ {s : Store}, StOk s → StOk (insertKey k v s) := fun {s} h => by
  refine ⟨?_, fun y hy => ?_, fun y hy => ?_⟩
  · induction s with
    | nil => exact List.pairwise_singleton _ _
    | cons x r ih =>
      show List.Pairwise _ (if k < x.1 then (k, v) :: x :: r else if k = x.1 then (k, v) :: r else x :: insertKey k v r)
      split
      · rename_i c
        refine List.pairwise_cons.mpr ⟨fun y hy => ?_, h.srt⟩
        rcases List.mem_cons.mp hy with e | e
        · rw [e]; exact c
        · exact Nat.lt_trans c (h.head y e)
      · split
        · rename_i c
          refine List.pairwise_cons.mpr ⟨fun y hy => ?_, h.tail.srt⟩
          show k < y.1
          rw [c]; exact h.head y hy
        · refine List.pairwise_cons.mpr ⟨fun y hy => ?_, ih h.tail⟩
          rcases insert_mem hy with e | e
          · rw [e]; show x.1 < k; omega
          · exact h.head y e
  · rcases insert_mem hy with e | e
    · rw [e]; exact hk
    · exact h.key y e
  · rcases insert_mem hy with e | e
    · rw [e]; exact hv
    · exact h.val y e
theorem StOk.remove {s : Store} (k : Nat) (h : StOk s) : StOk (removeKey k s) :=
  ⟨h.srt.filter _, fun y hy => h.key y ((List.mem_filter.mp hy).1), fun y hy => h.val y ((List.mem_filter.mp hy).1)⟩
def ChOk (c : Change) : Prop := c.1 < 64 ∧ ∀ v, c.2 = some v → -1000000000000000000 ≤ v ∧ v ≤ 1000000000000000000
theorem StOk.change {s : Store} {c : Change} (h : StOk s) (hc : ChOk c) : StOk (applyChange s c) := by
  obtain ⟨k, o⟩ := c
  cases o with
  | none => exact h.remove k
  | some v => exact h.insert hc.1 (hc.2 v rfl)
theorem StOk.changes : ∀ {cs : List Change} {s : Store}, StOk s → (∀ c ∈ cs, ChOk c) → StOk (applyChanges s cs)
  | [], _, h, _ => h
  | c :: cs, s, h, hc => StOk.changes (cs := cs) (h.change (hc c List.mem_cons_self)) fun d hd => hc d (List.mem_cons_of_mem _ hd)
theorem StOk.len {s : Store} (h : StOk s) : s.length ≤ 64 := by
  have aux : ∀ (s : Store) (n : Nat), s.Pairwise (fun x y => x.1 < y.1) → (∀ x ∈ s, n ≤ x.1 ∧ x.1 < 64) → s.length + n ≤ 64 ∨ s = [] := by
    intro s
    induction s with
    | nil => intro n _ _; exact .inr rfl
    | cons x r ih =>
      intro n hp hk
      obtain ⟨a, b⟩ := List.pairwise_cons.mp hp
      obtain ⟨c, d⟩ := hk x List.mem_cons_self
      rcases ih (x.1 + 1) b (fun y hy => ⟨a y hy, (hk y (List.mem_cons_of_mem _ hy)).2⟩) with e | e
      · left; simp; omega
      · left; rw [e]; simp; omega
  rcases aux s 0 h.srt fun x hx => ⟨Nat.zero_le _, h.key x hx⟩ with e | e
  · omega
  · rw [e]; simp
/-- the insertion of a key, whatever the order -/
theorem insert_perm {k : Nat} {v : Int} : ∀ {s : Store}, StOk s → (insertKey k v s).Perm ((k, v) :: s.filter fun x => x.1 != k)
  | [], _ => List.Perm.refl _
  | x :: r, h => by
    show (if k < x.1 then (k, v) :: x :: r else if k = x.1 then (k, v) :: r else x :: insertKey k v r).Perm _
    have keep : ∀ l : Store, (∀ y ∈ l, k ≠ y.1) → (l.filter fun x => x.1 != k) = l := fun l hl => List.filter_eq_self.mpr fun y hy => by
      simpa using (hl y hy).symm
    split
    · rename_i c
      rw [keep (x :: r) fun y hy => by
        rcases List.mem_cons.mp hy with e | e
        · rw [e]; omega
        · have := h.head y e; omega]
    · split
      · rename_i c
        have e1 : ((x :: r).filter fun y => y.1 != k) = r := by
          rw [List.filter_cons_of_neg (by simp [c]), keep r fun y hy => by have := h.head y hy; omega]
        rw [e1]
      · rename_i c1 c2
        have e1 : ((x :: r).filter fun y => y.1 != k) = x :: r.filter fun y => y.1 != k := List.filter_cons_of_pos (by simpa using fun z => c2 z.symm)
        rw [e1]
        exact ((insert_perm h.tail).cons x).trans (List.Perm.swap _ _ _)
/-- in a list of pairs with distinct keys the first of a key is the only one -/
theorem find_iff {k : Nat} {v : Int} : ∀ {l : Store}, (l.map (·.1)).Nodup → ((l.find? (fun x => x.1 == k)).map (·.2) = some v ↔ (k, v) ∈ l)
  | [], _ => by simp
  | x :: r, h => by
    have h2 : x.1 ∉ r.map (·.1) ∧ (r.map (·.1)).Nodup := List.nodup_cons.mp h
    by_cases c : x.1 = k
    · rw [List.find?_cons_of_pos (by simp [c])]
      constructor
      · intro e
        have e' : x.2 = v := Option.some.inj e
        rw [← c, ← e']; exact List.mem_cons_self
      · intro e
        rcases List.mem_cons.mp e with q | q
        · rw [← q]; rfl
        · exact absurd (by rw [c]; exact List.mem_map.mpr ⟨_, q, rfl⟩) h2.1
    · rw [List.find?_cons_of_neg (by simpa using c), find_iff h2.2]
      constructor
      · exact fun e => List.mem_cons_of_mem _ e
      · intro e
        rcases List.mem_cons.mp e with q | q
        · exact absurd (by rw [← q]) c
        · exact q
theorem StOk.nodup {s : Store} (h : StOk s) : (s.map (·.1)).Nodup := by
  rw [List.nodup_iff_pairwise_ne, List.pairwise_map]
  exact h.srt.imp fun {x y} q => Nat.ne_of_lt q
theorem find_perm {k : Nat} {l s : Store} (h : StOk s) (p : l.Perm s) : (l.find? (fun x => x.1 == k)).map (·.2) = lookupKey k s := by
  have hn : (l.map (·.1)).Nodup := (p.map _).nodup_iff.mpr h.nodup
  refine Option.ext fun v => ?_
  unfold lookupKey
  rw [find_iff hn, find_iff h.nodup, p.mem_iff]
/-! rows of changes -/
def chOk (k f v : Int) : Bool := decide (0 ≤ k ∧ k ≤ 63) && (decide (f = 0) || decide (f = 1)) && decide (-1000000000000000000 ≤ v ∧ v ≤ 1000000000000000000)
theorem parse3 (k f v : Int) (r : List Int) : parseChanges (k :: f :: v :: r) = if chOk k f v = true then (parseChanges r).map fun l => (k.toNat, if f = 1 then some v else none) :: l else none := by
  show (if k < 0 ∨ (keyCount : Int) ≤ k ∨ (f ≠ 0 ∧ f ≠ 1) ∨ v < -maxValue ∨ maxValue < v then none else (parseChanges r).map fun l => (k.toNat, if f = 1 then some v else none) :: l) = _
  have e : (k < 0 ∨ (keyCount : Int) ≤ k ∨ (f ≠ 0 ∧ f ≠ 1) ∨ v < -maxValue ∨ maxValue < v) ↔ ¬ chOk k f v = true := by
    unfold chOk keyCount maxValue
    simp only [Bool.and_eq_true, Bool.or_eq_true, decide_eq_true_eq]
    omega
  by_cases c : chOk k f v = true
  · rw [if_pos c, if_neg (fun z => e.mp z c)]
  · rw [if_neg c, if_pos (e.mpr c)]
theorem parse_len : ∀ {l : List Int} {cs : List Change}, parseChanges l = some cs → l.length = 3 * cs.length ∧ ∀ c ∈ cs, ChOk c
  | [], cs, h => by
    have h' : some [] = some cs := h
    cases h'; exact ⟨rfl, fun c hc => by simp at hc⟩
  | [_], _, h => by cases h
  | [_, _], _, h => by cases h
  | k :: f :: v :: r, cs, h => by
    rw [parse3] at h
    split at h
    · rename_i c
      cases e : parseChanges r with
      | none => rw [e] at h; cases h
      | some l =>
        rw [e] at h
        have h' : (k.toNat, if f = 1 then some v else none) :: l = cs := Option.some.inj h
        obtain ⟨h1, h2⟩ := parse_len (l := r) e
        subst h'
        refine ⟨by simp [h1]; omega, fun d hd => ?_⟩
        unfold chOk at c
        simp only [Bool.and_eq_true, Bool.or_eq_true, decide_eq_true_eq] at c
        rcases List.mem_cons.mp hd with q | q
        · subst q
          refine ⟨by show k.toNat < 64; omega, fun w hw => ?_⟩
          have hw' : (if f = 1 then some v else none) = some w := hw
          split at hw'
          · cases hw'; omega
          · cases hw'
        · exact h2 d q
    · cases h
def flatC (cs : List Change) : List Int := cs.flatMap fun c => match c.2 with
  | none => [(c.1 : Int), 0, 0]
  | some v => [(c.1 : Int), 1, v]
theorem tickRow_eq (t : Nat) (cs : List Change) : tickRow t cs = (t : Int) :: flatC cs := rfl
theorem flatC_len (cs : List Change) : (flatC cs).length = 3 * cs.length := by
  induction cs with
  | nil => rfl
  | cons c cs ih =>
    have e : flatC (c :: cs) = (match c.2 with
      | none => [(c.1 : Int), 0, 0]
      | some v => [(c.1 : Int), 1, v]) ++ flatC cs := rfl
    rw [e, List.length_append, ih]
    cases c.2 <;> simp <;> omega
theorem flatC_sm {cs : List Change} (h : ∀ c ∈ cs, ChOk c) : ∀ z ∈ flatC cs, Sm z := by
  intro z hz
  obtain ⟨c, hc, hz⟩ := List.mem_flatMap.mp hz
  obtain ⟨k, o⟩ := c
  obtain ⟨h1, h2⟩ := h _ hc
  have h1' : k < 64 := h1
  unfold Sm
  cases o with
  | none =>
    have hz' : z ∈ [(k : Int), 0, 0] := hz
    simp at hz'; omega
  | some v =>
    have hz' : z ∈ [(k : Int), 1, v] := hz
    have := h2 v rfl
    simp at hz'; omega
/-- the next three -/
theorem drop_three {l : List Int} {i : Nat} (h : 3 * i + 3 ≤ l.length) : ∃ k f v, l[3 * i]? = some k ∧ l[3 * i + 1]? = some f ∧ l[3 * i + 2]? = some v ∧ l.drop (3 * i) = k :: f :: v :: l.drop (3 * (i + 1)) := by
  refine ⟨l[3 * i], l[3 * i + 1], l[3 * i + 2], List.getElem?_eq_getElem _, List.getElem?_eq_getElem _, List.getElem?_eq_getElem _, ?_⟩
  rw [List.drop_eq_getElem_cons (by omega), List.drop_eq_getElem_cons (by omega), List.drop_eq_getElem_cons (by omega)]
  rfl
theorem drop_two {l : List Int} {i : Nat} (h : 2 * i + 2 ≤ l.length) : ∃ k v, l[2 * i]? = some k ∧ l[2 * i + 1]? = some v ∧ l.drop (2 * i) = k :: v :: l.drop (2 * (i + 1)) := by
  refine ⟨l[2 * i], l[2 * i + 1], List.getElem?_eq_getElem _, List.getElem?_eq_getElem _, ?_⟩
  rw [List.drop_eq_getElem_cons (by omega), List.drop_eq_getElem_cons (by omega)]
  rfl
theorem parse_mod : ∀ (l : List Int), l.length % 3 ≠ 0 → parseChanges l = none
  | [], h => absurd rfl h
  | [_], _ => rfl
  | [_, _], _ => rfl
  | k :: f :: v :: r, h => by
    rw [parse3, parse_mod r (by simp at h; omega)]
    split <;> rfl
/-! rows of checkpoints -/
def enOk (low : Nat) (k v : Int) : Bool := decide ((low : Int) ≤ k ∧ k ≤ 63) && decide (-1000000000000000000 ≤ v ∧ v ≤ 1000000000000000000)
theorem parse2 (low : Nat) (k v : Int) (r : List Int) : parseEntries low (k :: v :: r) = if enOk low k v = true then (parseEntries (k.toNat + 1) r).map fun l => (k.toNat, v) :: l else none := by
  show (if k < (low : Int) ∨ (keyCount : Int) ≤ k ∨ v < -maxValue ∨ maxValue < v then none else (parseEntries (k.toNat + 1) r).map fun l => (k.toNat, v) :: l) = _
  have e : (k < (low : Int) ∨ (keyCount : Int) ≤ k ∨ v < -maxValue ∨ maxValue < v) ↔ ¬ enOk low k v = true := by
    unfold enOk keyCount maxValue
    simp only [Bool.and_eq_true, decide_eq_true_eq]
    omega
  by_cases c : enOk low k v = true
  · rw [if_pos c, if_neg (fun z => e.mp z c)]
  · rw [if_neg c, if_pos (e.mpr c)]
theorem entries_ok : ∀ {r : List Int} {low : Nat} {s : Store}, parseEntries low r = some s → StOk s ∧ (∀ x ∈ s, low ≤ x.1) ∧ r.length = 2 * s.length
  | [], low, s, h => by
    have h' : some [] = some s := h
    cases h'; exact ⟨StOk.nil, fun x hx => by simp at hx, rfl⟩
  | [_], _, _, h => by cases h
  | k :: v :: r, low, s, h => by
    rw [parse2] at h
    split at h
    · rename_i c
      cases e : parseEntries (k.toNat + 1) r with
      | none => rw [e] at h; cases h
      | some l =>
        rw [e] at h
        have h' : (k.toNat, v) :: l = s := Option.some.inj h
        obtain ⟨h1, h2, h3⟩ := entries_ok (r := r) e
        subst h'
        unfold enOk at c
        simp only [Bool.and_eq_true, decide_eq_true_eq] at c
        refine ⟨⟨List.pairwise_cons.mpr ⟨fun y hy => ?_, h1.srt⟩, fun y hy => ?_, fun y hy => ?_⟩, fun y hy => ?_, by simp [h3]; omega⟩
        · have := h2 y hy; show k.toNat < y.1; omega
        · rcases List.mem_cons.mp hy with q | q
          · subst q; show k.toNat < 64; omega
          · exact h1.key y q
        · rcases List.mem_cons.mp hy with q | q
          · subst q; exact c.2
          · exact h1.val y q
        · rcases List.mem_cons.mp hy with q | q
          · subst q; show low ≤ k.toNat; omega
          · have := h2 y q; omega
    · cases h
def flatS (s : Store) : List Int := s.flatMap fun x => [(x.1 : Int), x.2]
theorem flatS_len (s : Store) : (flatS s).length = 2 * s.length := by
  induction s with
  | nil => rfl
  | cons x s ih =>
    have e : flatS (x :: s) = [(x.1 : Int), x.2] ++ flatS s := rfl
    rw [e, List.length_append, ih]; simp; omega
theorem flatS_sm {s : Store} (h : StOk s) : ∀ z ∈ flatS s, Sm z := by
  intro z hz
  obtain ⟨x, hx, hz⟩ := List.mem_flatMap.mp hz
  have h1 := h.key x hx
  have h2 := h.val x hx
  have hz' : z ∈ [(x.1 : Int), x.2] := hz
  unfold Sm
  simp at hz'; omega
theorem flatS_snoc (s : Store) (x : Nat × Int) : flatS (s ++ [x]) = flatS s ++ [(x.1 : Int), x.2] := by
  unfold flatS; rw [List.flatMap_append]; simp
theorem ckRow_eq (t : Nat) (s : Store) : checkpointRow t s = (t : Int) :: flatS s := rfl
theorem keys_sorted {ys : List Int} {s : Store} {l : Store} (h : StOk s) (p : l.Perm s) (hy : ys.Perm (l.map fun x => (x.1 : Int))) (hs : ys.Pairwise (· ≤ ·)) : ys = s.map fun x => (x.1 : Int) := by
  refine List.Perm.eq_of_pairwise (le := (· ≤ ·)) (fun a b _ _ h1 h2 => Int.le_antisymm h1 h2) hs ?_ (hy.trans (p.map _))
  exact List.pairwise_map.mpr (h.srt.imp fun {x y} q => by omega)
end TS
namespace TS
open PySem PySem.Spec PyProof.Rows L2
def top (i : Nat) : Stmt := PySem.Challenge.pw_tickstore_s01_answers.main.body.getD i (.Pass ⟨0, 0, 0, 0⟩)
abbrev vi (l : List Int) : List V := l.map V.int
abbrev vb (l : List Nat) : List V := l.map fun (n : Nat) => V.int (n : Int)
/-! calls of one's own defs -/
def S1 (f : V → Hp → VK → Prop) : Sp := fun vs H Q _ => ∃ x, vs = [x] ∧ f x H Q
def S2 (f : V → V → Hp → VK → Prop) : Sp := fun vs H Q _ => ∃ x y, vs = [x, y] ∧ f x y H Q
def S3 (f : V → V → V → Hp → VK → Prop) : Sp := fun vs H Q _ => ∃ x y z, vs = [x, y, z] ∧ f x y z H Q
def S4 (f : V → V → V → V → Hp → VK → Prop) : Sp := fun vs H Q _ => ∃ x y z u, vs = [x, y, z, u] ∧ f x y z u H Q
def S5 (f : V → V → V → V → V → Hp → VK → Prop) : Sp := fun vs H Q _ => ∃ x y z u t, vs = [x, y, z, u, t] ∧ f x y z u t H Q
theorem S1.len {f : V → Hp → VK → Prop} {vs : List V} {H : Hp} {Q : VK} {E : XK} (h : S1 f vs H Q E) : vs.length = 1 := by
  obtain ⟨x, rfl, _⟩ := h; rfl
theorem S2.len {f : V → V → Hp → VK → Prop} {vs : List V} {H : Hp} {Q : VK} {E : XK} (h : S2 f vs H Q E) : vs.length = 2 := by
  obtain ⟨x, y, rfl, _⟩ := h; rfl
theorem S3.len {f : V → V → V → Hp → VK → Prop} {vs : List V} {H : Hp} {Q : VK} {E : XK} (h : S3 f vs H Q E) : vs.length = 3 := by
  obtain ⟨x, y, z, rfl, _⟩ := h; rfl
theorem S4.len {f : V → V → V → V → Hp → VK → Prop} {vs : List V} {H : Hp} {Q : VK} {E : XK} (h : S4 f vs H Q E) : vs.length = 4 := by
  obtain ⟨x, y, z, u, rfl, _⟩ := h; rfl
theorem S5.len {f : V → V → V → V → V → Hp → VK → Prop} {vs : List V} {H : Hp} {Q : VK} {E : XK} (h : S5 f vs H Q E) : vs.length = 5 := by
  obtain ⟨x, y, z, u, t, rfl, _⟩ := h; rfl
structure Ad where
  Memory : Addr
  Session : Addr
  Recovery : Addr
  OldJournal : Addr
  Reader : Addr
def Cst (mg : Str → Option Value) (x : Str) (v : Int) : Prop := ∃ t, mg x = some (.int v t)
theorem pe_cst {X : Cx} {x : Str} {v : Int} {pos : Pos} (h : Cst X.mg x v) (hg : Gl X x) (hd : (x == ("__debug__" : Str)) = false := by decide) : PE X (.Name x pos) (tC (.int v)) := by
  obtain ⟨t, e⟩ := h
  exact pe_glob hg e ⟨_, rfl⟩ hd
section
variable (P : Program) (w : World) (K : PySem.W.Frag) (mg : Str → Option Value) (base : Heap)
def Fn (k : Nat) (x : Str) (ps : List Str) (sp : Sp) : Prop :=
  ∃ (f : Addr) (fd : FuncData), FnOk P w K mg base CX0 k f fd ps sp ∧ mg x = some (.ref f) ∧ PySem.W.keepIn K (.ref f) = true ∧ Binds K fd ps []
def Me (k : Nat) (C : Addr) (m : Str) (ps : List Str) (sp : Sp) : Prop :=
  ∃ (f : Addr) (fd : FuncData), FnOk P w K mg base CX0 k f fd ps sp ∧ Meth K C m f ∧ Binds K fd ps []
def Mak (k : Nat) (x : Str) (C : Addr) (ps : List Str) (sp : Sp) : Prop :=
  ∃ (f : Addr) (fd : FuncData), FnOk P w K mg base CX0 k f fd ps sp ∧ Mk K C f ∧ mg x = some (.ref C) ∧ Binds K fd ps []
end
def FunAt (K : PySem.W.Frag) (mg : Str → Option Value) (x : Str) (st : Stmt) (ps : List Str) : Prop :=
  ∃ (f : Addr) (fd : FuncData), Fun K x x st f fd ∧ mg x = some (.ref f) ∧ Binds K fd ps []
def FunM (K : PySem.W.Frag) (C : Addr) (m q : Str) (st : Stmt) (ps : List Str) : Prop :=
  ∃ (f : Addr) (fd : FuncData), Fun K m q st f fd ∧ Meth K C m f ∧ Binds K fd ps []
section
variable {X : Cx} {k : Nat} {x : Str} {ps : List Str} {sp : Sp} {e o : Expr} {es : List Expr} {t : TA} {ta : TE} {p pos apos : Pos} {C : Addr} {m : Str}
theorem pe_fn (D : Fn X.prog X.w X.K X.mg X.base k x ps sp) (hr : Room k X.A) (hg : Gl X x) (ha : PA X (e :: es) t) (hdb : (x == ("__debug__" : Str)) = false := by decide)
    (he : starEach (e :: es) X.env = (false, eval e X.env) :: starEach es X.env := by rfl) (hpl : (backTo pos (starEach es X.env)).any (·.1) = false := by rfl) :
    PE X (.Call (.Name x p) (e :: es) [] pos) (tCall sp [] E0 t) := by
  obtain ⟨f, fd, G, hm, hk, hb⟩ := D
  exact pe_call G hr hg hm hk hb .nil pass0 ha hdb he hpl
theorem pe_mk (D : Mak X.prog X.w X.K X.mg X.base k x C ps sp) (hr : Room (k + 1) X.A) (hg : Gl X x) (ha : PA X (e :: es) t) (hdb : (x == ("__debug__" : Str)) = false := by decide)
    (he : starEach (e :: es) X.env = (false, eval e X.env) :: starEach es X.env := by rfl) (hpl : (backTo pos (starEach es X.env)).any (·.1) = false := by rfl) :
    PE X (.Call (.Name x p) (e :: es) [] pos) (tMake C sp [] E0 t) := by
  obtain ⟨f, fd, G, M, hm, hb⟩ := D
  exact pe_make M G hr hg hm hb .nil pass0 ha hdb he hpl
theorem pe_mk0 (D : Mak X.prog X.w X.K X.mg X.base k x C ps sp) (hr : Room (k + 1) X.A) (hg : Gl X x) (hdb : (x == ("__debug__" : Str)) = false := by decide) :
    PE X (.Call (.Name x p) [] [] pos) (tMake C sp [] E0 tNil) := by
  obtain ⟨f, fd, G, M, hm, hb⟩ := D
  exact pe_make0 M G hr hg hm hb .nil pass0 hdb
theorem pe_me {pl : Sem Bool} (D : Me X.prog X.w X.K X.mg X.base k C m ps sp) (c : Cls X.K C) (ho : PE X o ta) (hr : Room k X.A) (ha : PA X (e :: es) t)
    (hst : starEach (e :: es) X.env = (false, eval e X.env) :: starEach es X.env := by rfl) (hpl : (backTo pos (starEach es X.env)).any (·.1) = false := by rfl)
    (ht : eval (.Call (.Attribute o m apos) (e :: es) [] pos) X.env = (do
      let ov ← eval o X.env
      standAt apos.atName
      let (f, first) ← holding [ov] (getMethod ov m pl)
      callWith pos f first (backTo pos (starEach (e :: es) X.env)) (backToKw pos (keywordEach [] X.env))) := by rfl) :
    PE X (.Call (.Attribute o m apos) (e :: es) [] pos) (tMeth C m sp [] E0 ta t) := by
  obtain ⟨f, fd, G, M, hb⟩ := D
  exact pe_meth ho c M G hr hb .nil pass0 ha hst hpl ht
theorem pe_me0 {pl : Sem Bool} (D : Me X.prog X.w X.K X.mg X.base k C m ps sp) (c : Cls X.K C) (ho : PE X o ta) (hr : Room k X.A)
    (ht : eval (.Call (.Attribute o m apos) [] [] pos) X.env = (do
      let ov ← eval o X.env
      standAt apos.atName
      let (f, first) ← holding [ov] (getMethod ov m pl)
      callWith pos f first (backTo pos (starEach [] X.env)) (backToKw pos (keywordEach [] X.env))) := by rfl) :
    PE X (.Call (.Attribute o m apos) [] [] pos) (tMeth C m sp [] E0 ta tNil) := by
  obtain ⟨f, fd, G, M, hb⟩ := D
  exact pe_meth0 ho c M G hr hb .nil pass0 ht
end
/-! sorted over a dict with int keys, any number of them -/
theorem call_sortedAny {X : Cx} (hcalm : X.calm = true) : CallR X (.builtin "sorted") (fun xs H Q => ∃ (a : Addr) (kvs : List (Key × V)) (ks : List Int), xs = [.ref a] ∧ Rd H a (.dK kvs) ∧ kvs.map (·.1) = ks.map Sum.inl ∧
    ∀ (ys : List Int) (p : Addr), ys.Perm ks → ys.Pairwise (· ≤ ·) → H p = none → Q (.ref p) (upd H p (.lst (ys.map V.int)))) := by
  intro pins s σ H xs us Q I r q
  obtain ⟨a, kvs, ks, rfl, hd, hks, q⟩ := q
  obtain ⟨u, rfl, rx⟩ := vals1 r
  cases rx
  obtain ⟨z, lo, vs, rel, dd⟩ := dk_rd I.hok hd
  obtain ⟨ep, hat⟩ := dd.dictAt
  have hkeys : vs.map (·.1) = ks.map Sum.inl := rel.keys.symm.trans hks
  have hl : vs.length = ks.length := by
    have e := congrArg List.length hkeys
    simpa using e
  have hl2 : kvs.length = vs.length := rel.length
  have hbig : vs.length ≤ sizeLine := by rw [← hl2]; exact z
  refine Calls.call_function_entry kind_sorted plain_sorted entry_sorted (args_sorted1 _) ?_
  unfold Builtin.«sorted»
  refine wpAny_bind (m := checkCount "sorted" 1 1 _) (wpAny_pure ?_)
  refine wpAny_bind (PySem.W.kdu_collect (A := X.A.in1) (PySem.W.kdl_dict (knd := mixKind X.prog X.w) (kvs := vs) (ep := ep) lo) (I.ok.hd hcalm) hat hbig fun h' tk acc hk hacc => ?_)
  have hal : acc.toList.length = ks.length := by rw [Array.length_toList, hacc.1, hl]
  have hS : IntsAre acc.toList ks := ints_each hal fun j v ej => by
    have ej' : acc[j]? = some v := by rw [← Array.getElem?_toList]; exact ej
    obtain ⟨k, x, e1, e2⟩ := hacc.2 j v ej'
    have e3 : (vs.map (·.1))[j]? = some k := by rw [List.getElem?_map, e1] <;> rfl
    rw [hkeys, List.getElem?_map] at e3
    cases e4 : ks[j]? with
    | none => rw [e4] at e3; exact nomatch e3
    | some y =>
      rw [e4] at e3
      obtain rfl : Sum.inl y = k := Option.some.inj e3
      rcases keyIs_shape (show keyIs (Sum.inl y) v = true from e2) with ⟨i, t, ek, ev⟩ | ⟨c, t, ek, ev⟩
      · cases ek
        exact ⟨y, t, rfl, ev⟩
      · exact nomatch ek
  have I1 : Inv X pins σ H { s with heap := h', toks := tk } := I.kept hk
  refine wpAny_bind (wpAny_newList ?_ (by rw [hal, ← hl]; exact hbig))
  have hoL : (h'.push (seqObj "list" acc.toList.toArray 0)).get? h'.objs.size = some (seqObj "list" acc.toList.toArray 0) := Heap.get?_push_size _ rfl
  show wpAny _ _ _ _ _ { s with heap := h'.push (seqObj "list" acc.toList.toArray 0), toks := tk }
  refine wpAny_bind (wpAny_holding (wpAny_call_entry slot_list_sort ⟨_, hoL, rfl⟩ entry_list_sort
    (SrtO.list_sort_ord (s := { s with heap := h'.push (seqObj "list" acc.toList.toArray 0), toks := tk }) SrtO.swo_int hoL (by rw [hal, ← hl]; exact hbig) (fun h2 => SrtO.ints_sortable hS h2) fun out g1 g2 => ⟨.none, rfl, ?_⟩) (args_list_sort _)))
  obtain ⟨k1, k2, k3⟩ := SrtO.ints_out hS g1 g2
  obtain ⟨e', he'⟩ := sortedHeap_at (vs := acc.toList) (out := out.toArray) hoL
  have hlen : ((out.map SrtO.iv).map V.int).length ≤ sizeLine := by
    rw [List.length_map, k2.length_eq, ← hl]; exact hbig
  refine wpAny_pure ⟨_, rfl, .ref h'.objs.size, upd H h'.objs.size (.lst ((out.map SrtO.iv).map V.int)), I1.laid (t' := tk) (fun b u e => ?_) (Nat.le_refl _)
    (show ObjOk X.prog X.w _ _ _ (.lst ((out.map SrtO.iv).map V.int)) from ⟨hlen, out, e', vals_of_ints k1, he'⟩), rfl, q _ _ k2 k3 (I1.hok.fresh (Nat.le_refl _))⟩
  have hb : b < h'.objs.size := Heap.lt_size e
  rw [sortedHeap_old (Nat.ne_of_lt hb) (by rw [size_push']; exact Nat.lt_succ_of_lt hb)]
  exact Heap.get?_push_of_some _ e
end TS
namespace TS
open PySem PySem.Spec PyProof.Rows L2
/-! enumerate(xs, start=1): the pairs count from 1 -/
def ItS (K : PySem.W.Frag) (a : Addr) : It where
  go i H := ∃ (xs : List V) (x : V), SqL K H a xs ∧ xs[i]? = some x
  yld i H v H' := ∃ T x, v = .ref T ∧ H T = none ∧ H' = upd H T (.tup [.int (1 + (i : Nat)), x]) ∧ ∀ xs, SqL K H a xs → xs[i]? = some x
  stop i H := ∃ xs : List V, SqL K H a xs ∧ xs.length ≤ i
theorem apartS {h : Heap} {a it e : Addr} {items : Array Value} {i : Nat} {c : Int} {old : Value} (p : h.IsList a items) (q : h.IsListIter it a i) (r : IsEnum h e it c old) : a ≠ it ∧ e ≠ a := by
  obtain ⟨o, p1, p2, _⟩ := p
  obtain ⟨u, q1, q2, _⟩ := q
  constructor
  · rintro rfl
    rw [p1] at q1
    cases q1
    rw [p2] at q2
    exact absurd (Value.type.inj q2) (by decide)
  · rintro rfl
    have r1 := Option.some.inj (p1.symm.trans r)
    rw [r1] at p2
    exact absurd (Value.type.inj p2) (by decide)
theorem enumEndS {prog : Program} {w : World} {A : Around} {E : Value → Shared → Prop} {s : Shared} {e it l : Addr} {i : Nat} {c : Int} {items : Array Value} {old : Value} {Q : Option Value → Shared → Prop} (hh : A.handled = none)
    (he : IsEnum s.heap e it c old) (hit : s.heap.IsListIter it l i) (hl : s.heap.IsList l items) (hx : items[i]? = none)
    (hQ : ∀ h', Heap.ExtBut it s.heap h' → Q none { s with heap := h' }) : wpAny (model prog w) A (pyNext (.ref e)) Q E s := by
  have D : Draws prog w A.in1 it [it, l] i (fun _ _ => True) (fun j h => j = i ∧ h.IsListIter it l i ∧ h.IsList l items) :=
    { live := fun j h st => by
        obtain ⟨_, ⟨o, ho, _⟩, _⟩ := st
        exact ⟨o, ho⟩
      frame := fun j h h' st hk => ⟨st.1, st.2.1.at fun o q => hk it (by simp) o q, st.2.2.at fun o q => hk l (by simp) o q⟩
      item := fun j s Q E hj st _ => absurd st.1 (Nat.ne_of_lt hj)
      done := fun s Q E st hE => wpAny_nextOf_list_end hh st.2.1 st.2.2 hx hE }
  exact wpAny_pyNext_enum_endD D he ⟨rfl, hit, hl⟩ hQ
theorem turnS {P : Program} {w : World} {K : PySem.W.Frag} {elts : List Expr} {kk : Nat} {tpos : Pos} (a e it : Addr) :
    Turn P w K (.Tuple elts kk tpos) (ItS K a) [e, it] e (fun i h => (∃ old, IsEnum h e it (1 + (i : Nat)) old) ∧ h.IsListIter it a i ∧ e ≠ it) where
  mem := List.mem_cons_self
  obj := fun i h st b hb => by
    obtain ⟨⟨old, he⟩, ⟨o, ho, _, hd⟩, _⟩ := st
    rcases (show b = e ∨ b = it by simpa using hb) with rfl | rfl
    · exact ⟨_, he, fun v q => nomatch q⟩
    · refine ⟨o, ho, fun v q => ?_⟩
      rw [hd] at q
      exact nomatch q
  keep := fun i h h' st k => by
    obtain ⟨⟨old, he⟩, hi, hne⟩ := st
    exact ⟨⟨old, k e (by simp) _ he⟩, hi.at fun o q => k it (by simp) o q, hne⟩
  item := by
    intro X hP hw hK hc i pins s σ H E I hf st hg
    subst hP hw hK
    obtain ⟨⟨old, he⟩, hit, hne⟩ := st
    obtain ⟨xs, x, hq, hx⟩ := hg
    obtain ⟨its, rv, p, _⟩ := I.list hq
    obtain ⟨u, hu, ru⟩ := rv.get hx
    have lt1 : e < s.heap.objs.size := Heap.lt_size he
    have lt2 : it < s.heap.objs.size := by
      obtain ⟨_, q, _⟩ := hit
      exact Heap.lt_size q
    have hu' : its.toArray[i]? = some u := by simpa using hu
    have hlen : i < its.toArray.size := by
      rcases Nat.lt_or_ge i its.toArray.size with z | z
      · exact z
      · rw [Array.getElem?_eq_none z] at hu'
        exact nomatch hu'
    obtain ⟨n1, n2⟩ := apartS p.isList hit he
    refine wpAny_pyNext_enum_itemC (Draws.list (prog := X.prog) (w := X.w) (A := X.A.in1) (I.ok.hd hc) it a n1 its.toArray) he ⟨hit, p.isList⟩ hlen hne (by simp [hne, n2]) fun y h' tk hy ho hst' hT _ hk => ⟨_, rfl, ?_⟩
    have hit' := hst'.1
    obtain rfl : y = u := Option.some.inj ((show its.toArray[i]? = some y from hy).symm.trans hu')
    refine wpAny_letOwnedTupleGo_enum (s := { s with heap := h', toks := tk + 1 }) ho fun h2 he2 sb => ?_
    have old2 : ∀ b ob, b ∉ [e, it] → s.heap.get? b = some ob → h2.get? b = some ob := fun b ob hb q => by
      have n1 : b ≠ e := fun z => hb (by simp [z])
      have n2 : b ≠ it := fun z => hb (by simp [z])
      exact (sb.2 b n1).trans (hk b ob n1 n2 q)
    have hT2 := (sb.2 _ (Nat.ne_of_gt lt1)).trans hT
    have new : ObjOk X.prog X.w (upd H s.heap.objs.size (.tup [.int (1 + (i : Nat)), x])) h2 s.heap.objs.size (.tup [.int (1 + (i : Nat)), x]) :=
      ⟨by show 2 ≤ sizeLine; decide, _, .cons ⟨_, rfl⟩ (.cons ru .nil), ⟨_, hT2, rfl, _, rfl⟩⟩
    have I1 : Inv X pins σ (upd H s.heap.objs.size (.tup [.int (1 + (i : Nat)), x])) { s with heap := h2, toks := tk + 1 } :=
      I.turnedNew (ch := [e, it]) old2 hf (Nat.le_refl _) new
    have fresh : H s.heap.objs.size = none := I.hok.fresh (Nat.le_refl _)
    refine ⟨.ref s.heap.objs.size, _, I1, rfl, ⟨_, x, rfl, fresh, rfl, fun ys hy => ?_⟩, ⟨⟨y, ?_⟩, hit'.at fun o q => (sb.2 it (Ne.symm hne)).trans q, hne⟩, fun b hb => ?_⟩
    · rw [I.list_inj hy hq]
      exact hx
    · have e1 : (1 + ((i + 1 : Nat) : Int)) = (1 + (i : Int)) + 1 := by omega
      rw [e1]
      exact he2
    · have hb' : b < s.heap.objs.size := by
        rcases (show b = e ∨ b = it by simpa using hb) with rfl | rfl
        · exact lt1
        · exact lt2
      rw [upd_ne (Nat.ne_of_lt hb')]
      exact (hf b hb).1
  done := by
    intro X hP hw hK hc i pins s σ H E I hf st hg
    subst hP hw hK
    obtain ⟨⟨old, he⟩, hit, hne⟩ := st
    obtain ⟨xs, hq, hx⟩ := hg
    obtain ⟨its, rv, p, _⟩ := I.list hq
    obtain ⟨f0, f1, f2, f3, f4, f5⟩ := hf it (by simp)
    have hl := rv.length
    refine enumEndS (I.ok.hd hc) he hit p.isList (by simp; omega) fun h' eb => ⟨rfl, ?_⟩
    exact I.turned (t' := s.toks) (fun b o hb q => eb b o hb q) f0 f1 f3 f4 f5
  self := fun A i s Q E st h => by
    obtain ⟨⟨_, he⟩, _⟩ := st
    exact wpAny_pyIter_enum he h
theorem callWith_typeKw {M : Model} {A : Around} {E : Value → Shared → Prop} {s : Shared} {env : Env} {pos : Pos} {T : String} {e : Expr} {rest : List Expr} {kws : List Keyword} {Q : Value → Shared → Prop}
    (h : wpAny M A (spliced (backTo pos (starEach (e :: rest) env))) (fun vs s1 => wpAny M A (evalAll ((backToKw pos (keywordEach kws env)).map (·.2)))
      (fun kvs s2 => wpAny M A (call (.type T) vs (((backToKw pos (keywordEach kws env)).filterMap (·.1)).zip kvs)) Q E s2) E s1) E s)
    (he : backTo pos (starEach (e :: rest) env) = (false, eval e env) :: backTo pos (starEach rest env))
    (hplain : (backTo pos (starEach (e :: rest) env)).any (·.1) = false)
    (hall : (backToKw pos (keywordEach kws env)).all (·.1.isSome) = true)
    (hkw : (backToKw pos (keywordEach kws env)).any (·.1.isNone) = false) :
    wpAny M A (callWith pos (.type T) [] (backTo pos (starEach (e :: rest) env)) (backToKw pos (keywordEach kws env))) Q E s := by
  have g : wpAny M A (evalArgs (.type T) true (backTo pos (starEach (e :: rest) env)) (backToKw pos (keywordEach kws env))) (fun a s1 => wpAny M A (call (.type T) ([] ++ a.pos) a.kw) Q E s1) E s := by
    rw [he] at h ⊢
    exact evalArgs_kwB hall h
  unfold callWith
  refine wpAny_bind (wpAny_holding (wpAny_mono g (fun a s1 h1 => wpAny_bind (wpAny_standAt ?_)) fun _ _ x => x))
  rw [hplain, hkw]
  refine wpAny_bind (wpAny_pure ?_)
  exact wpAny_bind (wpAny_mono h1 (fun r s2 hr => wpAny_bind (wpAny_holding (wpAny_point (wpAny_pure hr)))) fun _ _ x => x)
def iEnumS (K : PySem.W.Frag) (ta : TA) : TI := fun σ H R => ta σ H fun vs H1 => ∃ a xs, vs = [.ref a] ∧ SqL K H1 a xs ∧ R (ItS K a) H1
theorem pi_enumS {X : Cx} {e : Expr} {ta : TA} {p pos tpos kp cp : Pos} {elts : List Expr} {kk j : Nat} (hg : Gl X "enumerate") (hm : X.mg "enumerate" = none) (ha : PA X [e] ta)
    (hs : backTo pos (starEach [e] X.env) = (false, eval e X.env) :: backTo pos (starEach [] X.env) := by rfl) (hpl : (backTo pos (starEach [e] X.env)).any (·.1) = false := by rfl) :
    PI X (.Tuple elts kk tpos) (.Call (.Name "enumerate" p) [e] [⟨some "start", .Constant (.int 1) j cp, kp⟩] pos) (iEnumS X.K ta) := by
  refine ⟨fun pins s σ H R I h => ?_⟩
  refine wpAny_Call_Name_kw (ld_blt I hg hm boot_enumerate ?_)
  refine callWith_typeKw (thn (ha.run pos pins s σ H _ I h) fun us s1 ⟨vs, H1, I1, r1, q1⟩ => ?_) hs hpl rfl rfl
  refine kws_cons (wpAny_Constant_int (kws_nil ?_))
  obtain ⟨a, xs, rfl, hq, q⟩ := q1
  obtain ⟨u, rfl, ru⟩ := vals1 r1
  cases ru
  obtain ⟨its, rv, p', _⟩ := I1.list hq
  refine enum_begins_start (begins_list a its.toArray) (s := { s1 with toks := s1.toks + 1 }) p'.isList (by decide) (by decide) fun h' he hit hsz hk => wpAny_pyIter_enum he ?_
  have I2 : Inv X pins σ H1 { s1 with heap := h', toks := s1.toks + 1 } := I1.kept (t' := s1.toks + 1) hk
  refine ⟨s1.heap.objs.size + 1, [s1.heap.objs.size + 1, s1.heap.objs.size], _, _, H1, rfl, I2, turnS a (s1.heap.objs.size + 1) s1.heap.objs.size, ⟨⟨.none, he⟩, ⟨_, hit, rfl, rfl⟩, Nat.succ_ne_self _⟩, fun b hb => ?_, q⟩
  have hle : s1.heap.objs.size ≤ b := by
    rcases (show b = s1.heap.objs.size + 1 ∨ b = s1.heap.objs.size by simpa using hb) with rfl | rfl
    · exact Nat.le_add_right _ _
    · exact Nat.le_refl _
  exact I1.fpOk hle (I1.hok.fresh hle)
end TS
namespace TS
open PySem PySem.Spec PyProof.Rows L2 Vbwsai
/-! what the top has written -/
structure Txt (K : PySem.W.Frag) (mg : Str → Option Value) (A : Ad) : Prop where
  c_LARGEST : Cst mg "LARGEST" 1000000000000000000
  c_LARGEST_KEY : Cst mg "LARGEST_KEY" 63
  c_LARGEST_LIMIT : Cst mg "LARGEST_LIMIT" 100000
  c_LARGEST_FILE : Cst mg "LARGEST_FILE" 5
  c_LARGEST_BYTE : Cst mg "LARGEST_BYTE" 255
  c_LONGEST_ROW : Cst mg "LONGEST_ROW" 40
  c_CHANGES_OF_A_TICK : Cst mg "CHANGES_OF_A_TICK" 16
  c_UNLIMITED : Cst mg "UNLIMITED" (-1)
  c_BAD_ARGUMENT : Cst mg "BAD_ARGUMENT" (-1)
  c_INVALID_LINE : Cst mg "INVALID_LINE" (-2)
  c_NOT_NOW : Cst mg "NOT_NOW" (-3)
  c_NOT_THERE : Cst mg "NOT_THERE" (-4)
  c_TOO_LARGE : Cst mg "TOO_LARGE" (-5)
  c_NOTHING_TO_RECOVER : Cst mg "NOTHING_TO_RECOVER" (-6)
  c_NO_POWER : Cst mg "NO_POWER" (-7)
  c_CHECKSUM_MODULUS : Cst mg "CHECKSUM_MODULUS" 65521
  c_END_BYTE : Cst mg "END_BYTE" 165
  c_LONGEST_PART : Cst mg "LONGEST_PART" 12
  c_BYTES_BESIDE_PAYLOAD : Cst mg "BYTES_BESIDE_PAYLOAD" 7
  c_LINE_FEED : Cst mg "LINE_FEED" 10
  c_BLANK : Cst mg "BLANK" 32
  c_REMOVAL_SIGN : Cst mg "REMOVAL_SIGN" 33
  c_MINUS_SIGN : Cst mg "MINUS_SIGN" 45
  c_DIGIT_ZERO : Cst mg "DIGIT_ZERO" 48
  c_DIGIT_NINE : Cst mg "DIGIT_NINE" 57
  c_EQUALS_SIGN : Cst mg "EQUALS_SIGN" 61
  c_MOST_DIGITS : Cst mg "MOST_DIGITS" 19
  c_LAST_STORE_OPERATION : Cst mg "LAST_STORE_OPERATION" 8
  c_LAST_OPERATION : Cst mg "LAST_OPERATION" 17
  b_len : mg "len" = none
  b_min : mg "min" = none
  b_sorted : mg "sorted" = none
  b_dict : mg "dict" = none
  b_range : mg "range" = none
  b_reversed : mg "reversed" = none
  b_enumerate : mg "enumerate" = none
  k_Memory : Cls K A.Memory
  k_Session : Cls K A.Session
  k_Recovery : Cls K A.Recovery
  k_OldJournal : Cls K A.OldJournal
  k_Reader : Cls K A.Reader
  m_tick_number : NoAttr K A.Memory "tick_number"
  m_entries : NoAttr K A.Memory "entries"
  m_side : NoAttr K A.Memory "side"
  m_commit_number : NoAttr K A.Memory "commit_number"
  m_pending : NoAttr K A.Memory "pending"
  s_files : NoAttr K A.Session "files"
  s_memory : NoAttr K A.Session "memory"
  s_durable_tick : NoAttr K A.Session "durable_tick"
  r_memory : NoAttr K A.Recovery "memory"
  r_tick_count : NoAttr K A.Recovery "tick_count"
  r_byte_count : NoAttr K A.Recovery "byte_count"
  o_tick_number : NoAttr K A.OldJournal "tick_number"
  o_entries : NoAttr K A.OldJournal "entries"
  o_invalid_line : NoAttr K A.OldJournal "invalid_line"
  d_calls : NoAttr K A.Reader "calls"
  d_place : NoAttr K A.Reader "place"
/-! small words -/
def New (H : Hp) (xs : List V) (Q : VK) : Prop := ∀ (H' : Hp) (p : Addr), Same H H' → H p = none → H' p = some (.lst xs) → Q (.ref p) H'
def Kept (H : Hp) (v : V) (Q : VK) : Prop := ∀ H' : Hp, Same H H' → Q v H'
theorem same_upd {H : Hp} {p : Addr} {o : HO} (h : H p = none) : Same H (upd H p o) := fun b u e => by
  rw [upd_ne (ne_of_none e h)]; exact e
theorem _root_.L2.Same.up {H0 H : Hp} {p : Addr} {o : HO} (s : Same H0 H) (h : H p = none) : Same H0 (upd H p o) := s.trans (same_upd h)
theorem _root_.L2.Same.wr {H0 H : Hp} {p : Addr} {o : HO} (s : Same H0 H) (h : H0 p = none) : Same H0 (upd H p o) := fun b u e => by
  rw [upd_ne (ne_of_none e h)]; exact s _ _ e
theorem New.fresh {H H' : Hp} {xs : List V} {Q : VK} (n : New H xs Q) (s : Same H H') {p : Addr} (h : H' p = none) : Q (.ref p) (upd H' p (.lst xs)) :=
  n _ p (Same.up s h) (s.free h) upd_same
theorem bl_iff {Q : VK} {H : Hp} {p q : Prop} [Decidable p] [Decidable q] (e : p ↔ q) (h : Q (.bl (decide q)) H) : Q (.bl (decide p)) H := by
  rw [decide_eq_decide.mpr e]; exact h
theorem bl_eq {Q : VK} {H : Hp} {b c : Bool} (e : b = c) (h : Q (.bl c) H) : Q (.bl b) H := by rw [e]; exact h
theorem ifd {p A B : Prop} [Decidable p] (h1 : p → A) (h2 : ¬ p → B) : if decide p = true then A else B := by
  by_cases c : p
  · rw [decide_eq_true c]; exact iteT (h1 c)
  · rw [decide_eq_false c]; exact iteF (h2 c)
theorem ifn {p A B : Prop} [Decidable p] (h1 : ¬ p → A) (h2 : p → B) : if (!decide p) = true then A else B := by
  by_cases c : p
  · rw [decide_eq_true c]; exact iteF (h2 c)
  · rw [decide_eq_false c]; exact iteT (h1 c)
theorem ifb {c : Bool} {A B : Prop} (h1 : c = true → A) (h2 : c = false → B) : if c = true then A else B := by
  cases c
  · exact iteF (h2 rfl)
  · exact iteT (h1 rfl)
theorem vi_get {l : List Int} {i : Nat} {z : Int} (h : l[i]? = some z) : (vi l)[i]? = some (V.int z) := by rw [List.getElem?_map, h]; rfl
theorem vb_get {l : Bytes} {i : Nat} {z : Nat} (h : l[i]? = some z) : (vb l)[i]? = some (V.int (z : Int)) := by rw [List.getElem?_map, h]; rfl
theorem vi_inv {l : List Int} {i : Nat} {y : V} (h : (vi l)[i]? = some y) : ∃ z, l[i]? = some z ∧ y = V.int z := by
  rw [List.getElem?_map] at h
  cases e : l[i]? with
  | none => rw [e] at h; exact nomatch h
  | some z => rw [e] at h; exact ⟨z, rfl, (Option.some.inj h).symm⟩
theorem vb_inv {l : Bytes} {i : Nat} {y : V} (h : (vb l)[i]? = some y) : ∃ z : Nat, l[i]? = some z ∧ y = V.int (z : Int) := by
  rw [List.getElem?_map] at h
  cases e : l[i]? with
  | none => rw [e] at h; exact nomatch h
  | some z => rw [e] at h; exact ⟨z, rfl, (Option.some.inj h).symm⟩
theorem at_vi {l : List Int} {i : Nat} {z : Int} (h : l[i]? = some z) : atI (vi l) (i : Int) = some (V.int z) := atI_nat (vi_get h)
theorem at_vb {l : Bytes} {i : Nat} {z : Nat} (h : l[i]? = some z) : atI (vb l) (i : Int) = some (V.int (z : Int)) := atI_nat (vb_get h)
theorem at_vbI {l : Bytes} {j : Int} (i : Nat) (e : j = (i : Int)) (h : i < l.length) : atI (vb l) j = some (V.int (at_ l i : Nat)) := by rw [e]; exact at_vb (at_get h)
theorem take_more {α : Type} {l : List α} {i : Nat} {x : α} (h : l[i]? = some x) : l.take (i + 1) = l.take i ++ [x] := by
  rw [List.take_add_one, h]; rfl
theorem vi_app (a b : List Int) : vi (a ++ b) = vi a ++ vi b := List.map_append
theorem vb_app (a b : Bytes) : vb (a ++ b) = vb a ++ vb b := List.map_append
theorem vb_len (a : Bytes) : (vb a).length = a.length := List.length_map _
theorem vi_len (a : List Int) : (vi a).length = a.length := List.length_map _
theorem cut_lo (xs : List V) (i : Nat) : cutV xs (some (i : Int)) none = xs.drop i := by
  unfold cutV
  rw [HT.sIx_nat, HT.sIx_none]
  by_cases c : i ≤ xs.length
  · rw [Nat.min_eq_left c]
    exact List.take_of_length_le (by rw [List.length_drop]; exact Nat.le_refl _)
  · rw [Nat.min_eq_right (by omega), List.drop_eq_nil_of_le (Nat.le_refl _), List.drop_eq_nil_of_le (by omega)]; simp
theorem cut_hi (xs : List V) (j : Nat) : cutV xs none (some (j : Int)) = xs.take j := by
  unfold cutV
  rw [HT.sIx_nat, HT.sIx_none, List.drop_zero, Nat.sub_zero]
  by_cases c : j ≤ xs.length
  · rw [Nat.min_eq_left c]
  · rw [Nat.min_eq_right (by omega), List.take_of_length_le (Nat.le_refl _), List.take_of_length_le (by omega)]
theorem cut_both (xs : List V) (i j : Nat) (hi : i ≤ j) (hj : j ≤ xs.length) : cutV xs (some (i : Int)) (some (j : Int)) = (xs.drop i).take (j - i) := by
  unfold cutV
  rw [HT.sIx_nat, HT.sIx_nat, Nat.min_eq_left hj, Nat.min_eq_left (by omega)]
theorem vb_drop (l : Bytes) (i : Nat) : (vb l).drop i = vb (l.drop i) := List.map_drop.symm
theorem vb_take (l : Bytes) (i : Nat) : (vb l).take i = vb (l.take i) := List.map_take.symm
theorem vi_drop (l : List Int) (i : Nat) : (vi l).drop i = vi (l.drop i) := List.map_drop.symm
theorem vi_take (l : List Int) (i : Nat) : (vi l).take i = vi (l.take i) := List.map_take.symm
abbrev LstAt (H : Hp) (a : Addr) (xs : List V) : Prop := H a = some (.lst xs)
theorem _root_.L2.Same.lst {H H' : Hp} {a : Addr} {xs : List V} (s : Same H H') (h : H a = some (.lst xs)) : H' a = some (.lst xs) := s _ _ h
theorem lim_sz {n : Nat} (h : n ≤ 1000000) : n < sizeLine := by rw [sizeLine_eq]; omega
theorem lim_sz' {n : Nat} (h : n ≤ 1000000) : n ≤ sizeLine := by rw [sizeLine_eq]; omega
/-! promises: limits -/
section
def sp_is_key (K : PySem.W.Frag) (A : Ad) : Sp := S1 fun x H Q => ∃ n : Int, x = .int n ∧ Q (.bl (decide (0 ≤ n ∧ n ≤ 63))) H
def sp_is_value (K : PySem.W.Frag) (A : Ad) : Sp := S1 fun x H Q => ∃ n : Int, x = .int n ∧ Q (.bl (decide (-1000000000000000000 ≤ n ∧ n ≤ 1000000000000000000))) H
def sp_is_power (K : PySem.W.Frag) (A : Ad) : Sp := S1 fun x H Q => ∃ n : Int, x = .int n ∧ Q (.bl (decide (-1 ≤ n ∧ n ≤ 100000))) H
def sp_is_count (K : PySem.W.Frag) (A : Ad) : Sp := S1 fun x H Q => ∃ n : Int, x = .int n ∧ Q (.bl (decide (1 ≤ n ∧ n ≤ 100000))) H
def sp_is_file (K : PySem.W.Frag) (A : Ad) : Sp := S1 fun x H Q => ∃ n : Int, x = .int n ∧ Q (.bl (decide (0 ≤ n ∧ n ≤ 5))) H
def sp_is_byte (K : PySem.W.Frag) (A : Ad) : Sp := S1 fun x H Q => ∃ n : Int, x = .int n ∧ Q (.bl (decide (0 ≤ n ∧ n ≤ 255))) H
/-! frames -/
def sp_natural_of (K : PySem.W.Frag) (A : Ad) : Sp := S1 fun x H Q => ∃ n : Int, x = .int n ∧ Q (.int (zigzagEncode n : Nat)) H
def sp_integer_of (K : PySem.W.Frag) (A : Ad) : Sp := S1 fun x H Q => ∃ n : Nat, x = .int (n : Int) ∧ Q (.int (zigzagDecode n)) H
def sp_integer_bytes (K : PySem.W.Frag) (A : Ad) : Sp := S1 fun x H Q => ∃ n : Int, x = .int n ∧ Sm n ∧ New H (vb (encodeInteger n)) Q
def sp_row_bytes (K : PySem.W.Frag) (A : Ad) : Sp := S1 fun x H Q => ∃ (a : Addr) (l : List Int), x = .ref a ∧ H a = some (.lst (vi l)) ∧ (∀ z ∈ l, Sm z) ∧ l.length ≤ 1000 ∧ New H (vb (encodeRow l)) Q
def sp_part_integer (K : PySem.W.Frag) (A : Ad) : Sp := S1 fun x H Q => ∃ (a : Addr) (p : Bytes), x = .ref a ∧ H a = some (.lst (vb p)) ∧ Q (.int (zigzagDecode (pvc p 0))) H
def sp_decoded_row (K : PySem.W.Frag) (A : Ad) : Sp := S1 fun x H Q => ∃ (a : Addr) (p : Bytes), x = .ref a ∧ H a = some (.lst (vb p)) ∧ p.length ≤ 1000000 ∧
  (decL p [] [] = none → Kept H .non Q) ∧ (∀ l, decL p [] [] = some l → New H (vi l) Q)
def sp_checksum (K : PySem.W.Frag) (A : Ad) : Sp := S1 fun x H Q => ∃ (a : Addr) (p : Bytes), x = .ref a ∧ H a = some (.lst (vb p)) ∧ p.length ≤ 1000000 ∧ Kept H (.int (checksum p : Nat)) Q
def sp_two_bytes (K : PySem.W.Frag) (A : Ad) : Sp := S1 fun x H Q => ∃ n : Nat, x = .int (n : Int) ∧ n < 65536 ∧ New H (vb (twoBytes n)) Q
def sp_number_at (K : PySem.W.Frag) (A : Ad) : Sp := S2 fun x y H Q => ∃ (a : Addr) (p : Bytes) (i : Nat), x = .ref a ∧ y = .int (i : Int) ∧ H a = some (.lst (vb p)) ∧ i + 1 < p.length ∧ Q (.int (nAt p i : Nat)) H
def sp_frame (K : PySem.W.Frag) (A : Ad) : Sp := S1 fun x H Q => ∃ (a : Addr) (l : List Int), x = .ref a ∧ H a = some (.lst (vi l)) ∧ (∀ z ∈ l, Sm z) ∧ l.length ≤ 1000 ∧ New H (vb (encodeFrame l)) Q
/-- a frame that was read, as a pair; both its objects are newer than H0 -/
def PairAt (H0 H : Hp) (t : Addr) (x : List Int × Nat) : Prop := ∃ r, H t = some (.tup [.ref r, .int (x.2 : Int)]) ∧ H r = some (.lst (vi x.1)) ∧ H0 t = none ∧ H0 r = none
theorem PairAt.same {H0 H H' : Hp} {t : Addr} {x : List Int × Nat} (h : PairAt H0 H t x) (s : Same H H') : PairAt H0 H' t x := by
  obtain ⟨r, h1, h2, h3⟩ := h
  exact ⟨r, s _ _ h1, s _ _ h2, h3⟩
def Dom (H H' : Hp) : Prop := ∀ b, H' b = none → H b = none
theorem _root_.L2.Same.dom {H H' : Hp} (s : Same H H') : Dom H H' := fun b h => s.free h
theorem Dom.trans {H H1 H2 : Hp} (a : Dom H H1) (b : Dom H1 H2) : Dom H H2 := fun c h => a c (b c h)
theorem Dom.up {H H1 : Hp} {p : Addr} {o : HO} (a : Dom H H1) : Dom H (upd H1 p o) := fun c h => a c (by
  by_cases e : c = p
  · rw [e, upd_same] at h; exact nomatch h
  · rw [upd_ne e] at h; exact h)
theorem PairAt.older {H0 H1 H : Hp} {t : Addr} {x : List Int × Nat} (h : PairAt H1 H t x) (s : Dom H0 H1) : PairAt H0 H t x := by
  obtain ⟨r, h1, h2, h3, h4⟩ := h
  exact ⟨r, h1, h2, s _ h3, s _ h4⟩
theorem PairAt.wr {H0 H : Hp} {t p : Addr} {x : List Int × Nat} {o u : HO} (h : PairAt H0 H t x) (hp : H0 p = some u) : PairAt H0 (upd H p o) t x := by
  obtain ⟨r, h1, h2, h3, h4⟩ := h
  exact ⟨r, by rw [upd_ne (ne_of_none hp h3).symm]; exact h1, by rw [upd_ne (ne_of_none hp h4).symm]; exact h2, h3, h4⟩
def OptV {α : Type} (f : V → α → Prop) (v : V) : Option α → Prop
  | none => v = .non
  | some x => f v x
def FoundAt (H0 H : Hp) (v : V) (o : Option (List Int × Nat)) : Prop := OptV (fun v x => ∃ t, v = .ref t ∧ PairAt H0 H t x) v o
theorem FoundAt.older {H0 H1 H : Hp} {v : V} {o : Option (List Int × Nat)} (h : FoundAt H1 H v o) (s : Dom H0 H1) : FoundAt H0 H v o := by
  cases o with
  | none => exact h
  | some x =>
    obtain ⟨t, e, p⟩ := h
    exact ⟨t, e, p.older s⟩
def sp_frame_at (K : PySem.W.Frag) (A : Ad) : Sp := S2 fun x y H Q => ∃ (a : Addr) (d : Bytes) (s : Nat), x = .ref a ∧ y = .int (s : Int) ∧ H a = some (.lst (vb d)) ∧ Byt d ∧ d.length ≤ 1000000 ∧ s ≤ d.length ∧
  ∀ (H' : Hp) (v : V), Same H H' → FoundAt H H' v (frameAt d s) → Q v H'
/-- a list of such pairs -/
def PairsAt (H0 H : Hp) (p : Addr) (fs : List (List Int × Nat)) : Prop := ∃ ts : List Addr, H p = some (.lst (ts.map V.ref)) ∧ ts.length = fs.length ∧ ∀ (i : Nat) (t : Addr) (f : List Int × Nat), ts[i]? = some t → fs[i]? = some f → PairAt H0 H t f
def sp_valid_frames (K : PySem.W.Frag) (A : Ad) : Sp := S1 fun x H Q => ∃ (a : Addr) (d : Bytes), x = .ref a ∧ H a = some (.lst (vb d)) ∧ Byt d ∧ d.length ≤ 1000000 ∧
  ∀ (H' : Hp) (p : Addr), Same H H' → H p = none → PairsAt H H' p (vframes d) → Q (.ref p) H'
def onlyRow (d : Bytes) : Option (List Int) := match decodeFrame d with
  | some (l, []) => some l
  | _ => none
def RowAt (H : Hp) (v : V) (o : Option (List Int)) : Prop := OptV (fun v l => ∃ r, v = .ref r ∧ H r = some (.lst (vi l))) v o
def sp_only_row (K : PySem.W.Frag) (A : Ad) : Sp := S1 fun x H Q => ∃ (a : Addr) (d : Bytes), x = .ref a ∧ H a = some (.lst (vb d)) ∧ Byt d ∧ d.length ≤ 1000000 ∧
  ∀ (H' : Hp) (v : V), Same H H' → RowAt H' v (onlyRow d) → Q v H'
end
end TS
namespace TS
open PySem PySem.Spec PyProof.Rows L2 Vbwsai
theorem drop_one {α : Type} {l : List α} {i : Nat} {z : α} (h : l[i]? = some z) : l.drop i = z :: l.drop (i + 1) := by
  obtain ⟨hi, e⟩ := List.getElem?_eq_some_iff.mp h
  rw [← e]; exact List.drop_eq_getElem_cons hi
theorem lt_of_get {α : Type} {l : List α} {i : Nat} {z : α} (h : l[i]? = some z) : i < l.length := (List.getElem?_eq_some_iff.mp h).1
theorem cut_bytes (d : Bytes) (i j : Nat) (hi : i ≤ j) (hj : j ≤ d.length) : cutV (vb d) (some (i : Int)) (some (j : Int)) = vb ((d.drop i).take (j - i)) := by
  rw [cut_both _ _ _ hi (by rw [vb_len]; exact hj), vb_drop, vb_take]
theorem frames_fuel {d : Bytes} (hb : Byt d) : ∀ (f f' s : Nat), s ≤ d.length → d.length < s + f → d.length < s + f' → framesFrom f d s = framesFrom f' d s
  | 0, _, s, h, h1, _ => by omega
  | _, 0, s, h, _, h2 => by omega
  | f + 1, f' + 1, s, h, h1, h2 => by
    cases e : frameAt d s with
    | none => rw [frames_none e, frames_none e]
    | some x =>
      obtain ⟨l, e'⟩ := x
      obtain ⟨_, g1, g2, _, _⟩ := frameAt_some hb h e
      rw [frames_some e, frames_some e, frames_fuel hb f f' e' g2 (by omega) (by omega)]
theorem onlyRow_eq {d : Bytes} (hb : Byt d) : onlyRow d = match frameAt d 0 with
    | none => none
    | some (l, e) => if e = d.length then some l else none := by
  cases h : frameAt d 0 with
  | none =>
    have := frameAt_none h
    rw [List.drop_zero] at this
    unfold onlyRow; rw [this]
  | some x =>
    obtain ⟨l, e⟩ := x
    obtain ⟨h0, h1, h2, _, _⟩ := frameAt_some hb (Nat.zero_le _) h
    rw [List.drop_zero] at h0
    unfold onlyRow; rw [h0]
    show (match (some (l, d.drop e) : Option (List Int × Bytes)) with | some (l, []) => some l | _ => none) = if e = d.length then some l else none
    by_cases c : e = d.length
    · rw [if_pos c, c, List.drop_length]
    · rw [if_neg c]
      cases q : d.drop e with
      | nil => have := congrArg List.length q; rw [List.length_drop] at this; simp at this; omega
      | cons y r => rfl
theorem onlyRow_sm {d : Bytes} {l : List Int} (hb : Byt d) (h : onlyRow d = some l) : (∀ z ∈ l, Sm z) ∧ l.length ≤ d.length := by
  rw [onlyRow_eq hb] at h
  cases e : frameAt d 0 with
  | none => rw [e] at h; exact nomatch h
  | some x =>
    obtain ⟨m, e'⟩ := x
    obtain ⟨_, _, _, h3, h4⟩ := frameAt_some hb (Nat.zero_le _) e
    rw [e] at h
    have h' : (if e' = d.length then some m else none) = some l := h
    split at h'
    · obtain rfl := Option.some.inj h'
      exact ⟨h3, h4⟩
    · exact nomatch h'
end TS
namespace TS
open PySem PySem.Spec PyProof.Rows L2 Vbwsai
/-! ranges with a step -/
theorem rg_up {i : Int} {L : Nat} {c : Int} {n : Nat} (hc : 0 < c ∧ c < 100) (hi : 0 ≤ i ∧ i < 100) (hL : L ≤ 1000000) (hn : Builtin.Range.rangeSize i (L : Int) c = n) (hn2 : n ≤ L) : RgC i (L : Int) c n := by
  refine ⟨by omega, by omega, ?_, hn⟩
  unfold Builtin.Range.small
  rw [hn]
  simp only [Builtin.Range.rangeFitsLong, Bool.and_eq_true, Bool.or_eq_true, decide_eq_true_eq, beq_iff_eq, show c > 0 from hc.1, if_true]
  omega
theorem rg3 {L k : Nat} (h : L = 3 * k) (hL : L ≤ 1000000) : RgC 0 (L : Int) 3 k := by
  refine rg_up (by decide) (by decide) hL ?_ (by omega)
  unfold Builtin.Range.rangeSize
  rw [if_pos (by decide)]
  split <;> omega
theorem rg2 {L k : Nat} (h : L = 2 * k + 1) (hL : L ≤ 1000000) : RgC 1 (L : Int) 2 k := by
  refine rg_up (by decide) (by decide) hL ?_ (by omega)
  unfold Builtin.Range.rangeSize
  rw [if_pos (by decide)]
  split <;> omega
/-! a dict that holds contents -/
def kE (x : Nat × Int) : Key × V := (Sum.inl (x.1 : Int), V.int x.2)
def Ent (kvs : List (Key × V)) (s : Store) : Prop := StOk s ∧ ∃ es : Store, kvs = es.map kE ∧ es.Perm s
theorem key_nat (a b : Nat) : decide ((Sum.inl (a : Int) : Key) = Sum.inl (b : Int)) = (a == b) := by
  by_cases e : a = b
  · subst e; simp
  · have h : ¬ (Sum.inl (a : Int) : Key) = Sum.inl (b : Int) := fun q => e (by have := Sum.inl.inj q; omega)
    rw [decide_eq_false h]
    exact (beq_eq_false_iff_ne.mpr e).symm
theorem find_kE (es : Store) (k : Nat) : valV (es.map kE) (Sum.inl (k : Int)) = ((es.find? fun x => x.1 == k).map (·.2)).map V.int := by
  induction es with
  | nil => rfl
  | cons x r ih =>
    by_cases c : x.1 = k
    · rw [List.map_cons, valV_pos (p := kE x) (by show Sum.inl (x.1 : Int) = Sum.inl (k : Int); rw [c]), List.find?_cons_of_pos (by simpa using c)]
      rfl
    · rw [List.map_cons, valV_neg (p := kE x) (fun z => c (by have := Sum.inl.inj z; omega)), List.find?_cons_of_neg (by simpa using c), ih]
theorem Ent.look {kvs : List (Key × V)} {s : Store} (h : Ent kvs s) (k : Nat) : valV kvs (Sum.inl (k : Int)) = (lookupKey k s).map V.int := by
  obtain ⟨hs, es, rfl, p⟩ := h
  rw [find_kE, find_perm hs p]
theorem Ent.len {kvs : List (Key × V)} {s : Store} (h : Ent kvs s) : kvs.length = s.length ∧ s.length ≤ 64 := by
  obtain ⟨hs, es, rfl, p⟩ := h
  rw [List.length_map, p.length_eq]
  exact ⟨rfl, hs.len⟩
theorem Ent.nil : Ent [] [] := ⟨StOk.nil, [], rfl, List.Perm.refl _⟩
theorem Ent.drop {kvs : List (Key × V)} {s : Store} (h : Ent kvs s) (k : Nat) : Ent (dropK kvs (Sum.inl (k : Int))) (removeKey k s) := by
  obtain ⟨hs, es, rfl, p⟩ := h
  refine ⟨hs.remove k, es.filter (fun x => x.1 != k), ?_, p.filter _⟩
  unfold dropK
  rw [List.filter_map]
  refine congrArg (List.map kE) (List.filter_congr fun x _ => ?_)
  show decide ((Sum.inl (x.1 : Int) : Key) ≠ Sum.inl (k : Int)) = (x.1 != k)
  have e : decide ((Sum.inl (x.1 : Int) : Key) ≠ Sum.inl (k : Int)) = !decide ((Sum.inl (x.1 : Int) : Key) = Sum.inl (k : Int)) := by simp
  rw [e, key_nat]; rfl
theorem drop_none {kvs : List (Key × V)} {s : Store} (h : Ent kvs s) {k : Nat} (hn : lookupKey k s = none) : removeKey k s = s := by
  obtain ⟨hs, es, rfl, p⟩ := h
  refine List.filter_eq_self.mpr fun x hx => ?_
  by_cases c : x.1 = k
  · exfalso
    have e := (find_iff (k := k) (v := x.2) hs.nodup).mpr (by rw [← c]; exact hx)
    unfold lookupKey at hn
    rw [hn] at e
    exact nomatch e
  · simpa using c
theorem put_perm {k : Nat} {v : Int} : ∀ {es : Store}, (es.map (·.1)).Nodup → (if (es.any fun x => x.1 == k) = true then es.map (fun x => if x.1 = k then (k, v) else x) else es ++ [(k, v)]).Perm ((k, v) :: es.filter fun x => x.1 != k)
  | [], _ => List.Perm.refl _
  | x :: r, h => by
    have h2 : x.1 ∉ r.map (·.1) ∧ (r.map (·.1)).Nodup := List.nodup_cons.mp h
    by_cases c : x.1 = k
    · have hr : ∀ y ∈ r, y.1 ≠ k := fun y hy z => h2.1 (by rw [c, ← z]; exact List.mem_map.mpr ⟨y, hy, rfl⟩)
      have e1 : r.map (fun x => if x.1 = k then (k, v) else x) = r := by
        have := List.map_congr_left (f := fun x => if x.1 = k then (k, v) else x) (g := id) (l := r) fun y hy => if_neg (hr y hy)
        rw [this, List.map_id]
      have e2 : ((x :: r).filter fun y => y.1 != k) = r := by
        rw [List.filter_cons_of_neg (by simp [c])]
        exact List.filter_eq_self.mpr fun y hy => by simpa using hr y hy
      rw [if_pos (by simp [c]), e2, List.map_cons, if_pos c, e1]
    · have e2 : ((x :: r).filter fun y => y.1 != k) = x :: r.filter fun y => y.1 != k := List.filter_cons_of_pos (by simpa using c)
      have e3 : ((x :: r).any fun y => y.1 == k) = r.any fun y => y.1 == k := by
        rw [List.any_cons]
        have : (x.1 == k) = false := by simpa using c
        rw [this, Bool.false_or]
      have ih := put_perm (k := k) (v := v) h2.2
      rw [e2, e3]
      refine List.Perm.trans ?_ (List.Perm.swap _ _ _)
      refine List.Perm.trans ?_ (ih.cons x)
      split
      · rw [List.map_cons, if_neg c]
      · exact List.Perm.refl _
theorem Ent.put {kvs : List (Key × V)} {s : Store} (h : Ent kvs s) {k : Nat} {v : Int} (hk : k < 64) (hv : -1000000000000000000 ≤ v ∧ v ≤ 1000000000000000000) :
    Ent (putK kvs (Sum.inl (k : Int)) (V.int v)) (insertKey k v s) := by
  obtain ⟨hs, es, rfl, p⟩ := h
  have hn : (es.map (·.1)).Nodup := (p.map _).nodup_iff.mpr hs.nodup
  refine ⟨hs.insert hk hv, _, ?_, ((put_perm (k := k) (v := v) hn).trans ((p.filter _).cons _)).trans (insert_perm hs).symm⟩
  unfold putK
  have e1 : ((es.map kE).any fun kv => decide (kv.1 = Sum.inl (k : Int))) = es.any fun x => x.1 == k := by
    rw [List.any_map]
    exact congrArg (fun f => es.any f) (funext fun x => key_nat x.1 k)
  rw [e1]
  split
  · rw [List.map_map, List.map_map]
    refine List.map_congr_left fun x _ => ?_
    show (if (kE x).1 = Sum.inl (k : Int) then ((kE x).1, V.int v) else kE x) = kE (if x.1 = k then (k, v) else x)
    by_cases c : x.1 = k
    · rw [if_pos c, if_pos (show (kE x).1 = Sum.inl (k : Int) from congrArg Sum.inl (by rw [c]))]
      show (Sum.inl (x.1 : Int), V.int v) = (Sum.inl (k : Int), V.int v)
      rw [c]
    · rw [if_neg c, if_neg (show ¬ (kE x).1 = Sum.inl (k : Int) from fun z => c (by have := Sum.inl.inj z; omega))]
  · rw [List.map_append]; rfl
theorem look_mem {s : Store} {i : Nat} {x : Nat × Int} (h : StOk s) (e : s[i]? = some x) : lookupKey x.1 s = some x.2 := by
  unfold lookupKey
  rw [find_iff h.nodup]
  exact List.mem_of_getElem? e
theorem put_last {k : Nat} {v : Int} {es : Store} (h : ∀ x ∈ es, x.1 < k) : putK (es.map kE) (Sum.inl (k : Int)) (V.int v) = (es ++ [(k, v)]).map kE := by
  unfold putK
  have e1 : ((es.map kE).any fun kv => decide (kv.1 = Sum.inl (k : Int))) = false := by
    rw [List.any_eq_false]
    intro y hy
    obtain ⟨x, hx, rfl⟩ := List.mem_map.mp hy
    have h1 := h x hx
    show ¬ decide ((kE x).1 = Sum.inl (k : Int)) = true
    rw [decide_eq_true_iff]
    intro z
    have := Sum.inl.inj z
    omega
  rw [e1, if_neg Bool.false_ne_true, List.map_append]
  rfl
theorem at_viI {l : List Int} {j : Int} {z : Int} (i : Nat) (e : j = (i : Int)) (h : l[i]? = some z) : atI (vi l) j = some (V.int z) := by rw [e]; exact at_vi h
theorem ifnb {c : Bool} {A B : Prop} (h1 : c = false → A) (h2 : c = true → B) : if (!c) = true then A else B := by
  cases c
  · exact iteT (h1 rfl)
  · exact iteF (h2 rfl)
def NewD (H : Hp) (s : Store) (Q : VK) : Prop := ∀ (H' : Hp) (p : Addr) (kvs : List (Key × V)), Same H H' → H p = none → H' p = some (.dK kvs) → Ent kvs s → Q (.ref p) H'
def commitOf : List Int → Option (Nat × Nat)
  | [n, s] => if n < 1 ∨ s < 0 ∨ 1 < s then none else some (n.toNat, s.toNat)
  | _ => none
theorem readCommit_eq (d : Bytes) : readCommit d = (onlyRow d).bind commitOf := by
  unfold readCommit onlyRow
  cases decodeFrame d with
  | none => rfl
  | some x =>
    obtain ⟨l, r⟩ := x
    cases r with
    | cons b r => 
      match l with
      | [] => rfl
      | [_] => rfl
      | [_, _] => rfl
      | _ :: _ :: _ :: _ => rfl
    | nil =>
      match l with
      | [] => rfl
      | [_] => rfl
      | [_, _] => rfl
      | _ :: _ :: _ :: _ => rfl
theorem readCheckpoint_eq (d : Bytes) : readCheckpoint d = (onlyRow d).bind parseCheckpointRow := by
  unfold readCheckpoint onlyRow
  cases decodeFrame d with
  | none => rfl
  | some x =>
    obtain ⟨l, r⟩ := x
    cases r <;> rfl
/-! rows -/
def sp_is_change (K : PySem.W.Frag) (A : Ad) : Sp := S3 fun x y z H Q => ∃ k f v : Int, x = .int k ∧ y = .int f ∧ z = .int v ∧ Q (.bl (chOk k f v)) H
def sp_are_changes (K : PySem.W.Frag) (A : Ad) : Sp := S1 fun x H Q => ∃ (a : Addr) (l : List Int), x = .ref a ∧ H a = some (.lst (vi l)) ∧ l.length ≤ 1000000 ∧ Q (.bl (parseChanges l).isSome) H
def sp_changed_entries (K : PySem.W.Frag) (A : Ad) : Sp := S2 fun x y H Q => ∃ (e a : Addr) (kvs : List (Key × V)) (s : Store) (l : List Int) (cs : List Change), x = .ref e ∧ y = .ref a ∧ H e = some (.dK kvs) ∧ Ent kvs s ∧ H a = some (.lst (vi l)) ∧ l.length ≤ 1000000 ∧
  parseChanges l = some cs ∧ NewD H (applyChanges s cs) Q
def sp_tick_row (K : PySem.W.Frag) (A : Ad) : Sp := S2 fun x y H Q => ∃ (t : Nat) (a : Addr) (l : List Int) (cs : List Change), x = .int (t : Int) ∧ y = .ref a ∧ H a = some (.lst (vi l)) ∧ l.length ≤ 1000000 ∧ parseChanges l = some cs ∧ New H (vi (tickRow t cs)) Q
def sp_is_tick_row (K : PySem.W.Frag) (A : Ad) : Sp := S1 fun x H Q => ∃ (a : Addr) (l : List Int), x = .ref a ∧ H a = some (.lst (vi l)) ∧ l.length ≤ 1000000 ∧ Kept H (.bl (parseTickRow l).isSome) Q
def sp_entry_numbers (K : PySem.W.Frag) (A : Ad) : Sp := S1 fun x H Q => ∃ (e : Addr) (kvs : List (Key × V)) (s : Store), x = .ref e ∧ H e = some (.dK kvs) ∧ Ent kvs s ∧ New H (vi (flatS s)) Q
def sp_checkpoint_row (K : PySem.W.Frag) (A : Ad) : Sp := S2 fun x y H Q => ∃ (t : Nat) (e : Addr) (kvs : List (Key × V)) (s : Store), x = .int (t : Int) ∧ y = .ref e ∧ H e = some (.dK kvs) ∧ Ent kvs s ∧ New H (vi (checkpointRow t s)) Q
def sp_is_checkpoint_row (K : PySem.W.Frag) (A : Ad) : Sp := S1 fun x H Q => ∃ (a : Addr) (l : List Int), x = .ref a ∧ H a = some (.lst (vi l)) ∧ l.length ≤ 1000000 ∧ Q (.bl (parseCheckpointRow l).isSome) H
def sp_checkpoint_entries (K : PySem.W.Frag) (A : Ad) : Sp := S1 fun x H Q => ∃ (a : Addr) (l : List Int) (t : Nat) (s : Store), x = .ref a ∧ H a = some (.lst (vi l)) ∧ l.length ≤ 1000000 ∧ parseCheckpointRow l = some (t, s) ∧ NewD H s Q
def sp_read_checkpoint (K : PySem.W.Frag) (A : Ad) : Sp := S1 fun x H Q => ∃ (a : Addr) (d : Bytes), x = .ref a ∧ H a = some (.lst (vb d)) ∧ Byt d ∧ d.length ≤ 1000000 ∧
  ∀ (H' : Hp) (v : V), Same H H' → OptV (fun v x => ∃ (r : Addr) (l : List Int), v = .ref r ∧ H' r = some (.lst (vi l)) ∧ parseCheckpointRow l = some x ∧ l.length ≤ 1000000 ∧ ∀ z ∈ l, Sm z) v (readCheckpoint d) → Q v H'
def sp_is_commit_row (K : PySem.W.Frag) (A : Ad) : Sp := S1 fun x H Q => ∃ (a : Addr) (l : List Int), x = .ref a ∧ H a = some (.lst (vi l)) ∧ Q (.bl (commitOf l).isSome) H
def CommitAt (H : Hp) (v : V) (x : Nat × Nat) : Prop := ∃ r : Addr, v = .ref r ∧ H r = some (.lst [.int (x.1 : Int), .int (x.2 : Int)]) ∧ Sm x.1 ∧ x.2 ≤ 1
def sp_read_commit (K : PySem.W.Frag) (A : Ad) : Sp := S1 fun x H Q => ∃ (a : Addr) (d : Bytes), x = .ref a ∧ H a = some (.lst (vb d)) ∧ Byt d ∧ d.length ≤ 1000000 ∧
  ∀ (H' : Hp) (v : V), Same H H' → OptV (CommitAt H') v (readCommit d) → Q v H'
end TS
namespace TS
open PySem PySem.Spec PyProof.Rows L2 Vbwsai
/-! the old text format: plain Lean -/
theorem split_eq (sep c : Nat) (r acc : Bytes) : splitAtByte sep acc (c :: r) = if c = sep then acc :: splitAtByte sep [] r else splitAtByte sep (acc ++ [c]) r := rfl
theorem split_nil (sep : Nat) (acc : Bytes) : splitAtByte sep acc [] = [acc] := rfl
theorem split_ne (sep : Nat) : ∀ (l acc : Bytes), splitAtByte sep acc l ≠ []
  | [], acc => by rw [split_nil]; simp
  | c :: r, acc => by
    rw [split_eq]
    split
    · simp
    · exact split_ne sep r _
theorem split_len (sep : Nat) : ∀ (l acc : Bytes), (splitAtByte sep acc l).length ≤ l.length + 1
  | [], acc => by rw [split_nil]; simp
  | c :: r, acc => by
    rw [split_eq]
    split
    · have := split_len sep r []; simp; omega
    · have := split_len sep r (acc ++ [c]); simp; omega
theorem split_mem (sep : Nat) : ∀ (l acc : Bytes) (x : Bytes), x ∈ splitAtByte sep acc l → Byt l → Byt acc → Byt x ∧ x.length ≤ acc.length + l.length
  | [], acc, x, h, hl, ha => by
    rw [split_nil] at h
    obtain rfl := List.mem_singleton.mp h
    exact ⟨ha, by simp⟩
  | c :: r, acc, x, h, hl, ha => by
    rw [split_eq] at h
    split at h
    · rcases List.mem_cons.mp h with e | e
      · subst e; exact ⟨ha, by simp⟩
      · obtain ⟨h1, h2⟩ := split_mem sep r [] x e hl.tail Byt.nil
        exact ⟨h1, by simp at h2 ⊢; omega⟩
    · obtain ⟨h1, h2⟩ := split_mem sep r (acc ++ [c]) x h hl.tail (ha.app (Byt.cons hl.head Byt.nil))
      exact ⟨h1, by simp at h2 ⊢; omega⟩
def keyOf (t : Bytes) : Option Nat := match parseNatural t with
  | some k => if k < 64 then some k else none
  | none => none
def valOf (t : Bytes) : Option Int := match parseInteger t with
  | some v => if -1000000000000000000 ≤ v ∧ v ≤ 1000000000000000000 then some v else none
  | none => none
def lineOf (t : Bytes) (n : Nat) : Option (List Change) := match parseTickLine t with
  | some (m, cs) => if m = n ∧ cs.length ≤ 16 then some cs else none
  | none => none
theorem parseChange_eq (t : Bytes) : parseChange t = if t.getLast? = some 33 then (keyOf t.dropLast).map (fun k => (k, none)) else
    (match splitAtByte 61 [] t with
      | [a, b] => (match keyOf a, valOf b with
        | some k, some v => some (k, some v)
        | _, _ => none)
      | _ => none) := by
  have un : parseChange t = (match t.getLast? with
    | some 33 => (match parseNatural t.dropLast with
      | some k => if k < keyCount then some (k, none) else none
      | none => none)
    | _ => (match splitAtByte 61 [] t with
      | [a, b] => (match parseNatural a, parseInteger b with
        | some k, some v => if k < keyCount ∧ -maxValue ≤ v ∧ v ≤ maxValue then some (k, some v) else none
        | _, _ => none)
      | _ => none)) := rfl
  rw [un]
  have other : (match splitAtByte 61 [] t with
      | [a, b] => (match parseNatural a, parseInteger b with
        | some k, some v => if k < keyCount ∧ -maxValue ≤ v ∧ v ≤ maxValue then some (k, some v) else none
        | _, _ => none)
      | _ => (none : Option Change)) = (match splitAtByte 61 [] t with
      | [a, b] => (match keyOf a, valOf b with
        | some k, some v => some (k, some v)
        | _, _ => none)
      | _ => none) := by
    match splitAtByte 61 [] t with
    | [] => rfl
    | [_] => rfl
    | _ :: _ :: _ :: _ => rfl
    | [a, b] =>
      show (match parseNatural a, parseInteger b with
        | some k, some v => if k < 64 ∧ -1000000000000000000 ≤ v ∧ v ≤ 1000000000000000000 then some (k, some v) else none
        | _, _ => (none : Option Change)) = (match keyOf a, valOf b with
        | some k, some v => some (k, some v)
        | _, _ => none)
      unfold keyOf valOf
      cases parseNatural a with
      | none => rfl
      | some k =>
        cases parseInteger b with
        | none =>
          by_cases c : k < 64
          · simp only [if_pos c]
          · simp only [if_neg c]
        | some v =>
          by_cases c : k < 64
          · by_cases d : -1000000000000000000 ≤ v ∧ v ≤ 1000000000000000000
            · have h1 : k < 64 ∧ -1000000000000000000 ≤ v ∧ v ≤ 1000000000000000000 := ⟨c, d⟩
              dsimp only
              rw [if_pos c, if_pos d, if_pos h1]
            · have h1 : ¬ (k < 64 ∧ -1000000000000000000 ≤ v ∧ v ≤ 1000000000000000000) := fun z => d z.2
              dsimp only
              rw [if_pos c, if_neg d, if_neg h1]
          · have h1 : ¬ (k < 64 ∧ -1000000000000000000 ≤ v ∧ v ≤ 1000000000000000000) := fun z => c z.1
            dsimp only
            rw [if_neg c, if_neg h1]
  by_cases c : t.getLast? = some 33
  · rw [if_pos c, c]
    show (match parseNatural t.dropLast with
      | some k => if k < 64 then some (k, none) else none
      | none => (none : Option Change)) = _
    unfold keyOf
    cases parseNatural t.dropLast with
    | none => rfl
    | some k =>
      by_cases d : k < 64
      · simp only [if_pos d]; rfl
      · simp only [if_neg d]; rfl
  · rw [if_neg c, ← other]
    split
    · rename_i h; exact absurd h c
    · rfl
theorem parseChange_ok {t : Bytes} {c : Change} (h : parseChange t = some c) : ChOk c := by
  rw [parseChange_eq] at h
  split at h
  · cases e : keyOf t.dropLast with
    | none => rw [e] at h; exact nomatch h
    | some k =>
      rw [e] at h
      obtain rfl := (Option.some.inj h).symm
      refine ⟨?_, fun v hv => nomatch hv⟩
      unfold keyOf at e
      split at e
      · split at e
        · rename_i hk; cases e; exact hk
        · exact nomatch e
      · exact nomatch e
  · split at h
    · rename_i a b _
      cases e : keyOf a with
      | none => rw [e] at h; exact nomatch h
      | some k =>
        cases e2 : valOf b with
        | none => rw [e, e2] at h; exact nomatch h
        | some v =>
          rw [e, e2] at h
          obtain rfl := (Option.some.inj h).symm
          refine ⟨?_, fun w hw => ?_⟩
          · unfold keyOf at e
            split at e
            · split at e
              · rename_i hk; cases e; exact hk
              · exact nomatch e
            · exact nomatch e
          · have hw' : some v = some w := hw
            cases hw'
            unfold valOf at e2
            split at e2
            · split at e2
              · rename_i hk; cases e2; exact hk
              · exact nomatch e2
            · exact nomatch e2
    · exact nomatch h
theorem parse_flatC : ∀ {cs : List Change}, (∀ c ∈ cs, ChOk c) → parseChanges (flatC cs) = some cs
  | [], _ => rfl
  | (k, o) :: cs, h => by
    obtain ⟨h1, h2⟩ := h (k, o) List.mem_cons_self
    have h1' : k < 64 := h1
    have ih := parse_flatC (cs := cs) fun c hc => h c (List.mem_cons_of_mem _ hc)
    cases o with
    | none =>
      have e : flatC ((k, none) :: cs) = (k : Int) :: 0 :: 0 :: flatC cs := rfl
      rw [e, parse3, if_pos (by unfold chOk; simp; omega), ih]
      show some (((k : Int).toNat, if (0 : Int) = 1 then some 0 else none) :: cs) = _
      rw [if_neg (by decide)]
      rfl
    | some v =>
      have e : flatC ((k, some v) :: cs) = (k : Int) :: 1 :: v :: flatC cs := rfl
      have h3 := h2 v rfl
      rw [e, parse3, if_pos (by unfold chOk; simp; omega), ih]
      show some (((k : Int).toNat, if (1 : Int) = 1 then some v else none) :: cs) = _
      rw [if_pos rfl]
      rfl
theorem tokens_cons (t : Bytes) (r : List Bytes) : parseChangeTokens (t :: r) = (match parseChange t, parseChangeTokens r with
    | some c, some l => some (c :: l)
    | _, _ => none) := rfl
theorem tokens_ok : ∀ {ts : List Bytes} {cs : List Change}, parseChangeTokens ts = some cs → cs.length = ts.length ∧ ∀ c ∈ cs, ChOk c
  | [], cs, h => by
    have h' : some [] = some cs := h
    cases h'; exact ⟨rfl, fun c hc => by simp at hc⟩
  | t :: r, cs, h => by
    rw [tokens_cons] at h
    cases e : parseChange t with
    | none => rw [e] at h; exact nomatch h
    | some c =>
      cases e2 : parseChangeTokens r with
      | none => rw [e, e2] at h; exact nomatch h
      | some l =>
        rw [e, e2] at h
        obtain rfl := (Option.some.inj h).symm
        obtain ⟨h1, h2⟩ := tokens_ok e2
        refine ⟨by simp [h1], fun d hd => ?_⟩
        rcases List.mem_cons.mp hd with q | q
        · rw [q]; exact parseChange_ok e
        · exact h2 d q
theorem lineOf_eq {t a : Bytes} {r : List Bytes} (n : Nat) (h : splitAtByte 32 [] t = a :: r) : lineOf t n = if parseNatural a = some n ∧ r.length ≤ 16 then parseChangeTokens r else none := by
  unfold lineOf parseTickLine
  rw [h]
  dsimp only
  cases e : parseNatural a with
  | none => simp
  | some m =>
    cases e2 : parseChangeTokens r with
    | none => simp
    | some l =>
      obtain ⟨h1, _⟩ := tokens_ok e2
      by_cases c : m = n
      · subst c
        by_cases d : r.length ≤ 16
        · simp [d, h1]
        · simp [d, h1]
      · simp [c]
theorem lineOf_ok {t : Bytes} {n : Nat} {cs : List Change} (h : lineOf t n = some cs) : (∀ c ∈ cs, ChOk c) ∧ cs.length ≤ 16 := by
  cases e : splitAtByte 32 [] t with
  | nil => exact absurd e (split_ne _ _ _)
  | cons a r =>
    rw [lineOf_eq n e] at h
    split at h
    · rename_i c
      obtain ⟨h1, h2⟩ := tokens_ok h
      exact ⟨h2, by omega⟩
    · exact nomatch h
theorem import_cons (t : Nat) (s : Store) (x : Bytes) (r : List Bytes) (h : t + 1 ≤ 1000000000000000000) : importLines t s (x :: r) = match lineOf x (t + 1) with
    | none => .error (t + 1)
    | some cs => importLines (t + 1) (applyChanges s cs) r := by
  have un : importLines t s (x :: r) = (match parseTickLine x with
    | none => .error (t + 1)
    | some (n, cs) => if n ≠ t + 1 ∨ maxChanges < cs.length ∨ maxValue < (n : Int) then .error (t + 1) else importLines n (applyChanges s cs) r) := rfl
  rw [un]
  unfold lineOf
  cases parseTickLine x with
  | none => rfl
  | some y =>
    obtain ⟨n, cs⟩ := y
    show (if n ≠ t + 1 ∨ 16 < cs.length ∨ (1000000000000000000 : Int) < (n : Int) then Except.error (t + 1) else importLines n (applyChanges s cs) r) = (match (if n = t + 1 ∧ cs.length ≤ 16 then some cs else none) with
      | none => Except.error (t + 1)
      | some cs => importLines (t + 1) (applyChanges s cs) r)
    by_cases c : n = t + 1 ∧ cs.length ≤ 16
    · rw [if_pos c, if_neg (by omega), c.1]
    · rw [if_neg c, if_pos (by omega)]
/-! promises -/
def onV : Option Nat → V
  | none => .non
  | some n => .int (n : Int)
def oiV : Option Int → V
  | none => .non
  | some n => .int n
def ListsAt (H : Hp) (p : Addr) (xs : List Bytes) : Prop := ∃ ps : List (Addr × Bytes), H p = some (.lst (ps.map fun y => V.ref y.1)) ∧ ps.map (·.2) = xs ∧ ∀ y ∈ ps, H y.1 = some (.lst (vb y.2))
theorem refs_inv {ps : List (Addr × Bytes)} {i : Nat} {v : V} (h : (ps.map fun y => V.ref y.1)[i]? = some v) : ∃ y, ps[i]? = some y ∧ v = V.ref y.1 := by
  rw [List.getElem?_map] at h
  cases e : ps[i]? with
  | none => rw [e] at h; exact nomatch h
  | some y => rw [e] at h; exact ⟨y, rfl, (Option.some.inj h).symm⟩
theorem parseNatural_eq (t : Bytes) : parseNatural t = if t = [] ∨ 19 < t.length ∨ t.all isDigit = false ∨ (1 < t.length ∧ t.head? = some 48) then none else some (t.foldl (fun n c => 10 * n + (c - 48)) 0) := rfl
theorem eqv_one (a b : Int) : PyData.eqv (.list [.int a]) (.list [.int b]) = decide (a = b) := by
  show ((a == b) && true) = _
  rw [Bool.and_true]
  by_cases c : a = b
  · rw [decide_eq_true c]; exact beq_iff_eq.mpr c
  · rw [decide_eq_false c]; exact beq_eq_false_iff_ne.mpr c
theorem cut_init (xs : List V) : cutV xs none (some (-1)) = xs.dropLast := by
  unfold cutV
  have e : HT.sIx xs.length xs.length (some (-1)) = xs.length - 1 := by
    show (if (-1 : Int) < 0 then ((-1 : Int) + (xs.length : Int)).toNat else min (-1 : Int).toNat xs.length) = _
    rw [if_pos (by decide)]
    omega
  rw [e, HT.sIx_none, List.drop_zero, Nat.sub_zero, List.dropLast_eq_take]
theorem cut_last (xs : List V) : cutV xs (some (-1)) none = xs.drop (xs.length - 1) := by
  unfold cutV
  have e : HT.sIx xs.length 0 (some (-1)) = xs.length - 1 := by
    show (if (-1 : Int) < 0 then ((-1 : Int) + (xs.length : Int)).toNat else min (-1 : Int).toNat xs.length) = _
    rw [if_pos (by decide)]
    omega
  rw [e, HT.sIx_none]
  exact List.take_of_length_le (by rw [List.length_drop]; exact Nat.le_refl _)
def sp_pieces (K : PySem.W.Frag) (A : Ad) : Sp := S2 fun x y H Q => ∃ (a : Addr) (d : Bytes) (sep : Nat), x = .ref a ∧ y = .int (sep : Int) ∧ H a = some (.lst (vb d)) ∧ d.length ≤ 100000 ∧
  ∀ (H' : Hp) (p : Addr), Same H H' → H p = none → ListsAt H' p (splitAtByte sep [] d) → Q (.ref p) H'
def sp_ended_lines (K : PySem.W.Frag) (A : Ad) : Sp := S1 fun x H Q => ∃ (a : Addr) (d : Bytes), x = .ref a ∧ H a = some (.lst (vb d)) ∧ d.length ≤ 100000 ∧
  ∀ (H' : Hp) (p : Addr), Same H H' → H p = none → ListsAt H' p (splitAtByte 10 [] d).dropLast → Q (.ref p) H'
def sp_read_natural (K : PySem.W.Frag) (A : Ad) : Sp := S1 fun x H Q => ∃ (a : Addr) (t : Bytes), x = .ref a ∧ H a = some (.lst (vb t)) ∧ t.length ≤ 100000 ∧ Q (onV (parseNatural t)) H
def sp_read_integer (K : PySem.W.Frag) (A : Ad) : Sp := S1 fun x H Q => ∃ (a : Addr) (t : Bytes), x = .ref a ∧ H a = some (.lst (vb t)) ∧ t.length ≤ 100000 ∧ Kept H (oiV (parseInteger t)) Q
def sp_read_key (K : PySem.W.Frag) (A : Ad) : Sp := S1 fun x H Q => ∃ (a : Addr) (t : Bytes), x = .ref a ∧ H a = some (.lst (vb t)) ∧ t.length ≤ 100000 ∧ Q (onV (keyOf t)) H
def sp_read_value (K : PySem.W.Frag) (A : Ad) : Sp := S1 fun x H Q => ∃ (a : Addr) (t : Bytes), x = .ref a ∧ H a = some (.lst (vb t)) ∧ t.length ≤ 100000 ∧ Kept H (oiV (valOf t)) Q
def ChangesAt (H : Hp) (v : V) (cs : List Change) : Prop := ∃ r : Addr, v = .ref r ∧ H r = some (.lst (vi (flatC cs)))
def ChangeAt (H : Hp) (v : V) (c : Change) : Prop := ChangesAt H v [c]
def sp_read_removal (K : PySem.W.Frag) (A : Ad) : Sp := S1 fun x H Q => ∃ (a : Addr) (t : Bytes), x = .ref a ∧ H a = some (.lst (vb t)) ∧ t.length ≤ 100000 ∧
  ∀ (H' : Hp) (v : V), Same H H' → OptV (ChangeAt H') v ((keyOf t.dropLast).map fun k => (k, none)) → Q v H'
def sp_read_change (K : PySem.W.Frag) (A : Ad) : Sp := S1 fun x H Q => ∃ (a : Addr) (t : Bytes), x = .ref a ∧ H a = some (.lst (vb t)) ∧ t.length ≤ 100000 ∧ Byt t ∧
  ∀ (H' : Hp) (v : V), Same H H' → OptV (ChangeAt H') v (parseChange t) → Q v H'
def sp_read_line (K : PySem.W.Frag) (A : Ad) : Sp := S2 fun x y H Q => ∃ (a : Addr) (t : Bytes) (n : Nat), x = .ref a ∧ y = .int (n : Int) ∧ H a = some (.lst (vb t)) ∧ t.length ≤ 100000 ∧ Byt t ∧
  ∀ (H' : Hp) (v : V), Same H H' → OptV (ChangesAt H') v (lineOf t n) → Q v H'
def oF (t : Int) (e : Addr) (inv : V) : List (Str × V) := [("tick_number", .int t), ("entries", .ref e), ("invalid_line", inv)]
def sp_OldJournal_init (K : PySem.W.Frag) (A : Ad) : Sp := S4 fun x y z u H Q => ∃ (p dx : Addr) (t : Int) (e : Addr) (inv : V), x = .ref p ∧ y = .int t ∧ z = .ref e ∧ u = inv ∧ H p = some (.ins A.OldJournal dx []) ∧
  Q .non (upd H p (.ins A.OldJournal dx (oF t e inv)))
theorem pf_new (f : Str) (v : V) : putF f v [] = [(f, v)] := rfl
theorem pf_past {f g : Str} {v x : V} {r : List (Str × V)} (h : ¬ g = f) : putF f v ((g, x) :: r) = (g, x) :: putF f v r := by
  show (if g = f then _ else _) = _
  rw [if_neg h]
theorem pf_at {f : Str} {v x : V} {r : List (Str × V)} : putF f v ((f, x) :: r) = (f, v) :: r := by
  show (if f = f then _ else _) = _
  rw [if_pos rfl]
theorem lk_at {k : Str} {v : V} {r : List (Str × V)} : List.lookup k ((k, v) :: r) = some v := by
  have e : (k == k) = true := beq_self_eq_true k
  simp only [List.lookup, e]
theorem lk_next {k g : Str} {v : V} {r : List (Str × V)} (h : (k == g) = false) : List.lookup k ((g, v) :: r) = List.lookup k r := by
  simp only [List.lookup, h]
theorem oF_made (t : Int) (e : Addr) (inv : V) : putF "invalid_line" inv (putF "entries" (.ref e) (putF "tick_number" (.int t) [])) = oF t e inv := by
  rw [pf_new, pf_past (by decide +kernel), pf_new, pf_past (by decide +kernel), pf_past (by decide +kernel), pf_new]
  rfl
theorem oF_tick (t : Int) (e : Addr) (inv : V) : (oF t e inv).lookup ("tick_number" : Str) = some (.int t) := lk_at
theorem oF_ents (t : Int) (e : Addr) (inv : V) : (oF t e inv).lookup ("entries" : Str) = some (.ref e) := (lk_next (by decide +kernel)).trans lk_at
theorem oF_inv (t : Int) (e : Addr) (inv : V) : (oF t e inv).lookup ("invalid_line" : Str) = some inv := (lk_next (by decide +kernel)).trans ((lk_next (by decide +kernel)).trans lk_at)
def ImpOk (d : Bytes) (t : Nat) (s : Store) (inv : V) : Prop := match importText d with
  | .ok (t', s') => t' = t ∧ s' = s ∧ inv = .non
  | .error n => inv = .int (n : Int)
def sp_read_old_journal (K : PySem.W.Frag) (A : Ad) : Sp := S1 fun x H Q => ∃ (a : Addr) (d : Bytes), x = .ref a ∧ H a = some (.lst (vb d)) ∧ d.length ≤ 100000 ∧ Byt d ∧
  ∀ (H' : Hp) (x dx e : Addr) (t : Nat) (kvs : List (Key × V)) (s : Store) (inv : V), Same H H' → H' x = some (.ins A.OldJournal dx (oF t e inv)) → H' e = some (.dK kvs) → Ent kvs s → H e = none → t ≤ 200000 → ImpOk d t s inv → Q (.ref x) H'
end TS
namespace TS
open PySem PySem.Spec PyProof.Rows L2 Vbwsai
/-! the disk as six files -/
def files6 (d : Disk) : List Bytes := d.checkpoints ++ d.journals ++ d.commits
structure Wf (d : Disk) : Prop where
  c2 : d.checkpoints.length = 2
  j2 : d.journals.length = 2
  m2 : d.commits.length = 2
theorem two {α : Type} {l : List α} (h : l.length = 2) : ∃ a b, l = [a, b] := by
  match l, h with
  | [a, b], _ => exact ⟨a, b, rfl⟩
theorem Wf.shape {d : Disk} (h : Wf d) : ∃ c0 c1 j0 j1 k0 k1, d = ⟨[c0, c1], [j0, j1], [k0, k1]⟩ := by
  obtain ⟨cs, js, ms⟩ := d
  obtain ⟨a, b, e1⟩ := two h.c2
  obtain ⟨c, e, e2⟩ := two h.j2
  obtain ⟨f, g, e3⟩ := two h.m2
  have e1' : cs = [a, b] := e1
  have e2' : js = [c, e] := e2
  have e3' : ms = [f, g] := e3
  subst e1' e2' e3'
  exact ⟨a, b, c, e, f, g, rfl⟩
theorem Wf.len {d : Disk} (h : Wf d) : (files6 d).length = 6 := by
  obtain ⟨c0, c1, j0, j1, k0, k1, rfl⟩ := h.shape; rfl
theorem le1 {i : Nat} (h : i ≤ 1) : i = 0 ∨ i = 1 := by omega
theorem ck_get {d : Disk} (h : Wf d) {i : Nat} (hi : i ≤ 1) : (files6 d)[i]? = some (checkpointFile d i) := by
  obtain ⟨c0, c1, j0, j1, k0, k1, rfl⟩ := h.shape
  rcases le1 hi with rfl | rfl <;> rfl
theorem ck_set {d : Disk} (h : Wf d) {i : Nat} (hi : i ≤ 1) (b : Bytes) : files6 { d with checkpoints := setElement d.checkpoints i b } = (files6 d).set i b ∧ Wf { d with checkpoints := setElement d.checkpoints i b } := by
  obtain ⟨c0, c1, j0, j1, k0, k1, rfl⟩ := h.shape
  rcases le1 hi with rfl | rfl <;> exact ⟨rfl, rfl, rfl, rfl⟩
theorem j_get {d : Disk} (h : Wf d) {i : Nat} (hi : i ≤ 1) : (files6 d)[2 + i]? = some (journalFile d i) := by
  obtain ⟨c0, c1, j0, j1, k0, k1, rfl⟩ := h.shape
  rcases le1 hi with rfl | rfl <;> rfl
theorem j_set {d : Disk} (h : Wf d) {i : Nat} (hi : i ≤ 1) (b : Bytes) : files6 { d with journals := setElement d.journals i b } = (files6 d).set (2 + i) b ∧ Wf { d with journals := setElement d.journals i b } := by
  obtain ⟨c0, c1, j0, j1, k0, k1, rfl⟩ := h.shape
  rcases le1 hi with rfl | rfl <;> exact ⟨rfl, rfl, rfl, rfl⟩
theorem m_get {d : Disk} (h : Wf d) {i : Nat} (hi : i ≤ 1) : (files6 d)[4 + i]? = some (commitFile d i) := by
  obtain ⟨c0, c1, j0, j1, k0, k1, rfl⟩ := h.shape
  rcases le1 hi with rfl | rfl <;> rfl
theorem m_set {d : Disk} (h : Wf d) {i : Nat} (hi : i ≤ 1) (b : Bytes) : files6 { d with commits := setElement d.commits i b } = (files6 d).set (4 + i) b ∧ Wf { d with commits := setElement d.commits i b } := by
  obtain ⟨c0, c1, j0, j1, k0, k1, rfl⟩ := h.shape
  rcases le1 hi with rfl | rfl <;> exact ⟨rfl, rfl, rfl, rfl⟩
theorem le5 {i : Nat} (h : i ≤ 5) : i = 0 ∨ i = 1 ∨ i = 2 ∨ i = 3 ∨ i = 4 ∨ i = 5 := by omega
theorem f_get {d : Disk} (h : Wf d) {i : Nat} (hi : i ≤ 5) : (files6 d)[i]? = some (fileAt d i) := by
  obtain ⟨c0, c1, j0, j1, k0, k1, rfl⟩ := h.shape
  rcases le5 hi with rfl | rfl | rfl | rfl | rfl | rfl <;> rfl
theorem f_set {d : Disk} (h : Wf d) {i : Nat} (hi : i ≤ 5) (b : Bytes) : files6 (setFileAt d i b) = (files6 d).set i b ∧ Wf (setFileAt d i b) := by
  obtain ⟨c0, c1, j0, j1, k0, k1, rfl⟩ := h.shape
  rcases le5 hi with rfl | rfl | rfl | rfl | rfl | rfl <;> exact ⟨rfl, rfl, rfl, rfl⟩
/-! fields -/
def mF (t : Int) (e : Addr) (s n : Int) (pd : V) : List (Str × V) := [("tick_number", .int t), ("entries", .ref e), ("side", .int s), ("commit_number", .int n), ("pending", pd)]
def sF (F : Addr) (m : V) (d : Int) : List (Str × V) := [("files", .ref F), ("memory", m), ("durable_tick", .int d)]
def rF (m : Addr) (tc bc : Int) : List (Str × V) := [("memory", .ref m), ("tick_count", .int tc), ("byte_count", .int bc)]
def dF (c : Addr) (pl : Int) : List (Str × V) := [("calls", .ref c), ("place", .int pl)]
section
variable {t s n d tc bc pl t' s' n' d' pl' : Int} {e F m c e' F' : Addr} {pd mv pd' mv' : V}
theorem mF_made : putF "pending" pd (putF "commit_number" (.int n) (putF "side" (.int s) (putF "entries" (.ref e) (putF "tick_number" (.int t) [])))) = mF t e s n pd := by
  repeat (first | rw [pf_new] | rw [pf_past (by decide +kernel)])
  rfl
theorem mF_tick : (mF t e s n pd).lookup ("tick_number" : Str) = some (.int t) := lk_at
theorem mF_ents : (mF t e s n pd).lookup ("entries" : Str) = some (.ref e) := (lk_next (by decide +kernel)).trans lk_at
theorem mF_side : (mF t e s n pd).lookup ("side" : Str) = some (.int s) := (lk_next (by decide +kernel)).trans ((lk_next (by decide +kernel)).trans lk_at)
theorem mF_num : (mF t e s n pd).lookup ("commit_number" : Str) = some (.int n) := (lk_next (by decide +kernel)).trans ((lk_next (by decide +kernel)).trans ((lk_next (by decide +kernel)).trans lk_at))
theorem mF_pend : (mF t e s n pd).lookup ("pending" : Str) = some pd := (lk_next (by decide +kernel)).trans ((lk_next (by decide +kernel)).trans ((lk_next (by decide +kernel)).trans ((lk_next (by decide +kernel)).trans lk_at)))
theorem mP_tick : putF "tick_number" (.int t') (mF t e s n pd) = mF t' e s n pd := pf_at
theorem mP_ents : putF "entries" (.ref e') (mF t e s n pd) = mF t e' s n pd := (pf_past (by decide +kernel)).trans (congrArg _ pf_at)
theorem mP_side : putF "side" (.int s') (mF t e s n pd) = mF t e s' n pd := (pf_past (by decide +kernel)).trans (congrArg _ ((pf_past (by decide +kernel)).trans (congrArg _ pf_at)))
theorem mP_num : putF "commit_number" (.int n') (mF t e s n pd) = mF t e s n' pd := (pf_past (by decide +kernel)).trans (congrArg _ ((pf_past (by decide +kernel)).trans (congrArg _ ((pf_past (by decide +kernel)).trans (congrArg _ pf_at)))))
theorem mP_pend : putF "pending" pd' (mF t e s n pd) = mF t e s n pd' := (pf_past (by decide +kernel)).trans (congrArg _ ((pf_past (by decide +kernel)).trans (congrArg _ ((pf_past (by decide +kernel)).trans (congrArg _ ((pf_past (by decide +kernel)).trans (congrArg _ pf_at)))))))
theorem sF_made : putF "durable_tick" (.int d) (putF "memory" mv (putF "files" (.ref F) [])) = sF F mv d := by
  rw [pf_new, pf_past (by decide +kernel), pf_new, pf_past (by decide +kernel), pf_past (by decide +kernel), pf_new]
  rfl
theorem sF_files : (sF F mv d).lookup ("files" : Str) = some (.ref F) := lk_at
theorem sF_mem : (sF F mv d).lookup ("memory" : Str) = some mv := (lk_next (by decide +kernel)).trans lk_at
theorem sF_dur : (sF F mv d).lookup ("durable_tick" : Str) = some (.int d) := (lk_next (by decide +kernel)).trans ((lk_next (by decide +kernel)).trans lk_at)
theorem sF_no {k : Str} (h1 : (k == ("files" : Str)) = false) (h2 : (k == ("memory" : Str)) = false) (h3 : (k == ("durable_tick" : Str)) = false) : (sF F mv d).lookup k = none := (lk_next h1).trans ((lk_next h2).trans ((lk_next h3).trans rfl))
theorem sP_files : putF "files" (.ref F') (sF F mv d) = sF F' mv d := pf_at
theorem sP_mem : putF "memory" mv' (sF F mv d) = sF F mv' d := (pf_past (by decide +kernel)).trans (congrArg _ pf_at)
theorem sP_dur : putF "durable_tick" (.int d') (sF F mv d) = sF F mv d' := (pf_past (by decide +kernel)).trans (congrArg _ ((pf_past (by decide +kernel)).trans (congrArg _ pf_at)))
theorem rF_made : putF "byte_count" (.int bc) (putF "tick_count" (.int tc) (putF "memory" (.ref m) [])) = rF m tc bc := by
  rw [pf_new, pf_past (by decide +kernel), pf_new, pf_past (by decide +kernel), pf_past (by decide +kernel), pf_new]
  rfl
theorem rF_mem : (rF m tc bc).lookup ("memory" : Str) = some (.ref m) := lk_at
theorem rF_tc : (rF m tc bc).lookup ("tick_count" : Str) = some (.int tc) := (lk_next (by decide +kernel)).trans lk_at
theorem rF_bc : (rF m tc bc).lookup ("byte_count" : Str) = some (.int bc) := (lk_next (by decide +kernel)).trans ((lk_next (by decide +kernel)).trans lk_at)
theorem dF_made : putF "place" (.int pl) (putF "calls" (.ref c) []) = dF c pl := by
  rw [pf_new, pf_past (by decide +kernel), pf_new]
  rfl
theorem dF_calls : (dF c pl).lookup ("calls" : Str) = some (.ref c) := lk_at
theorem dF_place : (dF c pl).lookup ("place" : Str) = some (.int pl) := (lk_next (by decide +kernel)).trans lk_at
theorem dP_place : putF "place" (.int pl') (dF c pl) = dF c pl' := (pf_past (by decide +kernel)).trans (congrArg _ pf_at)
theorem dF_no {k : Str} (h1 : (k == ("calls" : Str)) = false) (h2 : (k == ("place" : Str)) = false) : (dF c pl).lookup k = none := (lk_next h1).trans ((lk_next h2).trans rfl)
theorem sm_ne {t s n d : Int} {C C' dx dx' e F : Addr} {pd mv : V} : HO.ins C dx (sF F mv d) ≠ HO.ins C' dx' (mF t e s n pd) := fun z => by
  injection z with _ _ h
  exact nomatch (List.cons.inj (List.cons.inj (List.cons.inj h).2).2).2
end
/-! the files in the heap -/
structure FilesAt (H0 H : Hp) (F : Addr) (ps : List (Addr × Bytes)) (bs : List Bytes) : Prop where
  hF : H F = some (.lst (ps.map fun y => V.ref y.1))
  F0 : H0 F = none
  inj : ∀ (i j : Nat) (y z : Addr × Bytes), ps[i]? = some y → ps[j]? = some z → y.1 = z.1 → i = j
  bs_ : ps.map (·.2) = bs
  at_ : ∀ (i : Nat) (y : Addr × Bytes), ps[i]? = some y → H y.1 = some (.lst (vb y.2)) ∧ H0 y.1 = none ∧ y.1 ≠ F
section
variable {H0 H1 H H' : Hp} {F : Addr} {ps : List (Addr × Bytes)} {bs : List Bytes}
theorem FilesAt.same (f : FilesAt H0 H F ps bs) (s : Same H H') : FilesAt H0 H' F ps bs :=
  ⟨s _ _ f.hF, f.F0, f.inj, f.bs_, fun i y h => let ⟨a, b, c⟩ := f.at_ i y h; ⟨s _ _ a, b, c⟩⟩
theorem FilesAt.older (f : FilesAt H1 H F ps bs) (d : Dom H0 H1) : FilesAt H0 H F ps bs :=
  ⟨f.hF, d _ f.F0, f.inj, f.bs_, fun i y h => let ⟨a, b, c⟩ := f.at_ i y h; ⟨a, d _ b, c⟩⟩
theorem FilesAt.get (f : FilesAt H0 H F ps bs) {i : Nat} {b : Bytes} (h : bs[i]? = some b) : ∃ a, ps[i]? = some (a, b) ∧ (ps.map fun y => V.ref y.1)[i]? = some (V.ref a) ∧ H a = some (.lst (vb b)) ∧ H0 a = none ∧ a ≠ F := by
  rw [← f.bs_, List.getElem?_map] at h
  cases e : ps[i]? with
  | none => rw [e] at h; exact nomatch h
  | some y =>
    rw [e] at h
    obtain rfl : y.2 = b := Option.some.inj h
    obtain ⟨h1, h2, h3⟩ := f.at_ i y e
    exact ⟨y.1, rfl, by rw [List.getElem?_map, e]; rfl, h1, h2, h3⟩
theorem FilesAt.other {b : Addr} {o : HO} (f : FilesAt H0 H F ps bs) (hb : b ≠ F) (hn : ∀ (i : Nat) (y : Addr × Bytes), ps[i]? = some y → y.1 ≠ b) : FilesAt H0 (upd H b o) F ps bs :=
  ⟨by rw [upd_ne hb.symm]; exact f.hF, f.F0, f.inj, f.bs_, fun i y h => by
    obtain ⟨h1, h2, h3⟩ := f.at_ i y h
    exact ⟨by rw [upd_ne (hn i y h)]; exact h1, h2, h3⟩⟩
/-- another kind of object is none of them -/
theorem FilesAt.kind {b : Addr} {o u : HO} (f : FilesAt H0 H F ps bs) (hb : H b = some u) (hk : ∀ xs, u ≠ .lst xs) : FilesAt H0 (upd H b o) F ps bs :=
  f.other (fun z => by rw [z, f.hF] at hb; exact hk _ (Option.some.inj hb).symm) fun i y h z => by
    have := (f.at_ i y h).1
    rw [z, hb] at this
    exact hk _ (Option.some.inj this)
theorem FilesAt.write {i : Nat} {a : Addr} {b b' : Bytes} (f : FilesAt H0 H F ps bs) (hi : ps[i]? = some (a, b)) : FilesAt H0 (upd H a (.lst (vb b'))) F (ps.set i (a, b')) (bs.set i b') := by
  have hil : i < ps.length := lt_of_get hi
  obtain ⟨h1, h2, h3⟩ := f.at_ i _ hi
  have idx : ∀ (j : Nat) (y : Addr × Bytes), (ps.set i (a, b'))[j]? = some y → (j = i ∧ y = (a, b')) ∨ (j ≠ i ∧ ps[j]? = some y) := fun j y h => by
    by_cases c : i = j
    · subst c
      rw [List.getElem?_set_self hil] at h
      exact .inl ⟨rfl, (Option.some.inj h).symm⟩
    · rw [List.getElem?_set_ne c] at h
      exact .inr ⟨fun z => c z.symm, h⟩
  refine ⟨?_, f.F0, ?_, ?_, ?_⟩
  · rw [upd_ne h3.symm, f.hF]
    congr 2
    refine List.ext_getElem? fun j => ?_
    rw [List.getElem?_map, List.getElem?_map]
    by_cases c : i = j
    · subst c
      rw [List.getElem?_set_self hil, hi]; rfl
    · rw [List.getElem?_set_ne c]
  · intro j k y z hj hk e
    rcases idx j y hj with ⟨c1, c2⟩ | ⟨c1, c2⟩
    · rcases idx k z hk with ⟨d1, d2⟩ | ⟨d1, d2⟩
      · rw [c1, d1]
      · exact absurd (f.inj i k _ z hi d2 (by rw [← e, c2])) (fun w => d1 w.symm)
    · rcases idx k z hk with ⟨d1, d2⟩ | ⟨d1, d2⟩
      · exact absurd (f.inj j i y _ c2 hi (by rw [e, d2])) c1
      · exact f.inj j k y z c2 d2 e
  · rw [List.map_set, f.bs_]
  · intro j y hj
    rcases idx j y hj with ⟨c1, c2⟩ | ⟨c1, c2⟩
    · rw [c2]; exact ⟨upd_same, h2, h3⟩
    · obtain ⟨g1, g2, g3⟩ := f.at_ j y c2
      refine ⟨?_, g2, g3⟩
      rw [upd_ne fun z => c1 (f.inj j i y _ c2 hi z)]
      exact g1
theorem FilesAt.put {i : Nat} {p : Addr} {b' : Bytes} (f : FilesAt H0 H F ps bs) (hil : i < ps.length) (hp : H p = some (.lst (vb b'))) (p0 : H0 p = none) (pF : p ≠ F) (pn : ∀ (j : Nat) (y : Addr × Bytes), ps[j]? = some y → y.1 ≠ p) :
    FilesAt H0 (upd H F (.lst ((ps.map fun y => V.ref y.1).set i (.ref p)))) F (ps.set i (p, b')) (bs.set i b') := by
  have idx : ∀ (j : Nat) (y : Addr × Bytes), (ps.set i (p, b'))[j]? = some y → (j = i ∧ y = (p, b')) ∨ (j ≠ i ∧ ps[j]? = some y) := fun j y h => by
    by_cases c : i = j
    · subst c
      rw [List.getElem?_set_self hil] at h
      exact .inl ⟨rfl, (Option.some.inj h).symm⟩
    · rw [List.getElem?_set_ne c] at h
      exact .inr ⟨fun z => c z.symm, h⟩
  refine ⟨?_, f.F0, ?_, ?_, ?_⟩
  · rw [upd_same, List.map_set]
  · intro j k y z hj hk e
    rcases idx j y hj with ⟨c1, c2⟩ | ⟨c1, c2⟩
    · rcases idx k z hk with ⟨d1, d2⟩ | ⟨d1, d2⟩
      · rw [c1, d1]
      · exact absurd (by rw [← e, c2]) (pn k z d2)
    · rcases idx k z hk with ⟨d1, d2⟩ | ⟨d1, d2⟩
      · exact absurd (by rw [e, d2]) (pn j y c2)
      · exact f.inj j k y z c2 d2 e
  · rw [List.map_set, f.bs_]
  · intro j y hj
    rcases idx j y hj with ⟨c1, c2⟩ | ⟨c1, c2⟩
    · rw [c2]
      exact ⟨by rw [upd_ne pF]; exact hp, p0, pF⟩
    · obtain ⟨g1, g2, g3⟩ := f.at_ j y c2
      exact ⟨by rw [upd_ne g3]; exact g1, g2, g3⟩
end
def PendAt (H0 H : Hp) (F : Addr) (ps : List (Addr × Bytes)) (pd : V) (po : Option Bytes) : Prop :=
  OptV (fun v b => ∃ p, v = .ref p ∧ H p = some (.lst (vb b)) ∧ H0 p = none ∧ p ≠ F ∧ ∀ (i : Nat) (y : Addr × Bytes), ps[i]? = some y → y.1 ≠ p) pd po
structure Pow (A : Ad) (H0 H : Hp) (x dx F : Addr) (ps : List (Addr × Bytes)) (m dm e : Addr) (kvs : List (Key × V)) (pd : V) (bs : List Bytes) (t : Nat) (c : Store) (sd n : Nat) (po : Option Bytes) (dur : Nat) : Prop where
  s0 : Same H0 H
  x0 : H0 x = none
  hx : H x = some (.ins A.Session dx (sF F (.ref m) dur))
  fl : FilesAt H0 H F ps bs
  hm : H m = some (.ins A.Memory dm (mF t e sd n pd))
  m0 : H0 m = none
  he : H e = some (.dK kvs)
  e0 : H0 e = none
  en : Ent kvs c
  pn : PendAt H0 H F ps pd po
structure Off (A : Ad) (H0 H : Hp) (x dx F : Addr) (ps : List (Addr × Bytes)) (bs : List Bytes) (dur : Nat) : Prop where
  s0 : Same H0 H
  x0 : H0 x = none
  hx : H x = some (.ins A.Session dx (sF F .non dur))
  fl : FilesAt H0 H F ps bs
def SesAt (A : Ad) (H0 H : Hp) (x : Addr) (s : State) : Prop := match s.powered with
  | true => ∃ (dx F : Addr) (ps : List (Addr × Bytes)) (m dm e : Addr) (kvs : List (Key × V)) (pd : V), Pow A H0 H x dx F ps m dm e kvs pd (files6 s.disk) s.tick s.contents s.side s.commitNumber (if s.checkpointing = true then some s.pending else none) s.durableTick
  | false => ∃ (dx F : Addr) (ps : List (Addr × Bytes)), Off A H0 H x dx F ps (files6 s.disk) s.durableTick
section
variable {A : Ad} {H0 H H' : Hp} {x dx F m dm e : Addr} {ps : List (Addr × Bytes)} {kvs : List (Key × V)} {pd : V} {bs : List Bytes} {t sd n dur : Nat} {c : Store} {po : Option Bytes}
theorem PendAt.same (h : PendAt H0 H F ps pd po) (s : Same H H') : PendAt H0 H' F ps pd po := by
  cases po with
  | none => exact h
  | some b =>
    obtain ⟨p, h1, h2, h3⟩ := h
    exact ⟨p, h1, s _ _ h2, h3⟩
theorem PendAt.other {b : Addr} {o : HO} (h : PendAt H0 H F ps pd po) (hb : ∀ p, pd = .ref p → p ≠ b) : PendAt H0 (upd H b o) F ps pd po := by
  cases po with
  | none => exact h
  | some y =>
    obtain ⟨p, h1, h2, h3⟩ := h
    exact ⟨p, h1, by rw [upd_ne (hb p h1)]; exact h2, h3⟩
theorem PendAt.kind {b : Addr} {o u : HO} (h : PendAt H0 H F ps pd po) (hb : H b = some u) (hk : ∀ xs, u ≠ .lst xs) : PendAt H0 (upd H b o) F ps pd po := by
  cases po with
  | none => exact h
  | some y =>
    obtain ⟨p, h1, h2, h3⟩ := h
    refine ⟨p, h1, ?_, h3⟩
    rw [upd_ne fun z => by rw [z, hb] at h2; exact hk _ (Option.some.inj h2)]
    exact h2
theorem PendAt.set {i : Nat} {y : Addr × Bytes} (h : PendAt H0 H F ps pd po) (hy : ∀ p, pd = .ref p → y.1 ≠ p) : PendAt H0 H F (ps.set i y) pd po := by
  cases po with
  | none => exact h
  | some b =>
    obtain ⟨p, h1, h2, h3, h4, h5⟩ := h
    refine ⟨p, h1, h2, h3, h4, fun j z hj => ?_⟩
    rw [List.getElem?_set] at hj
    split at hj
    · split at hj
      · obtain rfl := Option.some.inj hj
        exact hy p h1
      · exact nomatch hj
    · exact h5 j z hj
theorem PendAt.apart (h : PendAt H0 H F ps pd po) {i : Nat} {a : Addr} {b : Bytes} (hi : ps[i]? = some (a, b)) : ∀ p, pd = .ref p → p ≠ a := by
  intro p hp
  cases po with
  | none =>
    have : pd = .non := h
    rw [this] at hp
    exact nomatch hp
  | some y =>
    obtain ⟨q, h1, h2, h3, h4, h5⟩ := h
    rw [h1] at hp
    obtain rfl := V.ref.inj hp
    exact (h5 i _ hi).symm
theorem Pow.same (h : Pow A H0 H x dx F ps m dm e kvs pd bs t c sd n po dur) (s : Same H H') : Pow A H0 H' x dx F ps m dm e kvs pd bs t c sd n po dur :=
  ⟨h.s0.trans s, h.x0, s _ _ h.hx, h.fl.same s, s _ _ h.hm, h.m0, s _ _ h.he, h.e0, h.en, h.pn.same s⟩
theorem Off.same (h : Off A H0 H x dx F ps bs dur) (s : Same H H') : Off A H0 H' x dx F ps bs dur := ⟨h.s0.trans s, h.x0, s _ _ h.hx, h.fl.same s⟩
/-- a file is written where it stands -/
theorem Pow.write {i : Nat} {a : Addr} {b b' : Bytes} (h : Pow A H0 H x dx F ps m dm e kvs pd bs t c sd n po dur) (hi : ps[i]? = some (a, b)) :
    Pow A H0 (upd H a (.lst (vb b'))) x dx F (ps.set i (a, b')) m dm e kvs pd (bs.set i b') t c sd n po dur := by
  obtain ⟨h1, h2, h3⟩ := h.fl.at_ i _ hi
  have ne : ∀ (b : Addr) (o : HO), H b = some o → (∀ xs, o ≠ .lst xs) → b ≠ a := fun b o hb hk z => by
    rw [z] at hb
    have h1' : H a = some (.lst (vb _)) := h1
    rw [h1'] at hb
    exact hk _ (Option.some.inj hb).symm
  refine ⟨h.s0.wr h2, h.x0, ?_, h.fl.write hi, ?_, h.m0, ?_, h.e0, h.en, (h.pn.other (h.pn.apart hi)).set fun p hp => (h.pn.apart hi p hp).symm⟩
  · rw [upd_ne (ne _ _ h.hx fun xs z => nomatch z)]; exact h.hx
  · rw [upd_ne (ne _ _ h.hm fun xs z => nomatch z)]; exact h.hm
  · rw [upd_ne (ne _ _ h.he fun xs z => nomatch z)]; exact h.he
theorem Off.write {i : Nat} {a : Addr} {b b' : Bytes} (h : Off A H0 H x dx F ps bs dur) (hi : ps[i]? = some (a, b)) :
    Off A H0 (upd H a (.lst (vb b'))) x dx F (ps.set i (a, b')) (bs.set i b') dur := by
  obtain ⟨h1, h2, h3⟩ := h.fl.at_ i _ hi
  refine ⟨h.s0.wr h2, h.x0, ?_, h.fl.write hi⟩
  rw [upd_ne fun z => by
    have h1' : H a = some (.lst (vb _)) := h1
    have := h.hx
    rw [z, h1'] at this
    exact nomatch (Option.some.inj this)]
  exact h.hx
/-- another list is put in a file's place -/
theorem Pow.put {i : Nat} {p : Addr} {b' : Bytes} (h : Pow A H0 H x dx F ps m dm e kvs pd bs t c sd n po dur) (hil : i < ps.length) (hp : H p = some (.lst (vb b'))) (p0 : H0 p = none) (pF : p ≠ F)
    (pn : ∀ (j : Nat) (y : Addr × Bytes), ps[j]? = some y → y.1 ≠ p) (pp : ∀ q, pd = .ref q → p ≠ q) :
    Pow A H0 (upd H F (.lst ((ps.map fun y => V.ref y.1).set i (.ref p)))) x dx F (ps.set i (p, b')) m dm e kvs pd (bs.set i b') t c sd n po dur := by
  have hF := h.fl.hF
  have ne : ∀ (b : Addr) (o : HO), H b = some o → (∀ xs, o ≠ .lst xs) → b ≠ F := fun b o hb hk z => by
    rw [z, hF] at hb
    exact hk _ (Option.some.inj hb).symm
  refine ⟨h.s0.wr h.fl.F0, h.x0, ?_, h.fl.put hil hp p0 pF pn, ?_, h.m0, ?_, h.e0, h.en, (h.pn.other ?_).set pp⟩
  · rw [upd_ne (ne _ _ h.hx fun xs z => nomatch z)]; exact h.hx
  · rw [upd_ne (ne _ _ h.hm fun xs z => nomatch z)]; exact h.hm
  · rw [upd_ne (ne _ _ h.he fun xs z => nomatch z)]; exact h.he
  · intro q hq
    have := h.pn
    cases po with
    | none =>
      have : pd = .non := this
      rw [this] at hq
      exact nomatch hq
    | some y =>
      obtain ⟨q', h1, h2, h3, h4, h5⟩ := this
      rw [h1] at hq
      obtain rfl := V.ref.inj hq
      exact h4
theorem Off.put {i : Nat} {p : Addr} {b' : Bytes} (h : Off A H0 H x dx F ps bs dur) (hil : i < ps.length) (hp : H p = some (.lst (vb b'))) (p0 : H0 p = none) (pF : p ≠ F)
    (pn : ∀ (j : Nat) (y : Addr × Bytes), ps[j]? = some y → y.1 ≠ p) : Off A H0 (upd H F (.lst ((ps.map fun y => V.ref y.1).set i (.ref p)))) x dx F (ps.set i (p, b')) (bs.set i b') dur := by
  refine ⟨h.s0.wr h.fl.F0, h.x0, ?_, h.fl.put hil hp p0 pF pn⟩
  rw [upd_ne fun z => by
    have := h.hx
    rw [z, h.fl.hF] at this
    exact nomatch (Option.some.inj this)]
  exact h.hx
theorem Pow.xm (h : Pow A H0 H x dx F ps m dm e kvs pd bs t c sd n po dur) : x ≠ m := ne_of h.hx h.hm sm_ne
/-- the session's own fields -/
theorem Pow.setDur {d' : Nat} (h : Pow A H0 H x dx F ps m dm e kvs pd bs t c sd n po dur) : Pow A H0 (upd H x (.ins A.Session dx (sF F (.ref m) d'))) x dx F ps m dm e kvs pd bs t c sd n po d' :=
  ⟨h.s0.wr h.x0, h.x0, upd_same, h.fl.kind h.hx (fun xs z => nomatch z), by rw [upd_ne h.xm.symm]; exact h.hm, h.m0, by rw [upd_ne (ne_of h.he h.hx fun z => nomatch z)]; exact h.he, h.e0, h.en, h.pn.kind h.hx (fun xs z => nomatch z)⟩
theorem Pow.off (h : Pow A H0 H x dx F ps m dm e kvs pd bs t c sd n po dur) : Off A H0 (upd H x (.ins A.Session dx (sF F .non dur))) x dx F ps bs dur :=
  ⟨h.s0.wr h.x0, h.x0, upd_same, h.fl.kind h.hx (fun xs z => nomatch z)⟩
/-- the memory's own fields -/
theorem Pow.setMem {t' sd' n' : Nat} (h : Pow A H0 H x dx F ps m dm e kvs pd bs t c sd n po dur) : Pow A H0 (upd H m (.ins A.Memory dm (mF t' e sd' n' pd))) x dx F ps m dm e kvs pd bs t' c sd' n' po dur :=
  ⟨h.s0.wr h.m0, h.x0, by rw [upd_ne h.xm]; exact h.hx, h.fl.kind h.hm (fun xs z => nomatch z), upd_same, h.m0, by rw [upd_ne (ne_of h.he h.hm fun z => nomatch z)]; exact h.he, h.e0, h.en, h.pn.kind h.hm (fun xs z => nomatch z)⟩
theorem Pow.setEnts {e' : Addr} {kvs' : List (Key × V)} {c' : Store} (h : Pow A H0 H x dx F ps m dm e kvs pd bs t c sd n po dur) (he : H e' = some (.dK kvs')) (e0 : H0 e' = none) (en : Ent kvs' c') :
    Pow A H0 (upd H m (.ins A.Memory dm (mF t e' sd n pd))) x dx F ps m dm e' kvs' pd bs t c' sd n po dur :=
  ⟨h.s0.wr h.m0, h.x0, by rw [upd_ne h.xm]; exact h.hx, h.fl.kind h.hm (fun xs z => nomatch z), upd_same, h.m0, by rw [upd_ne (ne_of he h.hm fun z => nomatch z)]; exact he, e0, en, h.pn.kind h.hm (fun xs z => nomatch z)⟩
theorem Pow.setPend {pd' : V} {po' : Option Bytes} (h : Pow A H0 H x dx F ps m dm e kvs pd bs t c sd n po dur) (hp : PendAt H0 H F ps pd' po') :
    Pow A H0 (upd H m (.ins A.Memory dm (mF t e sd n pd'))) x dx F ps m dm e kvs pd' bs t c sd n po' dur :=
  ⟨h.s0.wr h.m0, h.x0, by rw [upd_ne h.xm]; exact h.hx, h.fl.kind h.hm (fun xs z => nomatch z), upd_same, h.m0, by rw [upd_ne (ne_of h.he h.hm fun z => nomatch z)]; exact h.he, h.e0, h.en, hp.kind h.hm (fun xs z => nomatch z)⟩
/-- there is power again -/
theorem Off.on {t sd n : Nat} {c : Store} (h : Off A H0 H x dx F ps bs dur) (hm : H m = some (.ins A.Memory dm (mF t e sd n .non))) (m0 : H0 m = none) (he : H e = some (.dK kvs)) (e0 : H0 e = none) (en : Ent kvs c) :
    Pow A H0 (upd H x (.ins A.Session dx (sF F (.ref m) dur))) x dx F ps m dm e kvs .non bs t c sd n none dur :=
  ⟨h.s0.wr h.x0, h.x0, upd_same, h.fl.kind h.hx (fun xs z => nomatch z), by rw [upd_ne (ne_of h.hx hm sm_ne).symm]; exact hm, m0, by rw [upd_ne (ne_of he h.hx fun z => nomatch z)]; exact he, e0, en, rfl⟩
end
/-! bounds -/
structure Good (n : Nat) (s : State) : Prop where
  wf : Wf s.disk
  byt : ∀ b ∈ files6 s.disk, Byt b ∧ b.length ≤ 2000 * (n + 1)
  pby : Byt s.pending ∧ s.pending.length ≤ 2000
  tk : Sm s.tick
  cn : Sm s.commitNumber
  sd : s.side ≤ 1
  st : StOk s.contents
  off : s.powered = false → s.tick = 0 ∧ s.side = 0 ∧ s.commitNumber = 0 ∧ s.checkpointing = false
  nch : s.checkpointing = false → s.pending = []
def OpQ (A : Ad) (H0 : Hp) (x : Addr) (r : State × List Int) (Q : VK) : Prop := ∀ (H' : Hp) (p : Addr), SesAt A H0 H' x r.1 → H' p = some (.lst (vi r.2)) → H0 p = none → Q (.ref p) H'
end TS
namespace TS
open PySem PySem.Spec PyProof.Rows L2 Vbwsai
/-! session -/
def sp_checkpoint_file (K : PySem.W.Frag) (A : Ad) : Sp := S1 fun x H Q => ∃ n : Int, x = .int n ∧ Q (.int n) H
def sp_journal_file (K : PySem.W.Frag) (A : Ad) : Sp := S1 fun x H Q => ∃ n : Int, x = .int n ∧ Q (.int (2 + n)) H
def sp_commit_file (K : PySem.W.Frag) (A : Ad) : Sp := S1 fun x H Q => ∃ n : Int, x = .int n ∧ Q (.int (4 + n % 2)) H
def sp_new_files (K : PySem.W.Frag) (A : Ad) : Sp := S2 fun x y H Q => ∃ (t : Nat) (e : Addr) (kvs : List (Key × V)) (s : Store), x = .int (t : Int) ∧ y = .ref e ∧ H e = some (.dK kvs) ∧ Ent kvs s ∧ Sm t ∧
  ∀ (H' : Hp) (F : Addr) (ps : List (Addr × Bytes)), Same H H' → FilesAt H H' F ps (files6 (newDisk t s)) → Q (.ref F) H'
def sp_Memory_init (K : PySem.W.Frag) (A : Ad) : Sp := S5 fun x y z u v H Q => ∃ (p dx : Addr) (t : Int) (e : Addr) (sd n : Int), x = .ref p ∧ y = .int t ∧ z = .ref e ∧ u = .int sd ∧ v = .int n ∧ H p = some (.ins A.Memory dx []) ∧
  Q .non (upd H p (.ins A.Memory dx (mF t e sd n .non)))
def sp_start_anew (K : PySem.W.Frag) (A : Ad) : Sp := S3 fun x y z H Q => ∃ (p dx : Addr) (fs : List (Str × V)) (t : Nat) (e : Addr) (kvs : List (Key × V)) (s : Store), x = .ref p ∧ y = .int (t : Int) ∧ z = .ref e ∧ H p = some (.ins A.Session dx fs) ∧
  (fs = [] ∨ ∃ F m d, fs = sF F m d) ∧ H e = some (.dK kvs) ∧ Ent kvs s ∧ Sm t ∧
  ∀ (H' : Hp) (F : Addr) (ps : List (Addr × Bytes)) (m dm : Addr), (∀ b o, H b = some o → b ≠ p → H' b = some o) → H' p = some (.ins A.Session dx (sF F (.ref m) t)) → FilesAt H H' F ps (files6 (newDisk t s)) →
    H' m = some (.ins A.Memory dm (mF t e 0 1 .non)) → H m = none → Q .non H'
theorem ses_new {A : Ad} {H0 H H' : Hp} {p dx F m dm e : Addr} {ps : List (Addr × Bytes)} {t : Nat} {kvs : List (Key × V)} {s : Store} {fs : List (Str × V)} (s0 : Same H0 H) (p0 : H0 p = none) (hp0 : H p = some (.ins A.Session dx fs)) (he : H e = some (.dK kvs)) (e0 : H0 e = none) (en : Ent kvs s)
    (k : ∀ b o, H b = some o → b ≠ p → H' b = some o) (hp : H' p = some (.ins A.Session dx (sF F (.ref m) t))) (fl : FilesAt H H' F ps (files6 (newDisk t s))) (hm : H' m = some (.ins A.Memory dm (mF t e 0 1 .non))) (mn : H m = none) : SesAt A H0 H' p (initializedWith t s) :=
  ⟨dx, F, ps, m, dm, e, kvs, .non, fun b o hb => k _ _ (s0 _ _ hb) (ne_of_none hb p0), p0, hp, fl.older s0.dom, hm, s0.free mn, k _ _ he (ne_of he hp0 fun z => nomatch z), e0, en, rfl⟩
def sp_Session_init (K : PySem.W.Frag) (A : Ad) : Sp := S1 fun x H Q => ∃ (H0 : Hp) (p dx : Addr), x = .ref p ∧ Same H0 H ∧ H0 p = none ∧ H p = some (.ins A.Session dx []) ∧ ∀ H' : Hp, SesAt A H0 H' p Vbwsai.start → Q .non H'
/-! recovery -/
def sp_Recovery_init (K : PySem.W.Frag) (A : Ad) : Sp := S4 fun x y z u H Q => ∃ (p dx m : Addr) (tc bc : Int), x = .ref p ∧ y = .ref m ∧ z = .int tc ∧ u = .int bc ∧ H p = some (.ins A.Recovery dx []) ∧ Q .non (upd H p (.ins A.Recovery dx (rF m tc bc)))
def sp_replayed_ticks (K : PySem.W.Frag) (A : Ad) : Sp := S2 fun x y H Q => ∃ (a : Addr) (d : Bytes) (t : Nat), x = .ref a ∧ y = .int (t : Int) ∧ H a = some (.lst (vb d)) ∧ Byt d ∧ d.length ≤ 1000000 ∧
  ∀ (H' : Hp) (p : Addr), Same H H' → H p = none → PairsAt H H' p (takeTicks t (vframes d)) → Q (.ref p) H'
def Small6 (d : Disk) : Prop := ∀ b ∈ files6 d, Byt b ∧ b.length ≤ 1000000
def RecAt (A : Ad) (H H' : Hp) (v : V) (sd n : Nat) (r : Nat × (Nat × (Store × Nat))) : Prop :=
  ∃ (x dx m dm e : Addr) (kvs : List (Key × V)), v = .ref x ∧ H' x = some (.ins A.Recovery dx (rF m (r.2.1 : Nat) (r.2.2.2 : Nat))) ∧ H' m = some (.ins A.Memory dm (mF ((r.1 + r.2.1 : Nat) : Int) e sd n .non)) ∧ H' e = some (.dK kvs) ∧ Ent kvs r.2.2.1 ∧ H m = none ∧ H e = none
def sp_recovered_side (K : PySem.W.Frag) (A : Ad) : Sp := S3 fun x y z H Q => ∃ (H0 : Hp) (F : Addr) (ps : List (Addr × Bytes)) (d : Disk) (sd n : Nat), x = .ref F ∧ y = .int (sd : Int) ∧ z = .int (n : Int) ∧ FilesAt H0 H F ps (files6 d) ∧ Wf d ∧ Small6 d ∧ sd ≤ 1 ∧
  ∀ (H' : Hp) (v : V), Same H H' → OptV (fun v r => RecAt A H H' v sd n r) v (readSide d sd) → Q v H'
def CommitsAt (H : Hp) (p : Addr) (xs : List (Nat × Nat)) : Prop := ∃ rs : List (Addr × (Nat × Nat)), H p = some (.lst (rs.map fun y => V.ref y.1)) ∧ rs.map (·.2) = xs ∧ ∀ y ∈ rs, H y.1 = some (.lst [.int (y.2.1 : Int), .int (y.2.2 : Int)]) ∧ Sm y.2.1 ∧ y.2.2 ≤ 1
def sp_commits_in_order (K : PySem.W.Frag) (A : Ad) : Sp := S1 fun x H Q => ∃ (H0 : Hp) (F : Addr) (ps : List (Addr × Bytes)) (d : Disk), x = .ref F ∧ FilesAt H0 H F ps (files6 d) ∧ Wf d ∧ Small6 d ∧
  ∀ (H' : Hp) (p : Addr), Same H H' → H p = none → CommitsAt H' p (validCommits d) → Q (.ref p) H'
def sp_recovered (K : PySem.W.Frag) (A : Ad) : Sp := S1 fun x H Q => ∃ (H0 : Hp) (F : Addr) (ps : List (Addr × Bytes)) (d : Disk), x = .ref F ∧ FilesAt H0 H F ps (files6 d) ∧ Wf d ∧ Small6 d ∧
  ∀ (H' : Hp) (v : V), Same H H' → OptV (fun v (r : (Nat × Nat) × (Nat × (Nat × (Store × Nat)))) => RecAt A H H' v r.1.2 r.1.1 r.2 ∧ r.1.2 ≤ 1 ∧ Sm r.1.1) v (recoverDisk d) → Q v H'
theorem takeTicks_get : ∀ (fs : List (List Int × Nat)) (t i : Nat) (x : List Int × Nat), (takeTicks t fs)[i]? = some x → ∃ cs, parseTickRow x.1 = some (t + i + 1, cs)
  | [], t, i, x, h => by simp [takeTicks] at h
  | (l, e) :: r, t, i, x, h => by
    have un : takeTicks t ((l, e) :: r) = (match parseTickRow l with
      | none => []
      | some (n, _) => if n ≠ t + 1 then [] else (l, e) :: takeTicks n r) := rfl
    rw [un] at h
    cases e5 : parseTickRow l with
    | none => rw [e5] at h; simp at h
    | some z =>
      obtain ⟨n, cs⟩ := z
      rw [e5] at h
      have h' : (if n ≠ t + 1 then [] else (l, e) :: takeTicks n r)[i]? = some x := h
      by_cases c : n ≠ t + 1
      · rw [if_pos c] at h'; simp at h'
      · rw [if_neg c] at h'
        have c' : n = t + 1 := by omega
        cases i with
        | zero =>
          obtain rfl : (l, e) = x := Option.some.inj h'
          exact ⟨cs, by rw [e5, c']⟩
        | succ i =>
          obtain ⟨cs2, q⟩ := takeTicks_get r n i x h'
          exact ⟨cs2, by rw [q, c']; simp; omega⟩
/-! operations -/
section
variable (A : Ad)
def SesG (H0 H : Hp) (p : Addr) (s : State) : Prop := SesAt A H0 H p s ∧ ∃ n, n ≤ 200 ∧ Good n s
end
def sp_reset (K : PySem.W.Frag) (A : Ad) : Sp := S1 fun x H Q => ∃ (H0 : Hp) (p : Addr) (s : State), x = .ref p ∧ SesG A H0 H p s ∧ OpQ A H0 p (Vbwsai.step s .reset) Q
def sp_writable_count (K : PySem.W.Frag) (A : Ad) : Sp := S2 fun x y H Q => ∃ (pw : Int) (k : Nat), x = .int pw ∧ y = .int (k : Int) ∧ -1 ≤ pw ∧ Q (.int ((if pw < 0 then k else min pw.toNat k : Nat) : Int)) H
def sp_written_journals (K : PySem.W.Frag) (A : Ad) : Sp := S1 fun x H Q => ∃ (m dm e : Addr) (t n : Int) (sd : Nat) (pd : V), x = .ref m ∧ H m = some (.ins A.Memory dm (mF t e sd n pd)) ∧ sd ≤ 1 ∧
  New H (vi (if pd = .non then [(2 : Int) + sd] else [(2 : Int) + sd, 2 + (1 - sd)])) Q
def sp_is_tick_list (K : PySem.W.Frag) (A : Ad) : Sp := S1 fun x H Q => ∃ (a : Addr) (l : List Int), x = .ref a ∧ H a = some (.lst (vi l)) ∧ l.length ≤ 1000000 ∧ Q (.bl (decide (l.length ≤ 48) && (parseChanges l).isSome)) H
def sp_tick (K : PySem.W.Frag) (A : Ad) : Sp := S3 fun x y z H Q => ∃ (H0 : Hp) (p : Addr) (s : State) (pw : Int) (a : Addr) (l : List Int), x = .ref p ∧ y = .int pw ∧ z = .ref a ∧ SesG A H0 H p s ∧ H a = some (.lst (vi l)) ∧ l.length ≤ 1000 ∧ H0 a = some (.lst (vi l)) ∧ OpQ A H0 p (Vbwsai.step s (.tick pw l)) Q
def sp_begin_checkpoint (K : PySem.W.Frag) (A : Ad) : Sp := S1 fun x H Q => ∃ (H0 : Hp) (p : Addr) (s : State), x = .ref p ∧ SesG A H0 H p s ∧ OpQ A H0 p (Vbwsai.step s .beginCheckpoint) Q
def sp_write_checkpoint (K : PySem.W.Frag) (A : Ad) : Sp := S2 fun x y H Q => ∃ (H0 : Hp) (p : Addr) (s : State) (k : Int), x = .ref p ∧ y = .int k ∧ SesG A H0 H p s ∧ OpQ A H0 p (Vbwsai.step s (.writeCheckpoint k)) Q
def sp_commit_checkpoint (K : PySem.W.Frag) (A : Ad) : Sp := S2 fun x y H Q => ∃ (H0 : Hp) (p : Addr) (s : State) (k : Int), x = .ref p ∧ y = .int k ∧ SesG A H0 H p s ∧ OpQ A H0 p (Vbwsai.step s (.commitCheckpoint k)) Q
def sp_cut_power (K : PySem.W.Frag) (A : Ad) : Sp := S1 fun x H Q => ∃ (H0 : Hp) (p : Addr) (s : State), x = .ref p ∧ SesG A H0 H p s ∧ OpQ A H0 p (Vbwsai.step s .cutPower) Q
def sp_recover (K : PySem.W.Frag) (A : Ad) : Sp := S1 fun x H Q => ∃ (H0 : Hp) (p : Addr) (s : State), x = .ref p ∧ SesG A H0 H p s ∧ OpQ A H0 p (Vbwsai.step s .recover) Q
def sp_get_value (K : PySem.W.Frag) (A : Ad) : Sp := S2 fun x y H Q => ∃ (H0 : Hp) (p : Addr) (s : State) (k : Int), x = .ref p ∧ y = .int k ∧ SesG A H0 H p s ∧ OpQ A H0 p (Vbwsai.step s (.get k)) Q
def sp_contents (K : PySem.W.Frag) (A : Ad) : Sp := S1 fun x H Q => ∃ (H0 : Hp) (p : Addr) (s : State), x = .ref p ∧ SesG A H0 H p s ∧ OpQ A H0 p (Vbwsai.step s .contents) Q
def sp_read_file (K : PySem.W.Frag) (A : Ad) : Sp := S2 fun x y H Q => ∃ (H0 : Hp) (p : Addr) (s : State) (k : Int), x = .ref p ∧ y = .int k ∧ SesG A H0 H p s ∧ OpQ A H0 p (Vbwsai.step s (.readFile k)) Q
def sp_corrupt_byte (K : PySem.W.Frag) (A : Ad) : Sp := S4 fun x y z u H Q => ∃ (H0 : Hp) (p : Addr) (s : State) (i j k : Int), x = .ref p ∧ y = .int i ∧ z = .int j ∧ u = .int k ∧ SesG A H0 H p s ∧ OpQ A H0 p (Vbwsai.step s (.corruptByte i j k)) Q
def sp_import_journal (K : PySem.W.Frag) (A : Ad) : Sp := S2 fun x y H Q => ∃ (H0 : Hp) (p : Addr) (s : State) (a : Addr) (d : Bytes), x = .ref p ∧ y = .ref a ∧ SesG A H0 H p s ∧ H a = some (.lst (vb d)) ∧ d.length ≤ 100000 ∧ Byt d ∧ OpQ A H0 p (Vbwsai.step s (.importJournal d)) Q
def sp_status (K : PySem.W.Frag) (A : Ad) : Sp := S1 fun x H Q => ∃ (H0 : Hp) (p : Addr) (s : State), x = .ref p ∧ SesG A H0 H p s ∧ OpQ A H0 p (Vbwsai.step s .status) Q
def sp_list_ticks (K : PySem.W.Frag) (A : Ad) : Sp := S1 fun x H Q => ∃ (H0 : Hp) (p : Addr) (s : State), x = .ref p ∧ SesG A H0 H p s ∧ OpQ A H0 p (Vbwsai.step s .listTicks) Q
def sp_count_frames (K : PySem.W.Frag) (A : Ad) : Sp := S1 fun x H Q => ∃ (a : Addr) (d : Bytes), x = .ref a ∧ H a = some (.lst (vb d)) ∧ d.length ≤ 100000 ∧ Byt d ∧ New H (vi [0, (readFrames d).1.length, (readFrames d).2]) Q
def sp_show_checksum (K : PySem.W.Frag) (A : Ad) : Sp := S1 fun x H Q => ∃ (a : Addr) (d : Bytes), x = .ref a ∧ H a = some (.lst (vb d)) ∧ d.length ≤ 100000 ∧ New H (vi [0, (checksum d : Nat)]) Q
def sp_show_frame (K : PySem.W.Frag) (A : Ad) : Sp := S1 fun x H Q => ∃ (a : Addr) (l : List Int), x = .ref a ∧ H a = some (.lst (vi l)) ∧ l.length ≤ 1000 ∧ (∀ z ∈ l, Sm z) ∧ New H (vi (if 40 < l.length then [-1] else 0 :: toInts (encodeFrame l))) Q
def sp_preview_import (K : PySem.W.Frag) (A : Ad) : Sp := S1 fun x H Q => ∃ (a : Addr) (d : Bytes), x = .ref a ∧ H a = some (.lst (vb d)) ∧ d.length ≤ 100000 ∧ Byt d ∧ New H (vi (match importText d with
  | .error n => [0, 0, (n : Int)]
  | .ok (t, w) => [0, 1, (t : Int)] ++ flatS w)) Q
end TS
namespace TS
open PySem PySem.Spec PyProof.Rows L2 Vbwsai
theorem ses_ins {A : Ad} {H0 H : Hp} {p : Addr} {s : State} (h : SesAt A H0 H p s) : ∃ dx F mv d, H p = some (.ins A.Session dx (sF F mv d)) ∧ Same H0 H ∧ H0 p = none := by
  unfold SesAt at h
  split at h
  · obtain ⟨dx, F, ps, m, dm, e, kvs, pd, h⟩ := h
    exact ⟨dx, F, _, _, h.hx, h.s0, h.x0⟩
  · obtain ⟨dx, F, ps, h⟩ := h
    exact ⟨dx, F, _, _, h.hx, h.s0, h.x0⟩
theorem ses_same {A : Ad} {H0 H H' : Hp} {p : Addr} {s : State} (h : SesAt A H0 H p s) (k : Same H H') : SesAt A H0 H' p s := by
  unfold SesAt at h ⊢
  split at h
  · obtain ⟨dx, F, ps, m, dm, e, kvs, pd, h⟩ := h
    exact ⟨dx, F, ps, m, dm, e, kvs, pd, h.same k⟩
  · obtain ⟨dx, F, ps, h⟩ := h
    exact ⟨dx, F, ps, h.same k⟩
theorem inj_of {α : Type} {ps : List (Addr × α)} (h : (ps.map (·.1)).Nodup) : ∀ (i j : Nat) (y z : Addr × α), ps[i]? = some y → ps[j]? = some z → y.1 = z.1 → i = j := by
  intro i j y z hi hj e
  have hl := lt_of_get hi
  refine (List.getElem?_inj (l := ps.map (·.1)) (by rw [List.length_map]; exact hl) h).mp ?_
  rw [List.getElem?_map, List.getElem?_map, hi, hj]
  exact congrArg some e
end TS
namespace TS
open PySem PySem.Spec PyProof.Rows L2 Vbwsai
theorem frefs_inv {ts : List Addr} {i : Nat} {v : V} (h : (ts.map V.ref)[i]? = some v) : ∃ t, ts[i]? = some t ∧ v = V.ref t := by
  rw [List.getElem?_map] at h
  cases e : ts[i]? with
  | none => rw [e] at h; exact nomatch h
  | some y => rw [e] at h; exact ⟨y, rfl, (Option.some.inj h).symm⟩
theorem get_len {α β : Type} {l : List α} {r : List β} {i : Nat} {x : α} (h : l.length = r.length) (e : l[i]? = some x) : ∃ y, r[i]? = some y := by
  have h1 := lt_of_get e
  exact ⟨r[i]'(by omega), List.getElem?_eq_getElem (by omega)⟩
theorem vframes_sm {d : Bytes} (hb : Byt d) {i : Nat} {x : List Int × Nat} (h : (vframes d)[i]? = some x) : (∀ z ∈ x.1, Sm z) ∧ x.1.length ≤ d.length := by
  obtain ⟨a, b, _⟩ := frames_sm hb (d.length + 1) 0 (Nat.zero_le _) x (List.mem_of_getElem? h)
  exact ⟨a, b⟩
theorem vframes_len {d : Bytes} (hb : Byt d) : (vframes d).length ≤ d.length := by
  have := (frames_len hb (d.length + 1) 0 (Nat.zero_le _)).1
  exact this
theorem take_ticks_pre : ∀ (fs : List (List Int × Nat)) (t : Nat), ∃ k, takeTicks t fs = fs.take k
  | [], t => ⟨0, rfl⟩
  | (l, e) :: r, t => by
    have un : takeTicks t ((l, e) :: r) = (match parseTickRow l with
      | none => []
      | some (n, _) => if n ≠ t + 1 then [] else (l, e) :: takeTicks n r) := rfl
    rw [un]
    cases parseTickRow l with
    | none => exact ⟨0, rfl⟩
    | some z =>
      obtain ⟨n, cs⟩ := z
      by_cases c : n ≠ t + 1
      · exact ⟨0, if_pos c⟩
      · obtain ⟨k, hk⟩ := take_ticks_pre r n
        refine ⟨k + 1, ?_⟩
        show (if n ≠ t + 1 then [] else (l, e) :: takeTicks n r) = _
        rw [if_neg c, hk]
        rfl
theorem lastE_snoc : ∀ (l : List (List Int × Nat)) (s : Nat) (x : List Int × Nat), lastE s (l ++ [x]) = x.2
  | [], _, _ => rfl
  | y :: l, s, x => lastE_snoc l y.2 x
theorem parseCk_cons {l : List Int} {t : Nat} {s : Store} (h : parseCheckpointRow l = some (t, s)) : ∃ r, l = (t : Int) :: r ∧ StOk s := by
  cases l with
  | nil => exact nomatch h
  | cons t0 r =>
    have h6 : (if t0 < 0 then none else (parseEntries 0 r).map fun s => (t0.toNat, s)) = some (t, s) := h
    split at h6
    · exact nomatch h6
    · cases h7 : parseEntries 0 r with
      | none => rw [h7] at h6; exact nomatch h6
      | some s1 =>
        rw [h7] at h6
        obtain ⟨h8, h9⟩ := Prod.mk.inj (Option.some.inj h6)
        refine ⟨r, by rw [← h8, show ((t0.toNat : Nat) : Int) = t0 by omega], ?_⟩
        rw [← h9]; exact (entries_ok h7).1
end TS
namespace TS
open PySem PySem.Spec PyProof.Rows L2 Vbwsai
theorem same_add {H0 H H' : Hp} {b : Addr} {o : HO} (s : Same H0 H) (k : Same H H') (hb : H' b = some o) : Same (upd H0 b o) H' := fun c u e => by
  by_cases z : c = b
  · rw [z, upd_same] at e
    rw [z, hb]; exact e
  · rw [upd_ne z] at e
    exact k _ _ (s _ _ e)
theorem none_add {H0 H : Hp} {b c : Addr} {o u : HO} (h : H0 c = none) (hc : H c = some u) (hb : H b = none) : upd H0 b o c = none := by
  rw [upd_ne (ne_of_none hc hb)]; exact h
theorem FilesAt.add {H0 H H' : Hp} {F b : Addr} {ps : List (Addr × Bytes)} {bs : List Bytes} {o : HO} (f : FilesAt H0 H F ps bs) (k : Same H H') (hb : H b = none) : FilesAt (upd H0 b o) H' F ps bs :=
  ⟨k _ _ f.hF, none_add f.F0 f.hF hb, f.inj, f.bs_, fun i y h => by
    obtain ⟨h1, h2, h3⟩ := f.at_ i y h
    exact ⟨k _ _ h1, none_add h2 h1 hb, h3⟩⟩
theorem FilesAt.chg {H0 H : Hp} {F b : Addr} {ps : List (Addr × Bytes)} {bs : List Bytes} {o u : HO} (f : FilesAt H0 H F ps bs) (hb : H0 b = some u) : FilesAt (upd H0 b o) (upd H b o) F ps bs :=
  ⟨by rw [upd_ne (ne_of_none hb f.F0).symm]; exact f.hF, by rw [upd_ne (ne_of_none hb f.F0).symm]; exact f.F0, f.inj, f.bs_, fun i y h => by
    obtain ⟨h1, h2, h3⟩ := f.at_ i y h
    have n := (ne_of_none hb h2).symm
    exact ⟨by rw [upd_ne n]; exact h1, by rw [upd_ne n]; exact h2, h3⟩⟩
section
variable {A : Ad} {H0 H1 H H' : Hp} {x dx F m dm e b : Addr} {ps : List (Addr × Bytes)} {kvs : List (Key × V)} {pd : V} {bs : List Bytes} {t sd n dur : Nat} {c : Store} {po : Option Bytes} {o u : HO}
theorem PendAt.add (h : PendAt H0 H F ps pd po) (k : Same H H') (hb : H b = none) : PendAt (upd H0 b o) H' F ps pd po := by
  cases po with
  | none => exact h
  | some y =>
    obtain ⟨p, h1, h2, h3, h4⟩ := h
    exact ⟨p, h1, k _ _ h2, none_add h3 h2 hb, h4⟩
theorem PendAt.older (h : PendAt H1 H F ps pd po) (d : Dom H0 H1) : PendAt H0 H F ps pd po := by
  cases po with
  | none => exact h
  | some y =>
    obtain ⟨p, h1, h2, h3, h4⟩ := h
    exact ⟨p, h1, h2, d _ h3, h4⟩
theorem PendAt.chg (h : PendAt H0 H F ps pd po) (hb : H0 b = some u) : PendAt (upd H0 b o) (upd H b o) F ps pd po := by
  cases po with
  | none => exact h
  | some y =>
    obtain ⟨p, h1, h2, h3, h4⟩ := h
    have n := (ne_of_none hb h3).symm
    exact ⟨p, h1, by rw [upd_ne n]; exact h2, by rw [upd_ne n]; exact h3, h4⟩
theorem Pow.add (h : Pow A H0 H x dx F ps m dm e kvs pd bs t c sd n po dur) (k : Same H H') (hb : H b = none) (hb' : H' b = some o) : Pow A (upd H0 b o) H' x dx F ps m dm e kvs pd bs t c sd n po dur :=
  ⟨same_add h.s0 k hb', none_add h.x0 h.hx hb, k _ _ h.hx, h.fl.add k hb, k _ _ h.hm, none_add h.m0 h.hm hb, k _ _ h.he, none_add h.e0 h.he hb, h.en, h.pn.add k hb⟩
theorem Off.add (h : Off A H0 H x dx F ps bs dur) (k : Same H H') (hb : H b = none) (hb' : H' b = some o) : Off A (upd H0 b o) H' x dx F ps bs dur :=
  ⟨same_add h.s0 k hb', none_add h.x0 h.hx hb, k _ _ h.hx, h.fl.add k hb⟩
theorem Pow.older (h : Pow A H1 H x dx F ps m dm e kvs pd bs t c sd n po dur) (s : Same H0 H1) : Pow A H0 H x dx F ps m dm e kvs pd bs t c sd n po dur :=
  ⟨s.trans h.s0, s.free h.x0, h.hx, h.fl.older s.dom, h.hm, s.free h.m0, h.he, s.free h.e0, h.en, h.pn.older s.dom⟩
theorem Off.older (h : Off A H1 H x dx F ps bs dur) (s : Same H0 H1) : Off A H0 H x dx F ps bs dur := ⟨s.trans h.s0, s.free h.x0, h.hx, h.fl.older s.dom⟩
theorem same_chg (s : Same H0 H) : Same (upd H0 b o) (upd H b o) := fun c u e => by
  by_cases z : c = b
  · rw [z, upd_same] at e ⊢; exact e
  · rw [upd_ne z] at e ⊢; exact s _ _ e
theorem Pow.chg (h : Pow A H0 H x dx F ps m dm e kvs pd bs t c sd n po dur) (hb : H0 b = some u) : Pow A (upd H0 b o) (upd H b o) x dx F ps m dm e kvs pd bs t c sd n po dur := by
  have nx := (ne_of_none hb h.x0).symm
  have nm := (ne_of_none hb h.m0).symm
  have ne := (ne_of_none hb h.e0).symm
  exact ⟨same_chg h.s0, by rw [upd_ne nx]; exact h.x0, by rw [upd_ne nx]; exact h.hx, h.fl.chg hb, by rw [upd_ne nm]; exact h.hm, by rw [upd_ne nm]; exact h.m0, by rw [upd_ne ne]; exact h.he, by rw [upd_ne ne]; exact h.e0, h.en, h.pn.chg hb⟩
theorem Off.chg (h : Off A H0 H x dx F ps bs dur) (hb : H0 b = some u) : Off A (upd H0 b o) (upd H b o) x dx F ps bs dur := by
  have nx := (ne_of_none hb h.x0).symm
  exact ⟨same_chg h.s0, by rw [upd_ne nx]; exact h.x0, by rw [upd_ne nx]; exact h.hx, h.fl.chg hb⟩
end
section
variable {A : Ad} {H0 H1 H H' : Hp} {p b : Addr} {s : State} {o u : HO}
theorem ses_on (h : SesAt A H0 H p s) (hp : s.powered = true) : ∃ (dx F : Addr) (ps : List (Addr × Bytes)) (m dm e : Addr) (kvs : List (Key × V)) (pd : V), Pow A H0 H p dx F ps m dm e kvs pd (files6 s.disk) s.tick s.contents s.side s.commitNumber (if s.checkpointing = true then some s.pending else none) s.durableTick := by
  unfold SesAt at h
  rw [hp] at h
  exact h
theorem ses_off (h : SesAt A H0 H p s) (hp : s.powered = false) : ∃ (dx F : Addr) (ps : List (Addr × Bytes)), Off A H0 H p dx F ps (files6 s.disk) s.durableTick := by
  unfold SesAt at h
  rw [hp] at h
  exact h
theorem mk_on {dx F m dm e : Addr} {ps : List (Addr × Bytes)} {kvs : List (Key × V)} {pd : V} (hp : s.powered = true) (h : Pow A H0 H p dx F ps m dm e kvs pd (files6 s.disk) s.tick s.contents s.side s.commitNumber (if s.checkpointing = true then some s.pending else none) s.durableTick) : SesAt A H0 H p s := by
  unfold SesAt
  rw [hp]
  exact ⟨dx, F, ps, m, dm, e, kvs, pd, h⟩
theorem mk_off {dx F : Addr} {ps : List (Addr × Bytes)} (hp : s.powered = false) (h : Off A H0 H p dx F ps (files6 s.disk) s.durableTick) : SesAt A H0 H p s := by
  unfold SesAt
  rw [hp]
  exact ⟨dx, F, ps, h⟩
theorem ses_add (h : SesAt A H0 H p s) (k : Same H H') (hb : H b = none) (hb' : H' b = some o) : SesAt A (upd H0 b o) H' p s := by
  cases hp : s.powered with
  | true =>
    obtain ⟨dx, F, ps, m, dm, e, kvs, pd, g⟩ := ses_on h hp
    exact mk_on hp (g.add k hb hb')
  | false =>
    obtain ⟨dx, F, ps, g⟩ := ses_off h hp
    exact mk_off hp (g.add k hb hb')
theorem ses_older (h : SesAt A H1 H p s) (k : Same H0 H1) : SesAt A H0 H p s := by
  cases hp : s.powered with
  | true =>
    obtain ⟨dx, F, ps, m, dm, e, kvs, pd, g⟩ := ses_on h hp
    exact mk_on hp (g.older k)
  | false =>
    obtain ⟨dx, F, ps, g⟩ := ses_off h hp
    exact mk_off hp (g.older k)
theorem ses_chg (h : SesAt A H0 H p s) (hb : H0 b = some u) : SesAt A (upd H0 b o) (upd H b o) p s := by
  cases hp : s.powered with
  | true =>
    obtain ⟨dx, F, ps, m, dm, e, kvs, pd, g⟩ := ses_on h hp
    exact mk_on hp (g.chg hb)
  | false =>
    obtain ⟨dx, F, ps, g⟩ := ses_off h hp
    exact mk_off hp (g.chg hb)
theorem ses_s0 (h : SesAt A H0 H p s) : Same H0 H := by
  obtain ⟨_, _, _, _, _, k, _⟩ := ses_ins h
  exact k
/-- an answer is handed back -/
theorem ans {Q : VK} {l : List Int} (hs : SesAt A H0 H p s) (hq : OpQ A H0 p (s, l) Q) : ∀ q, H q = none → Q (.ref q) (upd H q (.lst (vi l))) := fun q hn =>
  hq _ q (ses_same hs (same_upd hn)) upd_same ((ses_s0 hs).free hn)
end
/-! a tick is appended -/
def appendAll : List Nat → Bytes → Nat → List Bytes → List Bytes
  | [], _, _, bs => bs
  | j :: js, w, k, bs => appendAll js w (k - (w.take k).length) (bs.set j ((bs[j]?.getD []) ++ w.take k))
def sp_append_to_journals (K : PySem.W.Frag) (A : Ad) : Sp := S4 fun x y z u H Q => ∃ (H0 : Hp) (p dx F : Addr) (ps : List (Addr × Bytes)) (m dm e : Addr) (kvs : List (Key × V)) (pd : V) (bs : List Bytes) (t : Nat) (c : Store) (sd n : Nat) (po : Option Bytes) (dur : Nat)
    (J D : Addr) (js : List Nat) (w : Bytes) (k : Nat), x = .ref F ∧ y = .ref J ∧ z = .ref D ∧ u = .int (k : Int) ∧ Pow A H0 H p dx F ps m dm e kvs pd bs t c sd n po dur ∧ H0 J = some (.lst (vb js)) ∧ H0 D = some (.lst (vb w)) ∧
    (∀ j ∈ js, j < bs.length) ∧ js.length ≤ 2 ∧ w.length ≤ 2000 ∧ (∀ b ∈ bs, b.length ≤ 600000) ∧
    ∀ (H' : Hp) (ps' : List (Addr × Bytes)), Pow A H0 H' p dx F ps' m dm e kvs pd (appendAll js w k bs) t c sd n po dur → Q .non H'
theorem appendAll_snoc : ∀ (js : List Nat) (j : Nat) (w : Bytes) (k : Nat) (bs : List Bytes), ∃ l, appendAll (js ++ [j]) w k bs = (appendAll js w k bs).set j (((appendAll js w k bs)[j]?.getD []) ++ w.take l)
  | [], j, w, k, bs => ⟨k, rfl⟩
  | i :: js, j, w, k, bs => by
    obtain ⟨l, h⟩ := appendAll_snoc js j w (k - (w.take k).length) (bs.set i ((bs[i]?.getD []) ++ w.take k))
    exact ⟨l, h⟩
end TS
namespace TS
open PySem PySem.Spec PyProof.Rows L2 Vbwsai
theorem ixN_nat {n i : Nat} {j : Int} (e : j = (i : Int)) (h : i < n) : ixN n j = some i := by
  unfold ixN
  rw [e, if_pos (by omega), if_pos (by omega), Int.toNat_natCast]
theorem recover_le {d : Disk} {m : Nat × Nat} {r : Nat × (Nat × (Store × Nat))} (h6 : Small6 d) (hw : Wf d) (hm : m.2 ≤ 1) (h : recoverDisk d = some (m, r)) : r.2.2.2 ≤ (journalFile d m.2).length := by
  unfold recoverDisk at h
  obtain ⟨a, _, h2⟩ := List.exists_of_findSome?_eq_some h
  cases e : readSide d a.2 with
  | none => rw [e] at h2; exact nomatch h2
  | some x =>
    rw [e] at h2
    have h3 : (a, x) = (m, r) := Option.some.inj h2
    obtain ⟨rfl, rfl⟩ := Prod.mk.inj h3
    unfold readSide at e
    split at e
    · exact nomatch e
    · obtain rfl := Option.some.inj e
      have jb := (h6 _ (List.mem_of_getElem? (j_get hw hm))).1
      rename_i t s0 _
      obtain ⟨rp, rpl⟩ := replay_eq jb t s0
      show (replay t s0 (journalFile d a.2)).2.2 ≤ _
      rw [rp]
      exact rpl
theorem Good.small {n : Nat} {s : State} (h : Good n s) (hn : n ≤ 200) : Small6 s.disk := fun b hb => by
  obtain ⟨h1, h2⟩ := h.byt b hb
  exact ⟨h1, by omega⟩
end TS
namespace TS
open PySem PySem.Spec PyProof.Rows L2 Vbwsai
theorem inr_no {k a b : Int} (h : ¬ (a ≤ k ∧ k ≤ b)) : inRange k a b = false := decide_eq_false h
theorem inr_yes {k a b : Int} (h : a ≤ k ∧ k ≤ b) : ¬ inRange k a b = false := by
  have e : inRange k a b = true := decide_eq_true h
  rw [e]
  exact fun z => nomatch z
end TS
namespace TS
open PySem PySem.Spec PyProof.Rows L2 Vbwsai
theorem vi_toInts (l : Bytes) : vi (toInts l) = vb l := by
  unfold toInts
  show List.map V.int (List.map (fun (n : Nat) => (n : Int)) l) = _
  rw [List.map_map]
  rfl
end TS
namespace TS
open PySem PySem.Spec PyProof.Rows L2 Vbwsai
def jsOf (s : State) : List Nat := if s.checkpointing = true then [2 + s.side, 2 + (1 - s.side)] else [2 + s.side]
theorem bytes_eq (s : State) (w : Bytes) : bytesToWrite s w = w.length * (jsOf s).length := by
  unfold bytesToWrite jsOf
  split
  · show 2 * w.length = w.length * 2
    omega
  · show w.length = w.length * 1
    omega
theorem awp_take (b w : Bytes) (pw : Int) (k : Nat) (h1 : pw < 0 → w.length ≤ k) (h2 : 0 ≤ pw → min pw.toNat w.length = min k w.length) : appendWithPower b w pw = b ++ w.take k := by
  unfold appendWithPower
  split
  · rename_i c
    rw [List.take_of_length_le (h1 c)]
  · rename_i c
    have := h2 (by omega)
    congr 1
    by_cases c1 : k ≤ w.length
    · by_cases c2 : pw.toNat ≤ w.length
      · rw [show pw.toNat = k by omega]
      · rw [List.take_of_length_le (by omega), List.take_of_length_le (by omega)]
    · rw [List.take_of_length_le (by omega), List.take_of_length_le (l := w) (i := k) (by omega)]
theorem tick_disk {s : State} (hw : Wf s.disk) (hsd : s.side ≤ 1) (w : Bytes) (pw : Int) (hpw : -1 ≤ pw) :
    files6 (writeTick s w pw) = appendAll (jsOf s) w (if pw < 0 then bytesToWrite s w else min pw.toNat (bytesToWrite s w)) (files6 s.disk) ∧ Wf (writeTick s w pw) := by
  generalize hk : (if pw < 0 then bytesToWrite s w else min pw.toNat (bytesToWrite s w)) = k
  have hbw : w.length ≤ bytesToWrite s w := by unfold bytesToWrite; split <;> omega
  have e1 : ∀ b, appendWithPower b w pw = b ++ w.take k := fun b => awp_take b w pw k (fun c => by rw [if_pos c] at hk; omega) (fun c => by rw [if_neg (by omega)] at hk; omega)
  obtain ⟨d1e, d1w⟩ := j_set hw hsd (journalFile s.disk s.side ++ w.take k)
  have g1 := j_get hw hsd
  unfold writeTick jsOf
  cases hc : s.checkpointing with
  | false =>
    rw [if_neg (fun z => nomatch z), if_neg (fun z => nomatch z)]
    dsimp only
    rw [e1, d1e]
    refine ⟨?_, d1w⟩
    show _ = (files6 s.disk).set (2 + s.side) (((files6 s.disk)[2 + s.side]?.getD []) ++ w.take k)
    rw [g1]; rfl
  | true =>
    rw [if_pos rfl, if_pos rfl]
    have hbw2 : bytesToWrite s w = 2 * w.length := by unfold bytesToWrite; rw [hc, if_pos rfl]
    dsimp only
    rw [e1]
    have hsd' : 1 - s.side ≤ 1 := by omega
    have e2 : ∀ b, appendWithPower b w (if pw < 0 then -1 else max 0 (pw - (w.length : Int))) = b ++ w.take (k - (w.take k).length) := fun b => by
      have hl : (w.take k).length = min k w.length := List.length_take
      refine awp_take b w _ _ (fun c => ?_) (fun c => ?_)
      · by_cases c2 : pw < 0
        · rw [if_pos c2] at hk; omega
        · rw [if_neg c2] at c; omega
      · by_cases c2 : pw < 0
        · rw [if_pos c2] at c; omega
        · rw [if_neg c2] at hk c ⊢
          omega
    obtain ⟨d2e, d2w⟩ := j_set d1w hsd' (journalFile { s.disk with journals := setElement s.disk.journals s.side (journalFile s.disk s.side ++ w.take k) } (1 - s.side) ++ w.take (k - (w.take k).length))
    have g2 := j_get d1w hsd'
    refine ⟨?_, by rw [e2]; exact d2w⟩
    rw [e2]
    refine d2e.trans ?_
    show _ = ((files6 s.disk).set (2 + s.side) (((files6 s.disk)[2 + s.side]?.getD []) ++ w.take k)).set (2 + (1 - s.side)) ((((files6 s.disk).set (2 + s.side) (((files6 s.disk)[2 + s.side]?.getD []) ++ w.take k))[2 + (1 - s.side)]?.getD []) ++ w.take (k - (w.take k).length))
    have g1' : ((files6 s.disk)[2 + s.side]?.getD []) = journalFile s.disk s.side := by rw [g1]; rfl
    rw [g1', ← d1e, g2]
    rfl
theorem step_tick (s : State) (pw : Int) (l : List Int) : Vbwsai.step s (.tick pw l) = (if inRange pw (-1) 100000 = false then Vbwsai.fail s 1 else match parseChanges l with
    | none => Vbwsai.fail s 1
    | some cs => if 16 < cs.length then Vbwsai.fail s 1 else if s.powered = false then Vbwsai.fail s 7 else if 1000000000000000000 < (s.tick : Int) + 1 then Vbwsai.fail s 5 else
      if pw < 0 ∨ (bytesToWrite s (encodeFrame (tickRow (s.tick + 1) cs)) : Int) ≤ pw then
        Vbwsai.succeed { s with disk := writeTick s (encodeFrame (tickRow (s.tick + 1) cs)) pw, tick := s.tick + 1, contents := applyChanges s.contents cs, durableTick := s.tick + 1 } [(s.tick : Int) + 1, (bytesToWrite s (encodeFrame (tickRow (s.tick + 1) cs)) : Int)]
      else Vbwsai.succeed (powerDown s (writeTick s (encodeFrame (tickRow (s.tick + 1) cs)) pw)) [-1, (bytesToWrite s (encodeFrame (tickRow (s.tick + 1) cs)) : Int)]) := rfl
end TS
namespace TS
open PySem PySem.Spec PyProof.Rows L2 Vbwsai
/-! bounds are kept -/
theorem gset {N : Nat} {bs : List Bytes} {i : Nat} {x : Bytes} (h : ∀ b ∈ bs, Byt b ∧ b.length ≤ N) (hx : Byt x ∧ x.length ≤ N) : ∀ b ∈ bs.set i x, Byt b ∧ b.length ≤ N := fun b hb => by
  rcases List.mem_or_eq_of_mem_set hb with z | z
  · exact h b z
  · rw [z]; exact hx
theorem gmono {N M : Nat} {bs : List Bytes} (h : ∀ b ∈ bs, Byt b ∧ b.length ≤ N) (k : N ≤ M) : ∀ b ∈ bs, Byt b ∧ b.length ≤ M := fun b hb => ⟨(h b hb).1, Nat.le_trans (h b hb).2 k⟩
theorem of6 {P : Bytes → Prop} {xs ys : List Bytes} (e : xs = ys) (h : ∀ b ∈ ys, P b) : ∀ b ∈ xs, P b := by rw [e]; exact h
theorem append_ok : ∀ (js : List Nat) (w : Bytes) (k : Nat) (bs : List Bytes) (N : Nat), (∀ b ∈ bs, Byt b ∧ b.length ≤ N) → Byt w → w.length ≤ 600 → ∀ b ∈ appendAll js w k bs, Byt b ∧ b.length ≤ N + 600 * js.length
  | [], w, k, bs, N, h, _, _ => h
  | j :: js, w, k, bs, N, h, hw, hl => by
    have hx : Byt ((bs[j]?.getD []) ++ w.take k) ∧ ((bs[j]?.getD []) ++ w.take k).length ≤ N + 600 := by
      have ht := List.length_take_le' k w
      cases e : bs[j]? with
      | none => exact ⟨Byt.app Byt.nil (hw.take k), by simp; omega⟩
      | some b =>
        obtain ⟨h1, h2⟩ := h b (List.mem_of_getElem? e)
        exact ⟨h1.app (hw.take k), by rw [List.length_append]; show b.length + _ ≤ _; omega⟩
    have := append_ok js w (k - (w.take k).length) (bs.set j ((bs[j]?.getD []) ++ w.take k)) (N + 600) (gset (gmono h (by omega)) hx) hw hl
    refine gmono this ?_
    simp; omega
theorem good_init {n t : Nat} {s : Store} (ht : Sm t) (hs : StOk s) : Good n (initializedWith t s) := by
  have h1 := frame_len_le (checkpointRow t s)
  have h2 := frame_len_le (commitRow 1 0)
  have h3 := hs.len
  have h4 : (checkpointRow t s).length ≤ 129 := by rw [ckRow_eq, List.length_cons, flatS_len]; omega
  have h5 : (commitRow 1 0).length = 2 := rfl
  refine ⟨⟨rfl, rfl, rfl⟩, fun b hb => ?_, ⟨Byt.nil, Nat.zero_le _⟩, ht, ?_, Nat.zero_le _, hs, (fun z => nomatch z), fun _ => rfl⟩
  · have hb' : b ∈ [encodeFrame (checkpointRow t s), [], [], [], [], encodeFrame (commitRow 1 0)] := hb
    simp only [List.mem_cons, List.not_mem_nil, or_false] at hb'
    rcases hb' with z | z | z | z | z | z <;> rw [z]
    · exact ⟨frame_byt _, by omega⟩
    · exact ⟨Byt.nil, Nat.zero_le _⟩
    · exact ⟨Byt.nil, Nat.zero_le _⟩
    · exact ⟨Byt.nil, Nat.zero_le _⟩
    · exact ⟨Byt.nil, Nat.zero_le _⟩
    · exact ⟨frame_byt _, by omega⟩
  · show Sm ((1 : Nat) : Int)
    unfold Sm; omega
theorem Good.up {n : Nat} {s : State} (h : Good n s) : Good (n + 1) s := ⟨h.wf, gmono h.byt (by omega), h.pby, h.tk, h.cn, h.sd, h.st, h.off, h.nch⟩
theorem good_down {n : Nat} {s : State} {d : Disk} (hw : Wf d) (hb : ∀ b ∈ files6 d, Byt b ∧ b.length ≤ 2000 * (n + 1)) : Good n (powerDown s d) :=
  ⟨hw, hb, ⟨Byt.nil, Nat.zero_le _⟩, by show Sm ((0 : Nat) : Int); unfold Sm; omega, by show Sm ((0 : Nat) : Int); unfold Sm; omega, Nat.zero_le _, StOk.nil, fun _ => ⟨rfl, rfl, rfl, rfl⟩, fun _ => rfl⟩
theorem foldl_after_ok : ∀ (ts : List (List Int × Nat)) (s : Store), StOk s → StOk (ts.foldl after s)
  | [], s, h => h
  | x :: ts, s, h => by
    refine foldl_after_ok ts (after s x) ?_
    unfold after
    split
    · exact h
    · rename_i n cs e
      obtain ⟨r, _, hcs, _⟩ := parseTick_cons e
      exact h.changes (parse_len hcs).2
theorem recover_ok {d : Disk} {m : Nat × Nat} {t n : Nat} {w : Store} {k : Nat} (h6 : Small6 d) (hw : Wf d) (h : recoverDisk d = some (m, t, n, w, k)) : m.2 ≤ 1 ∧ Sm m.1 ∧ Sm ((t + n : Nat) : Int) ∧ StOk w := by
  unfold recoverDisk at h
  obtain ⟨a, ha, h2⟩ := List.exists_of_findSome?_eq_some h
  have hcm : a.2 ≤ 1 ∧ Sm a.1 := by
    have rc : ∀ i, i ≤ 1 → ∀ y, readCommit (commitFile d i) = some y → y.2 ≤ 1 ∧ Sm y.1 := fun i hi y hy => by
      rw [readCommit_eq] at hy
      cases e : onlyRow (commitFile d i) with
      | none => rw [e] at hy; exact nomatch hy
      | some l =>
        rw [e] at hy
        have hy' : commitOf l = some y := hy
        obtain ⟨hsm, _⟩ := onlyRow_sm (h6 _ (List.mem_of_getElem? (m_get hw hi))).1 e
        match l, hy', hsm with
        | [], hy, _ => exact nomatch hy
        | [_], hy, _ => exact nomatch hy
        | _ :: _ :: _ :: _, hy, _ => exact nomatch hy
        | [n0, s0], hy, hsm =>
          have e0 : (if n0 < 1 ∨ s0 < 0 ∨ 1 < s0 then none else some (n0.toNat, s0.toNat)) = some y := hy
          by_cases c : n0 < 1 ∨ s0 < 0 ∨ 1 < s0
          · rw [if_pos c] at e0; exact nomatch e0
          · rw [if_neg c] at e0
            obtain rfl := Option.some.inj e0
            refine ⟨by show s0.toNat ≤ 1; omega, ?_⟩
            show Sm ((n0.toNat : Nat) : Int)
            rw [show ((n0.toNat : Nat) : Int) = n0 by omega]
            exact hsm n0 (by simp)
    unfold validCommits at ha
    split at ha
    · rename_i x y e1 e2
      split at ha <;> simp at ha <;> rcases ha with z | z <;> rw [z]
      · exact rc 1 (by decide) _ e2
      · exact rc 0 (by decide) _ e1
      · exact rc 0 (by decide) _ e1
      · exact rc 1 (by decide) _ e2
    · rename_i x e1 _
      simp at ha
      rw [ha]; exact rc 0 (by decide) _ e1
    · rename_i x _ e2
      simp at ha
      rw [ha]; exact rc 1 (by decide) _ e2
    · simp at ha
  cases e : readSide d a.2 with
  | none => rw [e] at h2; exact nomatch h2
  | some x =>
    rw [e] at h2
    have h3 : (a, x) = (m, (t, n, w, k)) := Option.some.inj h2
    obtain ⟨rfl, rfl⟩ := Prod.mk.inj h3
    refine ⟨hcm.1, hcm.2, ?_⟩
    unfold readSide at e
    split at e
    · exact nomatch e
    · rename_i t0 s0 e5
      have jb := (h6 _ (List.mem_of_getElem? (j_get hw hcm.1))).1
      have e6 := Option.some.inj e
      obtain ⟨rfl, e7⟩ := Prod.mk.inj e6
      obtain ⟨rp, _⟩ := replay_eq jb t0 s0
      rw [rp] at e7
      obtain ⟨e8, e9⟩ := Prod.mk.inj e7
      obtain ⟨e10, _⟩ := Prod.mk.inj e9
      rw [readCheckpoint_eq] at e5
      cases e11 : onlyRow (checkpointFile d a.2) with
      | none => rw [e11] at e5; exact nomatch e5
      | some l =>
        rw [e11] at e5
        have e5' : parseCheckpointRow l = some (t0, s0) := e5
        obtain ⟨hsm, _⟩ := onlyRow_sm (h6 _ (List.mem_of_getElem? (ck_get hw hcm.1))).1 e11
        obtain ⟨rest, hl, hst⟩ := parseCk_cons e5'
        refine ⟨?_, by rw [← e10]; exact foldl_after_ok _ _ hst⟩
        rw [← e8]
        generalize htk : takeTicks t0 (vframes (journalFile d a.2)) = tk at *
        rcases Nat.eq_zero_or_pos tk.length with z | z
        · rw [z, Nat.add_zero]
          exact hsm _ (by rw [hl]; simp)
        · obtain ⟨x, hx⟩ : ∃ x, tk[tk.length - 1]? = some x := ⟨_, List.getElem?_eq_getElem (by omega)⟩
          obtain ⟨cs, hcs⟩ := takeTicks_get (vframes (journalFile d a.2)) t0 _ x (by rw [htk]; exact hx)
          obtain ⟨r2, hr2, _, _⟩ := parseTick_cons hcs
          have hx2 : ∃ i : Nat, (vframes (journalFile d a.2))[i]? = some x := by
            obtain ⟨kk, hk⟩ := take_ticks_pre (vframes (journalFile d a.2)) t0
            rw [htk] at hk
            rw [hk, List.getElem?_take] at hx
            split at hx
            · exact ⟨_, hx⟩
            · exact nomatch hx
          obtain ⟨i, hi⟩ := hx2
          have := (vframes_sm jb hi).1 _ (by rw [hr2]; exact List.mem_cons_self)
          rw [show t0 + (tk.length - 1) + 1 = t0 + tk.length by omega] at this
          exact this
theorem import_ok : ∀ (ls : List Bytes) (t : Nat) (s : Store) (t' : Nat) (s' : Store), t + ls.length ≤ 1000000 → StOk s → importLines t s ls = .ok (t', s') → StOk s' ∧ t' ≤ 1000000
  | [], t, s, t', s', hl, hs, h => by
    have h' : Except.ok (t, s) = (Except.ok (t', s') : Except Nat (Nat × Store)) := h
    obtain ⟨rfl, rfl⟩ := Prod.mk.inj (Except.ok.inj h')
    exact ⟨hs, by simp at hl; exact hl⟩
  | x :: r, t, s, t', s', hl, hs, h => by
    simp at hl
    rw [import_cons _ _ _ _ (by omega)] at h
    cases e : lineOf x (t + 1) with
    | none => rw [e] at h; exact nomatch h
    | some cs =>
      rw [e] at h
      exact import_ok r (t + 1) (applyChanges s cs) t' s' (by omega) (hs.changes (lineOf_ok e).1) h
theorem importText_ok {d : Bytes} {t : Nat} {s : Store} (hl : d.length ≤ 100000) (h : importText d = .ok (t, s)) : StOk s ∧ t ≤ 1000000 := by
  refine import_ok _ 0 [] t s ?_ StOk.nil h
  have h1 := split_len 10 d []
  rw [List.length_dropLast]
  omega
/-- what a call may be -/
def CallOk : Vbwsai.Call → Prop
  | .tick _ l => l.length ≤ 60
  | .corruptByte _ _ _ => True
  | .importJournal b => b.length ≤ 100000 ∧ Byt b
  | _ => True
theorem good_step {n : Nat} {s : State} (hn : n ≤ 200) (h : Good n s) (c : Vbwsai.Call) (hc : CallOk c) : Good (n + 1) (Vbwsai.step s c).1 := by
  cases c with
  | reset => exact good_init (by unfold Sm; omega) StOk.nil
  | tick pw l =>
    rw [step_tick]
    split
    · exact h.up
    · rename_i c0
      split
      · exact h.up
      · rename_i cs e
        obtain ⟨h6, hok⟩ := parse_len e
        split
        · exact h.up
        · rename_i c1
          split
          · exact h.up
          · rename_i c2
            split
            · exact h.up
            · rename_i c3
              have hrl : (tickRow (s.tick + 1) cs).length ≤ 49 := by
                rw [tickRow_eq, List.length_cons, flatC_len]; omega
              have hfl := frame_len_le (tickRow (s.tick + 1) cs)
              have hpw : -1 ≤ pw := by
                cases e2 : inRange pw (-1) 100000 with
                | false => exact absurd e2 c0
                | true => exact (of_decide_eq_true (p := -1 ≤ pw ∧ pw ≤ 100000) e2).1
              obtain ⟨td, tw⟩ := tick_disk h.wf h.sd (encodeFrame (tickRow (s.tick + 1) cs)) pw hpw
              have hjl : (jsOf s).length ≤ 2 := by unfold jsOf; split <;> simp
              have hfb : ∀ b ∈ files6 (writeTick s (encodeFrame (tickRow (s.tick + 1) cs)) pw), Byt b ∧ b.length ≤ 2000 * (n + 1 + 1) := by
                rw [td]
                exact gmono (append_ok _ _ _ _ _ h.byt (frame_byt _) (by omega)) (by omega)
              split
              · refine ⟨tw, hfb, h.pby, ?_, h.cn, h.sd, h.st.changes hok, fun z => absurd z c2, h.nch⟩
                show Sm ((s.tick + 1 : Nat) : Int)
                unfold Sm; omega
              · exact good_down tw hfb
  | beginCheckpoint =>
    have un : Vbwsai.step s .beginCheckpoint = (if s.powered = false then Vbwsai.fail s 7 else if s.checkpointing = true then Vbwsai.fail s 3 else
      Vbwsai.succeed { s with disk := { s.disk with checkpoints := setElement s.disk.checkpoints (1 - s.side) [], journals := setElement s.disk.journals (1 - s.side) [] }, checkpointing := true, pending := encodeFrame (checkpointRow s.tick s.contents) } [((encodeFrame (checkpointRow s.tick s.contents)).length : Int)]) := rfl
    rw [un]
    have hsd' : 1 - s.side ≤ 1 := by omega
    split
    · exact h.up
    · rename_i c1
      split
      · exact h.up
      · obtain ⟨d1e, d1w⟩ := ck_set h.wf hsd' []
        obtain ⟨d2e, d2w⟩ := j_set d1w hsd' []
        have h1 := frame_len_le (checkpointRow s.tick s.contents)
        have h3 := h.st.len
        have h4 : (checkpointRow s.tick s.contents).length ≤ 129 := by rw [ckRow_eq, List.length_cons, flatS_len]; omega
        refine ⟨d2w, ?_, ⟨frame_byt _, by show (encodeFrame _).length ≤ _; omega⟩, h.tk, h.cn, h.sd, h.st, fun z => absurd z c1, (fun z => nomatch z)⟩
        rw [d1e] at d2e
        have g : ∀ b ∈ ((files6 s.disk).set (1 - s.side) []).set (2 + (1 - s.side)) [], Byt b ∧ b.length ≤ 2000 * (n + 1 + 1) := gset (gset (gmono h.byt (by omega)) ⟨Byt.nil, Nat.zero_le _⟩) ⟨Byt.nil, Nat.zero_le _⟩
        rw [← d2e] at g
        exact g
  | writeCheckpoint k =>
    have un : Vbwsai.step s (.writeCheckpoint k) = (if inRange k 1 100000 = false then Vbwsai.fail s 1 else if s.powered = false then Vbwsai.fail s 7 else if s.checkpointing = false then Vbwsai.fail s 3 else
      Vbwsai.succeed { s with disk := { s.disk with checkpoints := setElement s.disk.checkpoints (1 - s.side) (checkpointFile s.disk (1 - s.side) ++ s.pending.take k.toNat) }, pending := s.pending.drop k.toNat } [((s.pending.drop k.toNat).length : Int)]) := rfl
    rw [un]
    have hsd' : 1 - s.side ≤ 1 := by omega
    split
    · exact h.up
    · split
      · exact h.up
      · rename_i c1
        split
        · exact h.up
        · rename_i c2
          obtain ⟨d1e, d1w⟩ := ck_set h.wf hsd' (checkpointFile s.disk (1 - s.side) ++ s.pending.take k.toNat)
          have hb := h.byt _ (List.mem_of_getElem? (ck_get h.wf hsd'))
          have hpb := h.pby
          have ht := List.length_take_le' k.toNat s.pending
          refine ⟨d1w, ?_, ⟨hpb.1.drop _, by show (s.pending.drop _).length ≤ _; rw [List.length_drop]; omega⟩, h.tk, h.cn, h.sd, h.st, fun z => absurd z c1, fun z => absurd z c2⟩
          exact of6 d1e <| gset (gmono h.byt (by omega)) ⟨hb.1.app (hpb.1.take _), by rw [List.length_append]; omega⟩
  | commitCheckpoint k =>
    have un : Vbwsai.step s (.commitCheckpoint k) = (if inRange k (-1) 100000 = false then Vbwsai.fail s 1 else if s.powered = false then Vbwsai.fail s 7 else if s.checkpointing = false ∨ s.pending ≠ [] then Vbwsai.fail s 3 else if 1000000000000000000 < (s.commitNumber : Int) + 1 then Vbwsai.fail s 5 else
      if isFullyWritten (encodeFrame (commitRow (s.commitNumber + 1) (1 - s.side))) k = true then Vbwsai.succeed { s with disk := { s.disk with commits := setElement s.disk.commits ((s.commitNumber + 1) % 2) (appendWithPower [] (encodeFrame (commitRow (s.commitNumber + 1) (1 - s.side))) k) }, side := 1 - s.side, commitNumber := s.commitNumber + 1, checkpointing := false } [((1 - s.side : Nat) : Int), (s.commitNumber : Int) + 1]
      else Vbwsai.succeed (powerDown s { s.disk with commits := setElement s.disk.commits ((s.commitNumber + 1) % 2) (appendWithPower [] (encodeFrame (commitRow (s.commitNumber + 1) (1 - s.side))) k) }) [-1, ((encodeFrame (commitRow (s.commitNumber + 1) (1 - s.side))).length : Int)]) := rfl
    rw [un]
    split
    · exact h.up
    · split
      · exact h.up
      · rename_i c1
        split
        · exact h.up
        · rename_i c2
          split
          · exact h.up
          · rename_i c3
            have hpar : (s.commitNumber + 1) % 2 ≤ 1 := by omega
            have hfl := frame_len_le (commitRow (s.commitNumber + 1) (1 - s.side))
            have hrl : (commitRow (s.commitNumber + 1) (1 - s.side)).length = 2 := rfl
            obtain ⟨d1e, d1w⟩ := m_set h.wf hpar (appendWithPower [] (encodeFrame (commitRow (s.commitNumber + 1) (1 - s.side))) k)
            have hx : Byt (appendWithPower [] (encodeFrame (commitRow (s.commitNumber + 1) (1 - s.side))) k) ∧ (appendWithPower [] (encodeFrame (commitRow (s.commitNumber + 1) (1 - s.side))) k).length ≤ 2000 * (n + 1 + 1) := by
              unfold appendWithPower
              rw [List.nil_append]
              split
              · exact ⟨frame_byt _, by omega⟩
              · have := List.length_take_le' k.toNat (encodeFrame (commitRow (s.commitNumber + 1) (1 - s.side)))
                exact ⟨(frame_byt _).take _, by omega⟩
            have hfb : ∀ b ∈ files6 { s.disk with commits := setElement s.disk.commits ((s.commitNumber + 1) % 2) (appendWithPower [] (encodeFrame (commitRow (s.commitNumber + 1) (1 - s.side))) k) }, Byt b ∧ b.length ≤ 2000 * (n + 1 + 1) := by
              rw [d1e]
              exact gset (gmono h.byt (by omega)) hx
            split
            · refine ⟨d1w, hfb, h.pby, h.tk, ?_, by show 1 - s.side ≤ 1; omega, h.st, fun z => absurd z c1, fun _ => ?_⟩
              · show Sm ((s.commitNumber + 1 : Nat) : Int)
                unfold Sm; omega
              · show s.pending = []
                by_cases z : s.pending = []
                · exact z
                · exact absurd (.inr z) c2
            · exact good_down d1w hfb
  | cutPower =>
    have un : Vbwsai.step s .cutPower = (if s.powered = false then Vbwsai.fail s 7 else Vbwsai.succeed (powerDown s s.disk) []) := rfl
    rw [un]
    split
    · exact h.up
    · exact good_down h.wf (gmono h.byt (by omega))
  | recover =>
    have un : Vbwsai.step s .recover = (if s.powered = true then Vbwsai.fail s 3 else match recoverDisk s.disk with
      | none => Vbwsai.fail s 6
      | some (m, t, n, w, k) => Vbwsai.succeed { s with disk := { s.disk with journals := setElement s.disk.journals m.2 ((journalFile s.disk m.2).take k) }, powered := true, tick := t + n, contents := w, side := m.2, commitNumber := m.1, checkpointing := false, pending := [], durableTick := t + n } [(m.2 : Int), ((t + n : Nat) : Int), (n : Int), (((journalFile s.disk m.2).length - k : Nat) : Int)]) := rfl
    rw [un]
    split
    · exact h.up
    · split
      · exact h.up
      · rename_i m t k w bc e
        obtain ⟨r1, r2, r3, r4⟩ := recover_ok (h.small hn) h.wf e
        obtain ⟨d1e, d1w⟩ := j_set h.wf r1 ((journalFile s.disk m.2).take bc)
        have hb := h.byt _ (List.mem_of_getElem? (j_get h.wf r1))
        have ht := List.length_take_le' bc (journalFile s.disk m.2)
        refine ⟨d1w, ?_, ⟨Byt.nil, Nat.zero_le _⟩, r3, r2, r1, r4, (fun z => nomatch z), fun _ => rfl⟩
        exact of6 d1e <| gset (gmono h.byt (by omega)) ⟨hb.1.take _, by omega⟩
  | get k =>
    have un : Vbwsai.step s (.get k) = (if k < 0 then Vbwsai.fail s 1 else if s.powered = false then Vbwsai.fail s 7 else match lookupKey k.toNat s.contents with
      | none => Vbwsai.fail s 4
      | some v => Vbwsai.succeed s [v]) := rfl
    rw [un]
    repeat (first | exact h.up | split)
  | contents =>
    have un : Vbwsai.step s .contents = (if s.powered = false then Vbwsai.fail s 7 else Vbwsai.succeed s ((s.tick : Int) :: flatS s.contents)) := rfl
    rw [un]
    repeat (first | exact h.up | split)
  | readFile i =>
    have un : Vbwsai.step s (.readFile i) = (if inRange i 0 5 = false then Vbwsai.fail s 1 else Vbwsai.succeed s (toInts (fileAt s.disk i.toNat))) := rfl
    rw [un]
    repeat (first | exact h.up | split)
  | corruptByte i j k =>
    have un : Vbwsai.step s (.corruptByte i j k) = (if inRange i 0 5 = false ∨ inRange k 0 255 = false then Vbwsai.fail s 1 else if j < 0 ∨ ((fileAt s.disk i.toNat).length : Int) ≤ j then Vbwsai.fail s 4 else
      Vbwsai.succeed { s with disk := setFileAt s.disk i.toNat ((fileAt s.disk i.toNat).set j.toNat k.toNat) } []) := rfl
    rw [un]
    split
    · exact h.up
    · rename_i c1
      split
      · exact h.up
      · have hi : 0 ≤ i ∧ i ≤ 5 := by
          cases e2 : inRange i 0 5 with
          | false => exact absurd (.inl e2) c1
          | true => exact of_decide_eq_true (p := 0 ≤ i ∧ i ≤ 5) e2
        have hk : 0 ≤ k ∧ k ≤ 255 := by
          cases e2 : inRange k 0 255 with
          | false => exact absurd (.inr e2) c1
          | true => exact of_decide_eq_true (p := 0 ≤ k ∧ k ≤ 255) e2
        have hi5 : i.toNat ≤ 5 := by omega
        obtain ⟨d1e, d1w⟩ := f_set h.wf hi5 ((fileAt s.disk i.toNat).set j.toNat k.toNat)
        have hb := h.byt _ (List.mem_of_getElem? (f_get h.wf hi5))
        refine ⟨d1w, ?_, h.pby, h.tk, h.cn, h.sd, h.st, h.off, h.nch⟩
        refine of6 d1e <| gset (gmono h.byt (by omega)) ⟨fun b hb2 => ?_, by rw [List.length_set]; omega⟩
        rcases List.mem_or_eq_of_mem_set hb2 with z | z
        · exact hb.1 b z
        · rw [z]; omega
  | importJournal d =>
    have un : Vbwsai.step s (.importJournal d) = (if s.powered = false then Vbwsai.fail s 7 else match importText d with
      | .error _ => Vbwsai.fail s 2
      | .ok (t, w) => Vbwsai.succeed (initializedWith t w) [(t : Int), (w.length : Int)]) := rfl
    rw [un]
    split
    · exact h.up
    · split
      · exact h.up
      · rename_i t w e
        obtain ⟨h1, h2⟩ := importText_ok hc.1 e
        exact good_init (by unfold Sm; omega) h1
  | status => exact h.up
  | countFrames b => exact h.up
  | listTicks =>
    have un : Vbwsai.step s .listTicks = (if s.powered = false then Vbwsai.fail s 7 else Vbwsai.succeed s ((readFrames (journalFile s.disk s.side)).1.flatMap fun l => match parseTickRow l with
      | some e => [(e.1 : Int), (e.2.length : Int)]
      | none => [])) := rfl
    rw [un]
    repeat (first | exact h.up | split)
  | computeChecksum b => exact h.up
  | frameOf row =>
    have un : Vbwsai.step s (.frameOf row) = (if 40 < row.length ∨ (row.all fun v => inRange v (-1000000000000000000) 1000000000000000000) = false then Vbwsai.fail s 1 else Vbwsai.succeed s (toInts (encodeFrame row))) := rfl
    rw [un]
    repeat (first | exact h.up | split)
  | previewImport b =>
    have un : Vbwsai.step s (.previewImport b) = (match importText b with
      | .error n => Vbwsai.succeed s [0, (n : Int)]
      | .ok (t, w) => Vbwsai.succeed s ([1, (t : Int)] ++ flatS w)) := rfl
    rw [un]
    repeat (first | exact h.up | split)
end TS
namespace TS
open PySem PySem.Spec PyProof.Rows L2 Vbwsai
/-! the reader -/
theorem upd_self {H : Hp} {a : Addr} {o : HO} (h : H a = some o) : upd H a o = H := by
  funext b
  by_cases c : b = a
  · rw [c, upd_same, h]
  · rw [upd_ne c]
theorem sq_ins {K : PySem.W.Frag} {H : Hp} {a r C dx : Addr} {xs : List V} {fs : List (Str × V)} {o : HO} (h : SqL K H a xs) (hr : H r = some (.ins C dx fs)) : SqL K (upd H r o) a xs := by
  rcases h with (h | ⟨u, h⟩) | h
  · refine .inl (.inl ?_)
    rw [upd_ne fun z => by rw [z, hr] at h; exact nomatch (Option.some.inj h)]
    exact h
  · refine .inl (.inr ⟨u, ?_⟩)
    rw [upd_ne fun z => by rw [z, hr] at h; exact nomatch (Option.some.inj h)]
    exact h
  · exact .inr h
def RdO (A : Ad) (dx cl : Addr) (i : Nat) : HO := .ins A.Reader dx (dF cl i)
def sp_Reader_init (K : PySem.W.Frag) (A : Ad) : Sp := S2 fun x y H Q => ∃ (p dx cl : Addr), x = .ref p ∧ y = .ref cl ∧ H p = some (.ins A.Reader dx []) ∧ Q .non (upd H p (RdO A dx cl 0))
def sp_has_more (K : PySem.W.Frag) (A : Ad) : Sp := S1 fun x H Q => ∃ (r dx cl : Addr) (l : List Int) (i : Nat), x = .ref r ∧ H r = some (RdO A dx cl i) ∧ SqL K H cl (vi l) ∧ Q (.bl (decide (i < l.length))) H
def sp_take_number (K : PySem.W.Frag) (A : Ad) : Sp := S1 fun x H Q => ∃ (r dx cl : Addr) (l : List Int) (i : Nat) (n : Int), x = .ref r ∧ H r = some (RdO A dx cl i) ∧ SqL K H cl (vi l) ∧ l[i]? = some n ∧ Q (.int n) (upd H r (RdO A dx cl (i + 1)))
structure TakesRow (l : List Int) (i : Nat) (row : List Int) (j : Nat) : Prop where
  get : l[i]? = some (row.length : Int)
  le : j ≤ l.length
  j_ : j = i + 1 + row.length
  eq : (l.drop (i + 1)).take row.length = row
def sp_take_row (K : PySem.W.Frag) (A : Ad) : Sp := S1 fun x H Q => ∃ (r dx cl : Addr) (l row : List Int) (i j : Nat), x = .ref r ∧ H r = some (RdO A dx cl i) ∧ SqL K H cl (vi l) ∧ TakesRow l i row j ∧
  ∀ p, (upd H r (RdO A dx cl j)) p = none → Q (.ref p) (upd (upd H r (RdO A dx cl j)) p (.lst (vi row)))
/-- a row of bytes -/
def ByRow (row : List Int) (d : Bytes) : Prop := vi row = vb d ∧ d.length ≤ 2000 ∧ Byt d
inductive Par (l : List Int) (i : Nat) : Int → Vbwsai.Call → Nat → Prop
  | c0 : Par l i 0 .reset i
  | c1 {p : Int} {row : List Int} {j : Nat} : l[i]? = some p → TakesRow l (i + 1) row j → row.length ≤ 60 → Par l i 1 (.tick p row) j
  | c2 : Par l i 2 .beginCheckpoint i
  | c3 {p : Int} : l[i]? = some p → Par l i 3 (.writeCheckpoint p) (i + 1)
  | c4 {p : Int} : l[i]? = some p → Par l i 4 (.commitCheckpoint p) (i + 1)
  | c5 : Par l i 5 .cutPower i
  | c6 : Par l i 6 .recover i
  | c7 {p : Int} : l[i]? = some p → Par l i 7 (.get p) (i + 1)
  | c8 : Par l i 8 .contents i
  | c9 {p : Int} : l[i]? = some p → Par l i 9 (.readFile p) (i + 1)
  | c10 {p q b : Int} : l[i]? = some p → l[i + 1]? = some q → l[i + 2]? = some b → Par l i 10 (.corruptByte p q b) (i + 3)
  | c11 {row : List Int} {d : Bytes} {j : Nat} : TakesRow l i row j → ByRow row d → Par l i 11 (.importJournal d) j
  | c12 : Par l i 12 .status i
  | c13 {row : List Int} {d : Bytes} {j : Nat} : TakesRow l i row j → ByRow row d → Par l i 13 (.countFrames d) j
  | c14 : Par l i 14 .listTicks i
  | c15 {row : List Int} {d : Bytes} {j : Nat} : TakesRow l i row j → ByRow row d → Par l i 15 (.computeChecksum d) j
  | c16 {row : List Int} {j : Nat} : TakesRow l i row j → row.length ≤ 60 → (∀ z ∈ row, -1000000000000000000 ≤ z ∧ z ≤ 1000000000000000000) → Par l i 16 (.frameOf row) j
  | c17 {row : List Int} {d : Bytes} {j : Nat} : TakesRow l i row j → ByRow row d → Par l i 17 (.previewImport d) j
/-- a call's answer: the session is stepped, the reader stands behind the call -/
def sp_store_answer (K : PySem.W.Frag) (A : Ad) : Sp := S3 fun x y z H Q => ∃ (H0 : Hp) (p : Addr) (s : State) (op : Int) (r dx cl : Addr) (l : List Int) (i j : Nat) (c : Vbwsai.Call), x = .ref p ∧ y = .int op ∧ z = .ref r ∧ SesG A H0 H p s ∧
  H0 r = some (RdO A dx cl i) ∧ SqL K H0 cl (vi l) ∧ Par l i op c j ∧ op ≤ 8 ∧ OpQ A (upd H0 r (RdO A dx cl j)) p (Vbwsai.step s c) Q
def sp_corruption_answer (K : PySem.W.Frag) (A : Ad) : Sp := S2 fun x z H Q => ∃ (H0 : Hp) (p : Addr) (s : State) (r dx cl : Addr) (l : List Int) (i j : Nat) (c : Vbwsai.Call), x = .ref p ∧ z = .ref r ∧ SesG A H0 H p s ∧
  H0 r = some (RdO A dx cl i) ∧ SqL K H0 cl (vi l) ∧ Par l i 10 c j ∧ OpQ A (upd H0 r (RdO A dx cl j)) p (Vbwsai.step s c) Q
def sp_inspection_answer (K : PySem.W.Frag) (A : Ad) : Sp := S3 fun x y z H Q => ∃ (H0 : Hp) (p : Addr) (s : State) (op : Int) (r dx cl : Addr) (l : List Int) (i j : Nat) (c : Vbwsai.Call), x = .ref p ∧ y = .int op ∧ z = .ref r ∧ SesG A H0 H p s ∧
  H0 r = some (RdO A dx cl i) ∧ SqL K H0 cl (vi l) ∧ Par l i op c j ∧ 9 ≤ op ∧ OpQ A (upd H0 r (RdO A dx cl j)) p (Vbwsai.step s c) Q
def sp_call_answer (K : PySem.W.Frag) (A : Ad) : Sp := S2 fun x z H Q => ∃ (H0 : Hp) (p : Addr) (s : State) (op : Int) (r dx cl : Addr) (l : List Int) (i j : Nat) (c : Vbwsai.Call), x = .ref p ∧ z = .ref r ∧ SesG A H0 H p s ∧
  H0 r = some (RdO A dx cl i) ∧ SqL K H0 cl (vi l) ∧ l[i]? = some op ∧ Par l (i + 1) op c j ∧ OpQ A (upd H0 r (RdO A dx cl j)) p (Vbwsai.step s c) Q
def sp_answers (K : PySem.W.Frag) (A : Ad) : Sp := S1 fun x H Q => ∃ (cl : Addr) (l : List Int), x = .ref cl ∧ SqL K H cl (vi l) ∧ PyVbwsai.answers_asked l = true ∧
  ∀ (H' : Hp) (p : Addr), H' p = some (.lst (vi (PyVbwsai.answers l))) → Q (.ref p) H'
section
variable {A : Ad} {H0 H1 H2 H H' : Hp} {p r dx cl q : Addr} {s : State} {i j : Nat} {x : State × List Int} {Q : VK} {o u : HO}
theorem opq_older (h : OpQ A H1 p x Q) (k : Same H1 H2) : OpQ A H2 p x Q := fun H' q hs hq h0 => h H' q (ses_older hs k) hq (k.free h0)
theorem opq_self (h : OpQ A (upd H0 r o) p x Q) (hr : H0 r = some o) : OpQ A H0 p x Q := by rw [upd_self hr] at h; exact h
theorem sesg_chg (h : SesG A H0 H p s) (hb : H0 r = some u) : SesG A (upd H0 r o) (upd H r o) p s := ⟨ses_chg h.1 hb, h.2⟩
theorem sesg_same (h : SesG A H0 H p s) (k : Same H H') : SesG A H0 H' p s := ⟨ses_same h.1 k, h.2⟩
theorem sesg_add (h : SesG A H0 H p s) (k : Same H H') (hb : H q = none) (hb' : H' q = some o) : SesG A (upd H0 q o) H' p s := ⟨ses_add h.1 k hb hb', h.2⟩
end
theorem ByRow.le {row : List Int} {d : Bytes} (h : ByRow row d) : d.length ≤ 100000 := by
  have := h.2.1
  omega
/-! a call is parsed -/
theorem get_drop {l : List Int} {i : Nat} {x : Int} {r : List Int} (h : l.drop i = x :: r) : l[i]? = some x ∧ l.drop (i + 1) = r := by
  have h1 : l[i]? = some x := by
    have := congrArg (fun z => z[0]?) h
    simp at this
    exact this
  refine ⟨h1, ?_⟩
  have e := drop_one h1
  rw [h] at e
  exact (List.cons.inj e).2.symm
theorem takes_row {l : List Int} {i : Nat} {x t : List Int} (h : PyFlat.row (l.drop i) = some (x, t)) : ∃ j, TakesRow l i x j ∧ t = l.drop j ∧ i < j := by
  cases e : l.drop i with
  | nil => rw [e] at h; exact nomatch h
  | cons n r =>
    rw [e] at h
    have h2 : (if 0 ≤ n ∧ n.toNat ≤ r.length then some (r.take n.toNat, r.drop n.toNat) else none) = some (x, t) := h
    split at h2
    · rename_i c
      obtain ⟨h3, h4⟩ := Prod.mk.inj (Option.some.inj h2)
      obtain ⟨g1, g2⟩ := get_drop e
      have hx : x.length = n.toNat := by rw [← h3, List.length_take]; omega
      have hr : r.length = l.length - (i + 1) := by rw [← g2, List.length_drop]
      have hi := lt_of_get g1
      refine ⟨i + 1 + x.length, ⟨by rw [g1, hx]; congr 1; omega, by omega, rfl, by rw [g2, hx]; exact h3⟩, ?_, by omega⟩
      rw [← h4, ← g2, List.drop_drop, hx]
    · exact nomatch h2
theorem whole_id (c : List (List Int)) : PyVbwsai.whole c = c := by
  unfold PyVbwsai.whole
  split <;> rfl
theorem map_whole (cs : List (List (List Int))) : cs.map PyVbwsai.whole = cs := by
  rw [show PyVbwsai.whole = id from funext whole_id, List.map_id]
theorem by_row {x : List Int} (h : VbwsaiNeutral.isByteList 2000 x = true) : ByRow x (VbwsaiNeutral.toBytes x) := by
  unfold VbwsaiNeutral.isByteList at h
  rw [Bool.and_eq_true] at h
  obtain ⟨h1, h2⟩ := h
  have h1 := of_decide_eq_true h1
  rw [List.all_eq_true] at h2
  have h3 : ∀ z ∈ x, 0 ≤ z ∧ z < 256 := fun z hz => by
    have := h2 z hz
    simpa using this
  refine ⟨?_, by unfold VbwsaiNeutral.toBytes; rw [List.length_map]; exact h1, ?_⟩
  · unfold VbwsaiNeutral.toBytes
    show List.map V.int x = List.map (fun (n : Nat) => V.int (n : Int)) (List.map Int.toNat x)
    rw [List.map_map]
    refine List.map_congr_left fun z hz => ?_
    have := h3 z hz
    show V.int z = V.int ((z.toNat : Nat) : Int)
    rw [show ((z.toNat : Nat) : Int) = z by omega]
  · intro b hb
    unfold VbwsaiNeutral.toBytes at hb
    obtain ⟨z, hz, rfl⟩ := List.mem_map.mp hb
    have := h3 z hz
    omega
theorem is_row {x : List Int} (h : VbwsaiNeutral.isRow 60 x = true) : x.length ≤ 60 ∧ ∀ z ∈ x, -1000000000000000000 ≤ z ∧ z ≤ 1000000000000000000 := by
  unfold VbwsaiNeutral.isRow at h
  rw [Bool.and_eq_true] at h
  obtain ⟨h1, h2⟩ := h
  refine ⟨of_decide_eq_true h1, fun z hz => ?_⟩
  rw [List.all_eq_true] at h2
  have h3 := h2 z hz
  unfold VbwsaiNeutral.isWithinLimit at h3
  rw [Bool.and_eq_true] at h3
  have a := of_decide_eq_true h3.1
  have b := of_decide_eq_true h3.2
  have e : (10 : Int) ^ 18 = 1000000000000000000 := by decide +kernel
  rw [e] at a b
  exact ⟨a, b⟩
theorem call_shape {op : Int} {r : List Int} {n k : Nat} {c : List (List Int)} {t : List Int} (hs : PyVbwsai.shape op = some (n, k)) (h : PyFlat.call PyVbwsai.shape (op :: r) = some (c, t)) :
    n ≤ r.length ∧ ∃ xs, PyFlat.rows k (r.drop n) = some (xs, t) ∧ c = (op :: r.take n) :: xs := by
  have h : (match PyVbwsai.shape op with
      | none => none
      | some (n, k) => if r.length < n then none else match PyFlat.rows k (r.drop n) with
        | none => none
        | some (xs, t) => some ((op :: r.take n) :: xs, t)) = some (c, t) := h
  rw [hs] at h
  dsimp only at h
  split at h
  · exact nomatch h
  · split at h
    · exact nomatch h
    · rename_i e
      obtain ⟨h1, h2⟩ := Prod.mk.inj (Option.some.inj h)
      exact ⟨by omega, _, by rw [e, h2], h1.symm⟩
theorem rows0 {r t : List Int} {xs : List (List Int)} (h : PyFlat.rows 0 r = some (xs, t)) : xs = [] ∧ t = r := by
  obtain ⟨a, b⟩ := Prod.mk.inj (Option.some.inj (show some ([], r) = some (xs, t) from h))
  exact ⟨a.symm, b.symm⟩
theorem rows1 {r t : List Int} {xs : List (List Int)} (h : PyFlat.rows 1 r = some (xs, t)) : ∃ x, xs = [x] ∧ PyFlat.row r = some (x, t) := by
  unfold PyFlat.rows at h
  split at h
  · exact nomatch h
  · rename_i e
    have h2 : some ([_], _) = some (xs, t) := h
    obtain ⟨a, b⟩ := Prod.mk.inj (Option.some.inj h2)
    exact ⟨_, a.symm, by rw [e, b]⟩
theorem p0 {op : Int} {l t : List Int} {c : List (List Int)} {i : Nat} (hs : PyVbwsai.shape op = some (0, 0)) (h : PyFlat.call PyVbwsai.shape (op :: l.drop i) = some (c, t)) : c = [[op]] ∧ t = l.drop i := by
  obtain ⟨_, xs, h1, h2⟩ := call_shape hs h
  obtain ⟨rfl, h3⟩ := rows0 h1
  exact ⟨h2, h3⟩
theorem p1 {op : Int} {l t : List Int} {c : List (List Int)} {i : Nat} (hs : PyVbwsai.shape op = some (1, 0)) (h : PyFlat.call PyVbwsai.shape (op :: l.drop i) = some (c, t)) : ∃ x, l[i]? = some x ∧ c = [[op, x]] ∧ t = l.drop (i + 1) := by
  obtain ⟨hl, xs, h1, h2⟩ := call_shape hs h
  obtain ⟨rfl, h3⟩ := rows0 h1
  cases e : l.drop i with
  | nil => rw [e] at hl; exact absurd hl (by decide)
  | cons x r =>
    obtain ⟨g1, g2⟩ := get_drop e
    refine ⟨x, g1, by rw [h2, e]; rfl, by rw [h3, List.drop_drop]⟩
theorem p3 {op : Int} {l t : List Int} {c : List (List Int)} {i : Nat} (hs : PyVbwsai.shape op = some (3, 0)) (h : PyFlat.call PyVbwsai.shape (op :: l.drop i) = some (c, t)) : ∃ x y z, l[i]? = some x ∧ l[i + 1]? = some y ∧ l[i + 2]? = some z ∧ c = [[op, x, y, z]] ∧ t = l.drop (i + 3) := by
  obtain ⟨hl, xs, h1, h2⟩ := call_shape hs h
  obtain ⟨rfl, h3⟩ := rows0 h1
  match e : l.drop i, hl with
  | x :: y :: z :: r, _ =>
    obtain ⟨g1, g2⟩ := get_drop e
    obtain ⟨g3, g4⟩ := get_drop g2
    obtain ⟨g5, g6⟩ := get_drop g4
    refine ⟨x, y, z, g1, g3, g5, by rw [h2, e]; rfl, by rw [h3, List.drop_drop]⟩
theorem pR {op : Int} {l t : List Int} {c : List (List Int)} {i : Nat} (hs : PyVbwsai.shape op = some (0, 1)) (h : PyFlat.call PyVbwsai.shape (op :: l.drop i) = some (c, t)) : ∃ x j, TakesRow l i x j ∧ c = [[op], x] ∧ t = l.drop j ∧ i < j := by
  obtain ⟨hl, xs, h1, h2⟩ := call_shape hs h
  obtain ⟨x, rfl, h3⟩ := rows1 h1
  obtain ⟨j, g1, g2, g3⟩ := takes_row (l := l) (i := i) h3
  exact ⟨x, j, g1, h2, g2, g3⟩
theorem p1R {op : Int} {l t : List Int} {c : List (List Int)} {i : Nat} (hs : PyVbwsai.shape op = some (1, 1)) (h : PyFlat.call PyVbwsai.shape (op :: l.drop i) = some (c, t)) : ∃ p x j, l[i]? = some p ∧ TakesRow l (i + 1) x j ∧ c = [[op, p], x] ∧ t = l.drop j ∧ i < j := by
  obtain ⟨hl, xs, h1, h2⟩ := call_shape hs h
  obtain ⟨x, rfl, h3⟩ := rows1 h1
  cases e : l.drop i with
  | nil => rw [e] at hl; exact absurd hl (by decide)
  | cons p r =>
    obtain ⟨g1, g2⟩ := get_drop e
    rw [List.drop_drop] at h3
    obtain ⟨j, k1, k2, k3⟩ := takes_row (l := l) (i := i + 1) h3
    exact ⟨p, x, j, g1, k1, by rw [h2, e]; rfl, k2, by omega⟩
/-- what a call is -/
theorem par_of {l : List Int} {i : Nat} {op : Int} {c : List (List Int)} {t : List Int} (h : PyFlat.call PyVbwsai.shape (op :: l.drop i) = some (c, t)) (ha : VbwsaiNeutral.asked1 c = true) :
    ∃ d j, VbwsaiNeutral.callOf c = some d ∧ Par l i op d j ∧ t = l.drop j ∧ i ≤ j ∧ CallOk d := by
  by_cases z0 : op = 0
  · subst z0; obtain ⟨rfl, rfl⟩ := p0 rfl h; exact ⟨_, _, rfl, .c0, rfl, Nat.le_refl _, trivial⟩
  by_cases z1 : op = 1
  · subst z1; obtain ⟨p, x, j, g1, g2, rfl, rfl, g3⟩ := p1R rfl h
    have a : (VbwsaiNeutral.isWithinLimit p && VbwsaiNeutral.isRow 60 x) = true := ha
    rw [Bool.and_eq_true] at a
    have b := (is_row a.2).1
    exact ⟨_, _, rfl, .c1 g1 g2 b, rfl, by omega, b⟩
  by_cases z2 : op = 2
  · subst z2; obtain ⟨rfl, rfl⟩ := p0 rfl h; exact ⟨_, _, rfl, .c2, rfl, Nat.le_refl _, trivial⟩
  by_cases z3 : op = 3
  · subst z3; obtain ⟨x, g1, rfl, rfl⟩ := p1 rfl h; exact ⟨_, _, rfl, .c3 g1, rfl, by omega, trivial⟩
  by_cases z4 : op = 4
  · subst z4; obtain ⟨x, g1, rfl, rfl⟩ := p1 rfl h; exact ⟨_, _, rfl, .c4 g1, rfl, by omega, trivial⟩
  by_cases z5 : op = 5
  · subst z5; obtain ⟨rfl, rfl⟩ := p0 rfl h; exact ⟨_, _, rfl, .c5, rfl, Nat.le_refl _, trivial⟩
  by_cases z6 : op = 6
  · subst z6; obtain ⟨rfl, rfl⟩ := p0 rfl h; exact ⟨_, _, rfl, .c6, rfl, Nat.le_refl _, trivial⟩
  by_cases z7 : op = 7
  · subst z7; obtain ⟨x, g1, rfl, rfl⟩ := p1 rfl h; exact ⟨_, _, rfl, .c7 g1, rfl, by omega, trivial⟩
  by_cases z8 : op = 8
  · subst z8; obtain ⟨rfl, rfl⟩ := p0 rfl h; exact ⟨_, _, rfl, .c8, rfl, Nat.le_refl _, trivial⟩
  by_cases z9 : op = 9
  · subst z9; obtain ⟨x, g1, rfl, rfl⟩ := p1 rfl h; exact ⟨_, _, rfl, .c9 g1, rfl, by omega, trivial⟩
  by_cases z10 : op = 10
  · subst z10; obtain ⟨x, y, z, g1, g2, g3, rfl, rfl⟩ := p3 rfl h; exact ⟨_, _, rfl, .c10 g1 g2 g3, rfl, by omega, trivial⟩
  by_cases z11 : op = 11
  · subst z11; obtain ⟨x, j, g1, rfl, rfl, g2⟩ := pR rfl h
    have b := by_row (x := x) ha
    exact ⟨_, _, rfl, .c11 g1 b, rfl, by omega, b.le, b.2.2⟩
  by_cases z12 : op = 12
  · subst z12; obtain ⟨rfl, rfl⟩ := p0 rfl h; exact ⟨_, _, rfl, .c12, rfl, Nat.le_refl _, trivial⟩
  by_cases z13 : op = 13
  · subst z13; obtain ⟨x, j, g1, rfl, rfl, g2⟩ := pR rfl h
    exact ⟨_, _, rfl, .c13 g1 (by_row (x := x) ha), rfl, by omega, trivial⟩
  by_cases z14 : op = 14
  · subst z14; obtain ⟨rfl, rfl⟩ := p0 rfl h; exact ⟨_, _, rfl, .c14, rfl, Nat.le_refl _, trivial⟩
  by_cases z15 : op = 15
  · subst z15; obtain ⟨x, j, g1, rfl, rfl, g2⟩ := pR rfl h
    exact ⟨_, _, rfl, .c15 g1 (by_row (x := x) ha), rfl, by omega, trivial⟩
  by_cases z16 : op = 16
  · subst z16; obtain ⟨x, j, g1, rfl, rfl, g2⟩ := pR rfl h
    have b := is_row (x := x) ha
    exact ⟨_, _, rfl, .c16 g1 b.1 b.2, rfl, by omega, trivial⟩
  by_cases z17 : op = 17
  · subst z17; obtain ⟨x, j, g1, rfl, rfl, g2⟩ := pR rfl h
    exact ⟨_, _, rfl, .c17 g1 (by_row (x := x) ha), rfl, by omega, trivial⟩
  exfalso
  have e : PyVbwsai.shape op = none := by
    unfold PyVbwsai.shape
    rw [if_neg z0, if_neg z1, if_neg z2, if_neg z3, if_neg z4, if_neg z5, if_neg z6, if_neg z7, if_neg z8, if_neg z9, if_neg z10, if_neg z11, if_neg z12, if_neg z13, if_neg z14, if_neg z15, if_neg z16, if_neg z17]
  have h : (match PyVbwsai.shape op with
      | none => none
      | some (n, k) => if (l.drop i).length < n then none else match PyFlat.rows k ((l.drop i).drop n) with
        | none => none
        | some (xs, t) => some ((op :: (l.drop i).take n) :: xs, t)) = some (c, t) := h
  rw [e] at h
  exact nomatch h
theorem par_le {l : List Int} {i j : Nat} {op : Int} {d : Vbwsai.Call} (h : Par l i op d j) : 0 ≤ op ∧ op ≤ 17 := by
  cases h <;> omega
end TS
namespace TS
open PySem PySem.Spec PyProof.Rows L2 Vbwsai
theorem if_ne {a b : Int} {A B : Prop} (h : ¬ a = b) (k : B) : if decide (V.int a = V.int b) = true then A else B := ifd (fun c => absurd (V.int.inj c) h) (fun _ => k)
theorem if_eq {a : Int} {A B : Prop} (k : A) : if decide (V.int a = V.int a) = true then A else B := ifd (fun _ => k) (fun c => absurd rfl c)
theorem asked_facts {l : List Int} (h : PyVbwsai.answers_asked l = true) : ∃ raw, PyFlat.calls PyVbwsai.shape l.length l = some raw ∧ raw.length ≤ 200 ∧ (∀ c ∈ raw, VbwsaiNeutral.asked1 c = true) ∧
    PyVbwsai.answers l = PyFlat.told (PyFlat.played VbwsaiNeutral.step Vbwsai.start raw) ∧ (PyVbwsai.answers l).length ≤ 10000000 := by
  unfold PyVbwsai.answers_asked at h
  split at h
  · exact nomatch h
  · rename_i raw e
    rw [map_whole] at h
    simp only [Bool.and_eq_true] at h
    obtain ⟨⟨⟨⟨_, h2⟩, _⟩, h4⟩, h5⟩ := h
    refine ⟨raw, e, of_decide_eq_true h2, ?_, ?_, of_decide_eq_true h5⟩
    · unfold VbwsaiNeutral.asked at h4
      rw [Bool.and_eq_true] at h4
      exact List.all_eq_true.mp h4.1
    · unfold PyVbwsai.answers PyVbwsai.calls
      rw [e]
      show PyFlat.told (PyFlat.played VbwsaiNeutral.step VbwsaiNeutral.start (raw.map PyVbwsai.whole)) = _
      rw [map_whole]
      rfl
theorem calls_nil {f : Nat} {rest : List (List (List Int))} (h : PyFlat.calls PyVbwsai.shape f [] = some rest) : rest = [] := by
  cases f <;> exact (Option.some.inj h).symm
theorem calls_cons {f : Nat} {p : Int} {r : List Int} {rest : List (List (List Int))} (h : PyFlat.calls PyVbwsai.shape f (p :: r) = some rest) :
    ∃ f' c t cs, PyFlat.call PyVbwsai.shape (p :: r) = some (c, t) ∧ PyFlat.calls PyVbwsai.shape f' t = some cs ∧ rest = c :: cs := by
  cases f with
  | zero => exact nomatch h
  | succ f =>
    have h2 : (match PyFlat.call PyVbwsai.shape (p :: r) with
      | none => none
      | some (c, t) => match PyFlat.calls PyVbwsai.shape f t with
        | none => none
        | some cs => some (c :: cs)) = some rest := h
    split at h2
    · exact nomatch h2
    · rename_i c t e
      split at h2
      · exact nomatch h2
      · rename_i cs e2
        exact ⟨f, c, t, cs, e, e2, (Option.some.inj h2).symm⟩
theorem told_cons (x : List Int) (xs : List (List Int)) : PyFlat.told (x :: xs) = ((x.length : Int) :: x) ++ PyFlat.told xs := by
  unfold PyFlat.told
  rw [List.flatMap_cons]
theorem step_of {c : List (List Int)} {d : Vbwsai.Call} (h : VbwsaiNeutral.callOf c = some d) (s : State) : VbwsaiNeutral.step s c = Vbwsai.step s d := by
  unfold VbwsaiNeutral.step
  rw [h]
theorem lim7 {n : Nat} (h : n ≤ 10000000) : n ≤ sizeLine := by rw [sizeLine_eq]; omega
theorem lim7' {n : Nat} (h : n < 10000000) : n < sizeLine := by rw [sizeLine_eq]; omega
/-- the session stands while the reader goes on -/
theorem all_in {row : List Int} (h : ∀ z ∈ row, -1000000000000000000 ≤ z ∧ z ≤ 1000000000000000000) : ¬ (row.all fun v => inRange v (-1000000000000000000) 1000000000000000000) = false := by
  have e : (row.all fun v => inRange v (-1000000000000000000) 1000000000000000000) = true := List.all_eq_true.mpr fun z hz => decide_eq_true (h z hz)
  rw [e]
  exact fun z => nomatch z
end TS
namespace TS
open PySem PySem.Spec PyProof.Rows L2 Vbwsai
section
variable {P : Program} {w : World} {K : PySem.W.Frag} {mg : Str → Option Value} {base : Heap} {A : Ad}
abbrev s_is_key : Stmt := top 16
theorem sc_is_key : FnScope ["number"] ["number"] (defScope s_is_key) := ⟨rfl, rfl, rfl, by decide +kernel, rfl, by decide +kernel, by decide +kernel⟩
theorem ok_is_key (T : Txt K mg A) (F : FunAt K mg "is_key" s_is_key ["number"])  : Fn P w K mg base 1 "is_key" ["number"] (sp_is_key K A) := by
  obtain ⟨f, fd, F, hmg, hb⟩ := F
  refine ⟨f, fd, F.ok sc_is_key (fun vs H Q E h => ?_) (fun cdv Ar outer s H vs Q E hr h => ?_), hmg, F.kp, hb⟩
  · exact S1.len h
  refine ⟨_, (pss_one (ps_ret (pe_chain op_le op_le pe_int (pv 0) (pe_cst T.c_LARGEST_KEY rfl)))), ?_⟩
  obtain ⟨_, rfl, n, rfl, hq⟩ := h
  refine ⟨_, rfl, _, _, rfl, rfl, _, rfl, ifd (fun c => ⟨_, _, rfl, rfl, bl_iff (by omega) hq⟩) (fun c => bl_eq (decide_eq_false (by omega)).symm hq)⟩
end
end TS
namespace TS
open PySem PySem.Spec PyProof.Rows L2 Vbwsai
section
variable {P : Program} {w : World} {K : PySem.W.Frag} {mg : Str → Option Value} {base : Heap} {A : Ad}
abbrev s_is_value : Stmt := top 17
theorem sc_is_value : FnScope ["number"] ["number"] (defScope s_is_value) := ⟨rfl, rfl, rfl, by decide +kernel, rfl, by decide +kernel, by decide +kernel⟩
theorem ok_is_value (T : Txt K mg A) (F : FunAt K mg "is_value" s_is_value ["number"])  : Fn P w K mg base 1 "is_value" ["number"] (sp_is_value K A) := by
  obtain ⟨f, fd, F, hmg, hb⟩ := F
  refine ⟨f, fd, F.ok sc_is_value (fun vs H Q E h => ?_) (fun cdv Ar outer s H vs Q E hr h => ?_), hmg, F.kp, hb⟩
  · exact S1.len h
  refine ⟨_, (pss_one (ps_ret (pe_chain op_le op_le (pe_un un_neg (pe_cst T.c_LARGEST rfl)) (pv 0) (pe_cst T.c_LARGEST rfl)))), ?_⟩
  obtain ⟨_, rfl, n, rfl, hq⟩ := h
  refine ⟨_, rfl, _, rfl, _, _, rfl, rfl, _, rfl, ifd (fun c => ⟨_, _, rfl, rfl, bl_iff (by omega) hq⟩) (fun c => bl_eq (decide_eq_false (by omega)).symm hq)⟩
end
end TS
namespace TS
open PySem PySem.Spec PyProof.Rows L2 Vbwsai
section
variable {P : Program} {w : World} {K : PySem.W.Frag} {mg : Str → Option Value} {base : Heap} {A : Ad}
abbrev s_is_power : Stmt := top 18
theorem sc_is_power : FnScope ["number"] ["number"] (defScope s_is_power) := ⟨rfl, rfl, rfl, by decide +kernel, rfl, by decide +kernel, by decide +kernel⟩
theorem ok_is_power (T : Txt K mg A) (F : FunAt K mg "is_power" s_is_power ["number"])  : Fn P w K mg base 1 "is_power" ["number"] (sp_is_power K A) := by
  obtain ⟨f, fd, F, hmg, hb⟩ := F
  refine ⟨f, fd, F.ok sc_is_power (fun vs H Q E h => ?_) (fun cdv Ar outer s H vs Q E hr h => ?_), hmg, F.kp, hb⟩
  · exact S1.len h
  refine ⟨_, (pss_one (ps_ret (pe_chain op_le op_le (pe_cst T.c_UNLIMITED rfl) (pv 0) (pe_cst T.c_LARGEST_LIMIT rfl)))), ?_⟩
  obtain ⟨_, rfl, n, rfl, hq⟩ := h
  refine ⟨_, rfl, _, _, rfl, rfl, _, rfl, ifd (fun c => ⟨_, _, rfl, rfl, bl_iff (by omega) hq⟩) (fun c => bl_eq (decide_eq_false (by omega)).symm hq)⟩
end
end TS
namespace TS
open PySem PySem.Spec PyProof.Rows L2 Vbwsai
section
variable {P : Program} {w : World} {K : PySem.W.Frag} {mg : Str → Option Value} {base : Heap} {A : Ad}
abbrev s_is_count : Stmt := top 19
theorem sc_is_count : FnScope ["number"] ["number"] (defScope s_is_count) := ⟨rfl, rfl, rfl, by decide +kernel, rfl, by decide +kernel, by decide +kernel⟩
theorem ok_is_count (T : Txt K mg A) (F : FunAt K mg "is_count" s_is_count ["number"])  : Fn P w K mg base 1 "is_count" ["number"] (sp_is_count K A) := by
  obtain ⟨f, fd, F, hmg, hb⟩ := F
  refine ⟨f, fd, F.ok sc_is_count (fun vs H Q E h => ?_) (fun cdv Ar outer s H vs Q E hr h => ?_), hmg, F.kp, hb⟩
  · exact S1.len h
  refine ⟨_, (pss_one (ps_ret (pe_chain op_le op_le pe_int (pv 0) (pe_cst T.c_LARGEST_LIMIT rfl)))), ?_⟩
  obtain ⟨_, rfl, n, rfl, hq⟩ := h
  refine ⟨_, rfl, _, _, rfl, rfl, _, rfl, ifd (fun c => ⟨_, _, rfl, rfl, bl_iff (by omega) hq⟩) (fun c => bl_eq (decide_eq_false (by omega)).symm hq)⟩
end
end TS
namespace TS
open PySem PySem.Spec PyProof.Rows L2 Vbwsai
section
variable {P : Program} {w : World} {K : PySem.W.Frag} {mg : Str → Option Value} {base : Heap} {A : Ad}
abbrev s_is_file : Stmt := top 20
theorem sc_is_file : FnScope ["number"] ["number"] (defScope s_is_file) := ⟨rfl, rfl, rfl, by decide +kernel, rfl, by decide +kernel, by decide +kernel⟩
theorem ok_is_file (T : Txt K mg A) (F : FunAt K mg "is_file" s_is_file ["number"])  : Fn P w K mg base 1 "is_file" ["number"] (sp_is_file K A) := by
  obtain ⟨f, fd, F, hmg, hb⟩ := F
  refine ⟨f, fd, F.ok sc_is_file (fun vs H Q E h => ?_) (fun cdv Ar outer s H vs Q E hr h => ?_), hmg, F.kp, hb⟩
  · exact S1.len h
  refine ⟨_, (pss_one (ps_ret (pe_chain op_le op_le pe_int (pv 0) (pe_cst T.c_LARGEST_FILE rfl)))), ?_⟩
  obtain ⟨_, rfl, n, rfl, hq⟩ := h
  refine ⟨_, rfl, _, _, rfl, rfl, _, rfl, ifd (fun c => ⟨_, _, rfl, rfl, bl_iff (by omega) hq⟩) (fun c => bl_eq (decide_eq_false (by omega)).symm hq)⟩
end
end TS
namespace TS
open PySem PySem.Spec PyProof.Rows L2 Vbwsai
section
variable {P : Program} {w : World} {K : PySem.W.Frag} {mg : Str → Option Value} {base : Heap} {A : Ad}
abbrev s_is_byte : Stmt := top 21
theorem sc_is_byte : FnScope ["number"] ["number"] (defScope s_is_byte) := ⟨rfl, rfl, rfl, by decide +kernel, rfl, by decide +kernel, by decide +kernel⟩
theorem ok_is_byte (T : Txt K mg A) (F : FunAt K mg "is_byte" s_is_byte ["number"])  : Fn P w K mg base 1 "is_byte" ["number"] (sp_is_byte K A) := by
  obtain ⟨f, fd, F, hmg, hb⟩ := F
  refine ⟨f, fd, F.ok sc_is_byte (fun vs H Q E h => ?_) (fun cdv Ar outer s H vs Q E hr h => ?_), hmg, F.kp, hb⟩
  · exact S1.len h
  refine ⟨_, (pss_one (ps_ret (pe_chain op_le op_le pe_int (pv 0) (pe_cst T.c_LARGEST_BYTE rfl)))), ?_⟩
  obtain ⟨_, rfl, n, rfl, hq⟩ := h
  refine ⟨_, rfl, _, _, rfl, rfl, _, rfl, ifd (fun c => ⟨_, _, rfl, rfl, bl_iff (by omega) hq⟩) (fun c => bl_eq (decide_eq_false (by omega)).symm hq)⟩
end
end TS
namespace TS
open PySem PySem.Spec PyProof.Rows L2 Vbwsai
section
variable {P : Program} {w : World} {K : PySem.W.Frag} {mg : Str → Option Value} {base : Heap} {A : Ad}
abbrev s_natural_of : Stmt := top 27
theorem sc_natural_of : FnScope ["number"] ["number"] (defScope s_natural_of) := ⟨rfl, rfl, rfl, by decide +kernel, rfl, by decide +kernel, by decide +kernel⟩
theorem ok_natural_of (T : Txt K mg A) (F : FunAt K mg "natural_of" s_natural_of ["number"])  : Fn P w K mg base 1 "natural_of" ["number"] (sp_natural_of K A) := by
  obtain ⟨f, fd, F, hmg, hb⟩ := F
  refine ⟨f, fd, F.ok sc_natural_of (fun vs H Q E h => ?_) (fun cdv Ar outer s H vs Q E hr h => ?_), hmg, F.kp, hb⟩
  · exact S1.len h
  refine ⟨_, (pss_cons (ps_if (pt_cmpR op_ge (pv 0) pe_int (nomark _)) (pss_one (ps_ret (pe_op op_mul pe_int (pv 0))))
      pss_nil)
      (pss_one (ps_ret (pe_op op_sub (pe_op op_mul (pe_un un_neg pe_int) (pv 0)) pe_int)))), ?_⟩
  obtain ⟨_, rfl, n, rfl, hq⟩ := h
  refine ⟨_, rfl, _, _, rfl, rfl, _, rfl, ifd (fun c => ?_) (fun c => ?_)⟩
  · refine ⟨_, rfl, _, _, rfl, rfl, .inl ⟨by decide, by decide⟩, ?_⟩
    rw [zz_pos c] at hq
    exact hq
  · refine ⟨_, rfl, _, rfl, _, _, rfl, rfl, .inl ⟨by decide, by decide⟩, _, _, rfl, rfl, ?_⟩
    rw [zz_neg c] at hq
    exact hq
end
end TS
namespace TS
open PySem PySem.Spec PyProof.Rows L2 Vbwsai
section
variable {P : Program} {w : World} {K : PySem.W.Frag} {mg : Str → Option Value} {base : Heap} {A : Ad}
abbrev s_integer_of : Stmt := top 28
theorem sc_integer_of : FnScope ["natural"] ["natural"] (defScope s_integer_of) := ⟨rfl, rfl, rfl, by decide +kernel, rfl, by decide +kernel, by decide +kernel⟩
theorem ok_integer_of (T : Txt K mg A) (F : FunAt K mg "integer_of" s_integer_of ["natural"])  : Fn P w K mg base 1 "integer_of" ["natural"] (sp_integer_of K A) := by
  obtain ⟨f, fd, F, hmg, hb⟩ := F
  refine ⟨f, fd, F.ok sc_integer_of (fun vs H Q E h => ?_) (fun cdv Ar outer s H vs Q E hr h => ?_), hmg, F.kp, hb⟩
  · exact S1.len h
  refine ⟨_, (pss_cons (ps_if (pt_cmpR op_eq (pe_op op_mod (pv 0) pe_int) pe_int (nomark _)) (pss_one (ps_ret (pe_op op_fdiv (pv 0) pe_int)))
      pss_nil)
      (pss_one (ps_ret (pe_op op_sub (pe_un un_neg (pe_op op_fdiv (pv 0) pe_int)) pe_int)))), ?_⟩
  obtain ⟨_, rfl, n, rfl, hq⟩ := h
  refine ⟨_, rfl, _, _, rfl, rfl, (by show (0 : Int) < 2; decide), rfl, _, rfl, ifd (fun c => ?_) (fun c => ?_)⟩
  · refine ⟨_, rfl, _, _, rfl, rfl, ⟨by decide, by decide⟩, ?_⟩
    have c' := V.int.inj c
    rw [zd_even (by omega)] at hq
    exact hq
  · refine ⟨_, rfl, _, _, rfl, rfl, ⟨by decide, by decide⟩, _, rfl, _, _, rfl, rfl, ?_⟩
    have c' : ¬ n % 2 = 0 := fun z => c (congrArg V.int (by omega))
    rw [zd_odd c'] at hq
    exact hq
end
end TS
namespace TS
open PySem PySem.Spec PyProof.Rows L2 Vbwsai
section
variable {P : Program} {w : World} {K : PySem.W.Frag} {mg : Str → Option Value} {base : Heap} {A : Ad}
abbrev s_integer_bytes : Stmt := top 29
theorem sc_integer_bytes : FnScope ["number", "rest", "digits"] ["number"] (defScope s_integer_bytes) := ⟨rfl, rfl, rfl, by decide +kernel, rfl, by decide +kernel, by decide +kernel⟩
theorem ok_integer_bytes (T : Txt K mg A) (F : FunAt K mg "integer_bytes" s_integer_bytes ["number"]) (d_natural_of : Fn P w K mg base 1 "natural_of" ["number"] (sp_natural_of K A)) : Fn P w K mg base 2 "integer_bytes" ["number"] (sp_integer_bytes K A) := by
  obtain ⟨f, fd, F, hmg, hb⟩ := F
  refine ⟨f, fd, F.ok sc_integer_bytes (fun vs H Q E h => ?_) (fun cdv Ar outer s H vs Q E hr h => ?_), hmg, F.kp, hb⟩
  · exact S1.len h
  refine ⟨_, (pss_cons (ps_set (i := 1) sc_integer_bytes.nd rfl (Or.inl rfl) (pe_fn d_natural_of (hr.mono (by decide)) rfl (pa_cons (pv 0) pa_nil)))
      (pss_cons (ps_set (i := 2) sc_integer_bytes.nd rfl (Or.inl rfl) (pe_lst pa_nil))
      (pss_cons (ps_while PassesOwn.never (pt_cmpR op_ge (pv 1) pe_int (nomark _)) (pss_cons (ps_expr (pe_bm PySem.F.plainAttrs_list PySem.F.slot_list_append PySem.F.type_list_append mt_append (pv 2) (pa_cons (pe_op op_add (pe_op op_mod (pv 1) pe_int) pe_int) pa_nil)))
      (pss_one (ps_set (i := 1) sc_integer_bytes.nd rfl (Or.inl rfl) (pe_op op_fdiv (pv 1) pe_int)))))
      (pss_cons (ps_expr (pe_bm PySem.F.plainAttrs_list PySem.F.slot_list_append PySem.F.type_list_append mt_append (pv 2) (pa_cons (pv 1) pa_nil)))
      (pss_one (ps_ret (pv 2))))))), ?_⟩
  obtain ⟨_, rfl, n, rfl, sm, hq⟩ := h
  refine ⟨_, rfl, _, rfl, n, rfl, Nat.zero_le _, fun p hp => ?_⟩
  refine ⟨fun m σ H' => ∃ (f : Nat) (ds : Bytes), σ = [some (.int n), some (.int (m : Nat)), some (.ref p)] ∧ Same H H' ∧ H' p = some (.lst (vb ds)) ∧ m < 128 ^ (f + 1) ∧ ds.length + f + 1 = 12 ∧ ds ++ base128Digits (f + 1) m = encodeInteger n,
    ⟨_, 11, [], rfl, same_upd hp, upd_same, zz_lt sm, rfl, rfl⟩, ?_⟩
  rintro m σ H' ⟨f, ds, rfl, s1, e1, hm, hl, he⟩
  refine ⟨_, rfl, _, _, rfl, rfl, _, rfl, ifd (fun c => ?_) (fun c => ?_)⟩
  · refine ⟨_, fun _ _ z => z, ?_⟩
    refine ⟨_, rfl, .inl ⟨rfl, _, SqL.of e1⟩, _, rfl, _, _, rfl, rfl, (by show (0 : Int) < 128; decide), _, _, rfl, rfl, p, _, _, rfl, rfl, e1, lim_sz (by rw [vb_len]; omega), ?_⟩
    refine ⟨_, rfl, _, _, rfl, rfl, ⟨by decide, by decide⟩, ?_⟩
    cases f with
    | zero => rw [Nat.zero_add, Nat.pow_one] at hm; omega
    | succ f =>
      refine ⟨m / 128, by omega, f, ds ++ [128 + m % 128], rfl, s1.wr hp, ?_, ?_, ?_, ?_⟩
      · rw [upd_same, vb_app]
        have e2 : V.int ((m : Int) % 128 + 128) = V.int ((128 + m % 128 : Nat) : Int) := congrArg V.int (by omega)
        show some (HO.lst (vb ds ++ [V.int ((m : Int) % 128 + 128)])) = _
        rw [e2]
        rfl
      · rw [Nat.pow_succ] at hm; omega
      · simp; omega
      · rw [← he, digits_ge (by omega : ¬ m < 128), List.append_assoc]; rfl
  · refine ⟨_, rfl, .inl ⟨rfl, _, SqL.of e1⟩, _, rfl, p, _, _, rfl, rfl, e1, lim_sz (by rw [vb_len]; omega), ?_⟩
    refine ⟨_, rfl, ?_⟩
    refine hq _ p (s1.wr hp) hp ?_
    rw [upd_same, ← he, digits_lt (by omega : m < 128), vb_app]
    rfl
end
end TS
namespace TS
open PySem PySem.Spec PyProof.Rows L2 Vbwsai
section
variable {P : Program} {w : World} {K : PySem.W.Frag} {mg : Str → Option Value} {base : Heap} {A : Ad}
abbrev s_row_bytes : Stmt := top 30
theorem sc_row_bytes : FnScope ["row", "data", "number"] ["row"] (defScope s_row_bytes) := ⟨rfl, rfl, rfl, by decide +kernel, rfl, by decide +kernel, by decide +kernel⟩
theorem ok_row_bytes (T : Txt K mg A) (F : FunAt K mg "row_bytes" s_row_bytes ["row"]) (d_integer_bytes : Fn P w K mg base 2 "integer_bytes" ["number"] (sp_integer_bytes K A)) : Fn P w K mg base 3 "row_bytes" ["row"] (sp_row_bytes K A) := by
  obtain ⟨f, fd, F, hmg, hb⟩ := F
  refine ⟨f, fd, F.ok sc_row_bytes (fun vs H Q E h => ?_) (fun cdv Ar outer s H vs Q E hr h => ?_), hmg, F.kp, hb⟩
  · exact S1.len h
  refine ⟨_, (pss_cons (ps_set (i := 1) sc_row_bytes.nd rfl (Or.inl rfl) (pe_lst pa_nil))
      (pss_cons (ps_for PassesOwn.never rfl (pi_list (pv 0)) (pg_name (i := 2) sc_row_bytes.nd rfl (Or.inl rfl))
      (pss_one (ps_expr (pe_bm PySem.F.plainAttrs_list PySem.F.slot_list_extend PySem.F.type_list_extend mt_extend (pv 1) (pa_cons (pe_fn d_integer_bytes (hr.mono (by decide)) rfl (pa_cons (pv 2) pa_nil)) pa_nil)))))
      (pss_one (ps_ret (pv 1))))), ?_⟩
  obtain ⟨_, rfl, a, l, rfl, ha, sm, hl, hq⟩ := h
  refine ⟨Nat.zero_le _, fun p hp => ?_⟩
  refine ⟨_, rfl, a, rfl, ⟨_, SqL.of (same_upd hp _ _ ha)⟩, for_list (K := K) (a := a) (xs := vi l) (fun i σ H' => ∃ v, σ = [some (.ref a), some (.ref p), v] ∧ Same H H' ∧ H' p = some (.lst (vb (encodeRow (l.take i)))))
    ⟨_, rfl, same_upd hp, upd_same⟩ (fun i σ H' _ ⟨_, _, s1, _⟩ => SqL.of (s1 _ _ ha)) ?_ ?_⟩
  · rintro i y σ H' hi ⟨v, rfl, s1, e1⟩
    obtain ⟨z, hz, rfl⟩ := vi_inv hi
    refine ⟨_, rfl, .inl ⟨rfl, _, SqL.of e1⟩, _, rfl, _, rfl, z, rfl, sm z (List.mem_of_getElem? hz), fun H2 q s2 hq2 e2 => ?_⟩
    refine ⟨p, q, _, _, rfl, rfl, s2 _ _ e1, e2, ?_, ?_⟩
    · rw [vb_len, vb_len]
      have h1 := row_len (l.take i)
      have h2 := enc_len z
      have h3 := List.length_take_le' i l
      exact lim_sz' (by omega)
    · refine ⟨_, rfl, (s1.trans s2).wr hp, ?_⟩
      rw [upd_same, take_more hz, row_app, row_one, vb_app]
  · rintro σ H' ⟨v, rfl, s1, e1⟩
    refine ⟨_, rfl, hq _ p s1 hp ?_⟩
    rw [vi_len, List.take_length] at e1
    exact e1
end
end TS
namespace TS
open PySem PySem.Spec PyProof.Rows L2 Vbwsai
section
variable {P : Program} {w : World} {K : PySem.W.Frag} {mg : Str → Option Value} {base : Heap} {A : Ad}
abbrev s_part_integer : Stmt := top 31
theorem sc_part_integer : FnScope ["part", "natural", "byte"] ["part"] (defScope s_part_integer) := ⟨rfl, rfl, rfl, by decide +kernel, rfl, by decide +kernel, by decide +kernel⟩
theorem ok_part_integer (T : Txt K mg A) (F : FunAt K mg "part_integer" s_part_integer ["part"]) (d_integer_of : Fn P w K mg base 1 "integer_of" ["natural"] (sp_integer_of K A)) : Fn P w K mg base 2 "part_integer" ["part"] (sp_part_integer K A) := by
  obtain ⟨f, fd, F, hmg, hb⟩ := F
  refine ⟨f, fd, F.ok sc_part_integer (fun vs H Q E h => ?_) (fun cdv Ar outer s H vs Q E hr h => ?_), hmg, F.kp, hb⟩
  · exact S1.len h
  refine ⟨_, (pss_cons (ps_set (i := 1) sc_part_integer.nd rfl (Or.inl rfl) pe_int)
      (pss_cons (ps_for PassesOwn.never rfl (pi_reversed (by rfl) T.b_reversed (pa_cons (pv 0) pa_nil)) (pg_name (i := 2) sc_part_integer.nd rfl (Or.inl rfl))
      (pss_one (ps_set (i := 1) sc_part_integer.nd rfl (Or.inl rfl) (pe_op op_add (pe_op op_mul (pv 1) pe_int) (pe_op op_mod (pv 2) pe_int)))))
      (pss_one (ps_ret (pe_fn d_integer_of (hr.mono (by decide)) rfl (pa_cons (pv 1) pa_nil)))))), ?_⟩
  obtain ⟨_, rfl, a, p, rfl, ha, hq⟩ := h
  refine ⟨_, rfl, a, _, rfl, SqL.of ha, fun i m σ H' => m + i = p.length ∧ H' = H ∧ ∃ v, σ = [some (.ref a), some (.int (pvc (p.drop m) 0 : Nat)), v], ⟨p.length, rfl, rfl, none, by rw [List.drop_length]; rfl⟩, ?_⟩
  rintro i m σ H' ⟨hm, rfl, v, rfl⟩
  cases m with
  | zero =>
    left
    refine ⟨by show (vb p).length ≤ i; rw [vb_len]; omega, _, rfl, _, rfl, _, rfl, ?_⟩
    exact hq
  | succ m =>
    right
    have hlt : m < p.length := by omega
    have hg : (vb p)[(vb p).length - 1 - i]? = some (V.int (at_ p m : Nat)) := by
      rw [vb_len, show p.length - 1 - i = m by omega]
      exact vb_get (at_get hlt)
    refine ⟨⟨by rw [vb_len]; omega, _, _, SqL.of ha, hg⟩, _, fun _ _ z => z, ?_⟩
    rintro x H' ⟨rfl, hx⟩
    have ex := hx _ (SqL.of ha)
    rw [hg] at ex
    obtain rfl := (Option.some.inj ex).symm
    refine ⟨_, rfl, _, _, rfl, rfl, .inr ⟨by decide, by decide⟩, _, rfl, _, _, rfl, rfl, (by show (0 : Int) < 128; decide), _, _, rfl, rfl, ?_⟩
    refine ⟨m, Nat.lt_succ_self m, by omega, rfl, some (V.int (at_ p m : Nat)), ?_⟩
    have e : p.drop m = at_ p m :: p.drop (m + 1) := by
      have h1 : at_ p m = p[m] := Option.some.inj ((at_get hlt).symm.trans (List.getElem?_eq_getElem hlt))
      rw [h1]
      exact List.drop_eq_getElem_cons hlt
    rw [e]
    show [some (V.ref a), some (V.int (((pvc (p.drop (m + 1)) 0 : Nat) : Int) * 128 + ((at_ p m : Nat) : Int) % 128)), some (V.int (at_ p m : Nat))] = [some (V.ref a), some (V.int ((pvc (p.drop (m + 1)) 0 * 128 + at_ p m % 128 : Nat) : Int)), some (V.int (at_ p m : Nat))]
    have e2 : ((pvc (p.drop (m + 1)) 0 : Nat) : Int) * 128 + ((at_ p m : Nat) : Int) % 128 = ((pvc (p.drop (m + 1)) 0 * 128 + at_ p m % 128 : Nat) : Int) := by omega
    rw [e2]
end
end TS
namespace TS
open PySem PySem.Spec PyProof.Rows L2 Vbwsai
section
variable {P : Program} {w : World} {K : PySem.W.Frag} {mg : Str → Option Value} {base : Heap} {A : Ad}
abbrev s_decoded_row : Stmt := top 32
theorem sc_decoded_row : FnScope ["payload", "row", "part", "byte"] ["payload"] (defScope s_decoded_row) := ⟨rfl, rfl, rfl, by decide +kernel, rfl, by decide +kernel, by decide +kernel⟩
theorem ok_decoded_row (T : Txt K mg A) (F : FunAt K mg "decoded_row" s_decoded_row ["payload"]) (d_part_integer : Fn P w K mg base 2 "part_integer" ["part"] (sp_part_integer K A)) : Fn P w K mg base 3 "decoded_row" ["payload"] (sp_decoded_row K A) := by
  obtain ⟨f, fd, F, hmg, hb⟩ := F
  refine ⟨f, fd, F.ok sc_decoded_row (fun vs H Q E h => ?_) (fun cdv Ar outer s H vs Q E hr h => ?_), hmg, F.kp, hb⟩
  · exact S1.len h
  refine ⟨_, (pss_cons (ps_set (i := 1) sc_decoded_row.nd rfl (Or.inl rfl) (pe_lst pa_nil))
      (pss_cons (ps_set (i := 2) sc_decoded_row.nd rfl (Or.inl rfl) (pe_lst pa_nil))
      (pss_cons (ps_for PassesOwn.never rfl (pi_list (pv 0)) (pg_name (i := 3) sc_decoded_row.nd rfl (Or.inl rfl))
      (pss_cons (ps_expr (pe_bm PySem.F.plainAttrs_list PySem.F.slot_list_append PySem.F.type_list_append mt_append (pv 2) (pa_cons (pv 3) pa_nil)))
      (pss_cons (ps_if (pt_cmpR op_gt (pe_callB call_len_seq (by rfl) T.b_len PySem.boot_len (pa_cons (pv 2) pa_nil)) (pe_cst T.c_LONGEST_PART rfl) (nomark _)) (pss_one (ps_ret pe_non))
      pss_nil)
      (pss_one (ps_if (pt_cmpR op_lt (pv 3) pe_int (nomark _)) (pss_cons (ps_expr (pe_bm PySem.F.plainAttrs_list PySem.F.slot_list_append PySem.F.type_list_append mt_append (pv 1) (pa_cons (pe_fn d_part_integer (hr.mono (by decide)) rfl (pa_cons (pv 2) pa_nil)) pa_nil)))
      (pss_one (ps_set (i := 2) sc_decoded_row.nd rfl (Or.inl rfl) (pe_lst pa_nil))))
      pss_nil)))))
      (pss_cons (ps_if (pt_cmpR op_gt (pe_callB call_len_seq (by rfl) T.b_len PySem.boot_len (pa_cons (pv 2) pa_nil)) pe_int (nomark _)) (pss_one (ps_ret pe_non))
      pss_nil)
      (pss_one (ps_ret (pv 1))))))), ?_⟩
  obtain ⟨_, rfl, a, p, rfl, ha, hp, hN, hS⟩ := h
  refine ⟨Nat.zero_le _, fun pr hpr => ⟨Nat.zero_le _, fun q0 hq0 => ?_⟩⟩
  have npq : q0 ≠ pr := fun z => by rw [z, upd_same] at hq0; exact nomatch hq0
  have hq0' : H q0 = none := (same_upd hpr).free hq0
  have sA : Same H (upd (upd H pr (.lst [])) q0 (.lst [])) := (same_upd hpr).up hq0
  refine ⟨_, rfl, a, rfl, ⟨_, SqL.of (sA _ _ ha)⟩, for_list (K := K) (a := a) (xs := vb p)
    (fun i σ H' => ∃ (q : Addr) (row : List Int) (part : Bytes) (v : Option V), σ = [some (.ref a), some (.ref pr), some (.ref q), v] ∧ Same H H' ∧ H' pr = some (.lst (vi row)) ∧ H' q = some (.lst (vb part)) ∧ H q = none ∧ q ≠ pr ∧
      part.length ≤ 12 ∧ row.length ≤ i ∧ decL p [] [] = decL (p.drop i) row part)
    ⟨q0, [], [], none, rfl, sA, by rw [upd_ne npq.symm, upd_same]; rfl, upd_same, hq0', npq, Nat.zero_le _, Nat.le_refl _, rfl⟩
    (fun i σ H' _ ⟨_, _, _, _, _, s1, _⟩ => SqL.of (s1 _ _ ha)) ?_ ?_⟩
  · rintro i y σ H' hi ⟨q, row, part, v, rfl, s1, e1, e2, hq, nq, hpl, hrl, he⟩
    obtain ⟨z, hz, rfl⟩ := vb_inv hi
    have hil := lt_of_get hz
    rw [drop_one hz] at he
    have un : decL (z :: p.drop (i + 1)) row part = (if 12 < part.length + 1 then none else if z < 128 then decL (p.drop (i + 1)) (row ++ [zigzagDecode (pvc (part ++ [z]) 0)]) [] else decL (p.drop (i + 1)) row (part ++ [z])) := rfl
    rw [un] at he
    refine ⟨_, rfl, .inl ⟨rfl, _, SqL.of e2⟩, _, rfl, q, _, _, rfl, rfl, e2, lim_sz (by rw [vb_len]; omega), ?_⟩
    have e3 : vb part ++ [V.int (z : Int)] = vb (part ++ [z]) := (vb_app part [z]).symm
    rw [e3]
    have s2 : Same H (upd H' q (.lst (vb (part ++ [z])))) := s1.wr hq
    refine ⟨_, rfl, q, _, rfl, .inl (SqL.of upd_same), _, _, rfl, rfl, _, rfl, ifd (fun c => ?_) (fun c => ?_)⟩
    · rw [vb_len, List.length_append, List.length_singleton] at c
      refine hN ?_ _ s2
      rw [he, if_pos (by omega)]
    · rw [vb_len, List.length_append, List.length_singleton] at c
      rw [if_neg (by omega)] at he
      have e1' : upd H' q (.lst (vb (part ++ [z]))) pr = some (.lst (vi row)) := by rw [upd_ne nq.symm]; exact e1
      refine ⟨_, rfl, _, _, rfl, rfl, _, rfl, ifd (fun c2 => ?_) (fun c2 => ?_)⟩
      · rw [if_pos (by omega)] at he
        refine ⟨_, rfl, .inl ⟨rfl, _, SqL.of e1'⟩, _, rfl, _, rfl, q, part ++ [z], rfl, upd_same, pr, _, _, rfl, rfl, e1', lim_sz (by rw [vi_len]; omega), ?_⟩
        refine ⟨Nat.zero_le _, fun q2 hq2 => ?_⟩
        have s3 : Same H (upd (upd H' q (.lst (vb (part ++ [z])))) pr (.lst (vi row ++ [V.int (zigzagDecode (pvc (part ++ [z]) 0))]))) := s2.wr hpr
        have n2 : q2 ≠ pr := fun w => by rw [w, upd_same] at hq2; exact nomatch hq2
        refine ⟨q2, _, [], _, rfl, s3.up hq2, ?_, upd_same, s3.free hq2, n2, Nat.zero_le _, ?_, he⟩
        · rw [upd_ne n2.symm, upd_same, vi_app]; rfl
        · simp; omega
      · rw [if_neg (by omega)] at he
        exact ⟨q, row, part ++ [z], _, rfl, s2, e1', upd_same, hq, nq, by simp; omega, by omega, he⟩
  · rintro σ H' ⟨q, row, part, v, rfl, s1, e1, e2, hq, nq, hpl, hrl, he⟩
    rw [vb_len, List.drop_length] at he
    have un : decL [] row part = if part = [] then some row else none := rfl
    rw [un] at he
    refine ⟨_, rfl, q, _, rfl, .inl (SqL.of e2), _, _, rfl, rfl, _, rfl, ifd (fun c => ?_) (fun c => ?_)⟩
    · rw [vb_len] at c
      refine hN ?_ _ s1
      rw [he, if_neg (fun z => by rw [z] at c; exact absurd c (by decide))]
    · rw [vb_len] at c
      have hz : part = [] := List.length_eq_zero_iff.mp (by omega)
      rw [if_pos hz] at he
      exact ⟨_, rfl, hS _ he _ pr s1 hpr e1⟩
end
end TS
namespace TS
open PySem PySem.Spec PyProof.Rows L2 Vbwsai
section
variable {P : Program} {w : World} {K : PySem.W.Frag} {mg : Str → Option Value} {base : Heap} {A : Ad}
abbrev s_checksum : Stmt := top 33
theorem sc_checksum : FnScope ["data", "total", "position", "byte"] ["data"] (defScope s_checksum) := ⟨rfl, rfl, rfl, by decide +kernel, rfl, by decide +kernel, by decide +kernel⟩
theorem ok_checksum (T : Txt K mg A) (F : FunAt K mg "checksum" s_checksum ["data"])  : Fn P w K mg base 1 "checksum" ["data"] (sp_checksum K A) := by
  obtain ⟨f, fd, F, hmg, hb⟩ := F
  refine ⟨f, fd, F.ok sc_checksum (fun vs H Q E h => ?_) (fun cdv Ar outer s H vs Q E hr h => ?_), hmg, F.kp, hb⟩
  · exact S1.len h
  refine ⟨_, (pss_cons (ps_set (i := 1) sc_checksum.nd rfl (Or.inl rfl) pe_int)
      (pss_cons (ps_for PassesOwn.never rfl (pi_enumS (by rfl) T.b_enumerate (pa_cons (pv 0) pa_nil)) (pg_tup rfl (pgs_cons (pg_name (i := 2) sc_checksum.nd rfl (Or.inl rfl)) (pgs_cons (pg_name (i := 3) sc_checksum.nd rfl (Or.inl rfl)) pgs_nil)))
      (pss_one (ps_aug (i := 1) sc_checksum.nd rfl (Or.inl rfl) (pe_op op_mul (pe_op op_add (pv 3) pe_int) (pv 2)) ip_add)))
      (pss_one (ps_ret (pe_op op_mod (pv 1) (pe_cst T.c_CHECKSUM_MODULUS rfl)))))), ?_⟩
  obtain ⟨_, rfl, a, p, rfl, ha, hp, hq⟩ := h
  refine ⟨_, rfl, a, _, rfl, SqL.of ha, fun i m σ H' => m + i = p.length ∧ Same H H' ∧ ∃ v2 v3, σ = [some (.ref a), some (.int (csum 1 (p.take i) : Nat)), v2, v3], ⟨p.length, rfl, Same.refl H, none, none, rfl⟩, ?_⟩
  rintro i m σ H' ⟨hm, s1, v2, v3, rfl⟩
  cases m with
  | zero =>
    left
    refine ⟨⟨_, SqL.of (s1 _ _ ha), by rw [vb_len]; omega⟩, _, rfl, _, _, rfl, rfl, (by show (0 : Int) < 65521; decide), ?_⟩
    have e1 : p.take i = p := List.take_of_length_le (by omega)
    rw [e1]
    have e2 := hq H' s1
    rw [checksum_eq] at e2
    exact e2
  | succ m =>
    right
    have hlt : i < p.length := by omega
    refine ⟨⟨_, _, SqL.of (s1 _ _ ha), vb_get (at_get hlt)⟩, _, fun _ _ z => z, ?_⟩
    rintro x H2 ⟨t, y, rfl, ht, rfl, hy⟩
    have ey := hy _ (SqL.of (s1 _ _ ha))
    rw [vb_get (at_get hlt)] at ey
    obtain rfl := (Option.some.inj ey).symm
    refine ⟨t, _, rfl, SqT.of upd_same, rfl, _, _, rfl, _, _, rfl, rfl, ?_⟩
    refine ⟨_, rfl, _, rfl, _, _, rfl, rfl, _, rfl, _, _, rfl, rfl, .inr ⟨by omega, by omega⟩, _, _, rfl, rfl, ?_⟩
    refine ⟨m, Nat.lt_succ_self m, by omega, s1.up ht, some (V.int (1 + (i : Int))), some (V.int (at_ p i : Nat)), ?_⟩
    rw [take_more (at_get hlt), csum_snoc, List.length_take, Nat.min_eq_left (Nat.le_of_lt hlt)]
    have e2 : ((csum 1 (p.take i) : Nat) : Int) + (((at_ p i : Nat) : Int) + 1) * (1 + (i : Int)) = ((csum 1 (p.take i) + (at_ p i + 1) * (1 + i) : Nat) : Int) := by
      rw [Int.natCast_add, Int.natCast_mul, Int.natCast_add, Int.natCast_add]; rfl
    rw [← e2]
    rfl
end
end TS
namespace TS
open PySem PySem.Spec PyProof.Rows L2 Vbwsai
section
variable {P : Program} {w : World} {K : PySem.W.Frag} {mg : Str → Option Value} {base : Heap} {A : Ad}
abbrev s_two_bytes : Stmt := top 34
theorem sc_two_bytes : FnScope ["number"] ["number"] (defScope s_two_bytes) := ⟨rfl, rfl, rfl, by decide +kernel, rfl, by decide +kernel, by decide +kernel⟩
theorem ok_two_bytes (T : Txt K mg A) (F : FunAt K mg "two_bytes" s_two_bytes ["number"])  : Fn P w K mg base 1 "two_bytes" ["number"] (sp_two_bytes K A) := by
  obtain ⟨f, fd, F, hmg, hb⟩ := F
  refine ⟨f, fd, F.ok sc_two_bytes (fun vs H Q E h => ?_) (fun cdv Ar outer s H vs Q E hr h => ?_), hmg, F.kp, hb⟩
  · exact S1.len h
  refine ⟨_, (pss_one (ps_ret (pe_lst (pa_cons (pe_op op_fdiv (pv 0) pe_int) (pa_cons (pe_op op_mod (pv 0) pe_int) pa_nil))))), ?_⟩
  obtain ⟨_, rfl, n, rfl, hn, hq⟩ := h
  refine ⟨_, rfl, _, _, rfl, rfl, ⟨by decide, by decide⟩, _, rfl, _, _, rfl, rfl, (by show (0 : Int) < 256; decide), (by show 2 ≤ sizeLine; decide), fun p hp => ?_⟩
  refine hq _ p (same_upd hp) hp ?_
  rw [upd_same, two_eq hn]
  rfl
end
end TS
namespace TS
open PySem PySem.Spec PyProof.Rows L2 Vbwsai
section
variable {P : Program} {w : World} {K : PySem.W.Frag} {mg : Str → Option Value} {base : Heap} {A : Ad}
abbrev s_number_at : Stmt := top 35
theorem sc_number_at : FnScope ["data", "start"] ["data", "start"] (defScope s_number_at) := ⟨rfl, rfl, rfl, by decide +kernel, rfl, by decide +kernel, by decide +kernel⟩
theorem ok_number_at (T : Txt K mg A) (F : FunAt K mg "number_at" s_number_at ["data", "start"])  : Fn P w K mg base 1 "number_at" ["data", "start"] (sp_number_at K A) := by
  obtain ⟨f, fd, F, hmg, hb⟩ := F
  refine ⟨f, fd, F.ok sc_number_at (fun vs H Q E h => ?_) (fun cdv Ar outer s H vs Q E hr h => ?_), hmg, F.kp, hb⟩
  · exact S2.len h
  refine ⟨_, (pss_one (ps_ret (pe_op op_add (pe_op op_mul (pe_ix ix_list (pv 0) (pv 1) (fun _ _ => rfl)) pe_int) (pe_ix ix_list (pv 0) (pe_op op_add (pv 1) pe_int) (fun _ _ => rfl))))), ?_⟩
  obtain ⟨_, _, rfl, a, p, i, rfl, rfl, ha, hi, hq⟩ := h
  refine ⟨_, rfl, _, rfl, a, _, _, _, rfl, rfl, SqL.of ha, at_vbI i rfl (by omega), _, _, rfl, rfl, .inr ⟨by decide, by decide⟩, ?_⟩
  refine ⟨_, rfl, _, rfl, _, _, rfl, rfl, a, _, _, _, rfl, rfl, SqL.of ha, at_vbI (i + 1) rfl hi, _, _, rfl, rfl, ?_⟩
  exact hq
end
end TS
namespace TS
open PySem PySem.Spec PyProof.Rows L2 Vbwsai
section
variable {P : Program} {w : World} {K : PySem.W.Frag} {mg : Str → Option Value} {base : Heap} {A : Ad}
abbrev s_frame : Stmt := top 36
theorem sc_frame : FnScope ["row", "payload", "length", "head"] ["row"] (defScope s_frame) := ⟨rfl, rfl, rfl, by decide +kernel, rfl, by decide +kernel, by decide +kernel⟩
theorem ok_frame (T : Txt K mg A) (F : FunAt K mg "frame" s_frame ["row"]) (d_row_bytes : Fn P w K mg base 3 "row_bytes" ["row"] (sp_row_bytes K A)) (d_two_bytes : Fn P w K mg base 1 "two_bytes" ["number"] (sp_two_bytes K A)) (d_checksum : Fn P w K mg base 1 "checksum" ["data"] (sp_checksum K A)) : Fn P w K mg base 4 "frame" ["row"] (sp_frame K A) := by
  obtain ⟨f, fd, F, hmg, hb⟩ := F
  refine ⟨f, fd, F.ok sc_frame (fun vs H Q E h => ?_) (fun cdv Ar outer s H vs Q E hr h => ?_), hmg, F.kp, hb⟩
  · exact S1.len h
  refine ⟨_, (pss_cons (ps_set (i := 1) sc_frame.nd rfl (Or.inl rfl) (pe_fn d_row_bytes (hr.mono (by decide)) rfl (pa_cons (pv 0) pa_nil)))
      (pss_cons (ps_set (i := 2) sc_frame.nd rfl (Or.inl rfl) (pe_fn d_two_bytes (hr.mono (by decide)) rfl (pa_cons (pe_callB call_len_seq (by rfl) T.b_len PySem.boot_len (pa_cons (pv 1) pa_nil)) pa_nil)))
      (pss_cons (ps_set (i := 3) sc_frame.nd rfl (Or.inl rfl) (pe_op op_cat (pv 2) (pe_fn d_two_bytes (hr.mono (by decide)) rfl (pa_cons (pe_fn d_checksum (hr.mono (by decide)) rfl (pa_cons (pv 2) pa_nil)) pa_nil))))
      (pss_one (ps_ret (pe_op op_cat (pe_op op_cat (pe_op op_cat (pv 3) (pv 1)) (pe_fn d_two_bytes (hr.mono (by decide)) rfl (pa_cons (pe_fn d_checksum (hr.mono (by decide)) rfl (pa_cons (pv 1) pa_nil)) pa_nil))) (pe_lst (pa_cons (pe_cst T.c_END_BYTE rfl) pa_nil)))))))), ?_⟩
  obtain ⟨_, rfl, a, l, rfl, ha, sm, hl, hq⟩ := h
  have hr := row_len l
  refine ⟨_, rfl, _, rfl, a, l, rfl, ha, sm, hl, fun H1 p1 s1 n1 e1 => ?_⟩
  refine ⟨_, rfl, p1, _, rfl, .inl (SqL.of e1), _, rfl, (encodeRow l).length, (by rw [vb_len]), (by omega), fun H2 p2 s2 n2 e2 => ?_⟩
  refine ⟨_, rfl, _, rfl, _, rfl, p2, _, rfl, e2, (by show 2 ≤ 1000000; decide), fun H3 s3 => ⟨_, rfl, _, rfl, (by have := checksum_lt (twoBytes (encodeRow l).length); omega), fun H4 p4 s4 n4 e4 => ?_⟩⟩
  refine ⟨p2, p4, _, _, rfl, rfl, s4 _ _ (s3 _ _ e2), e4, (by show 4 ≤ sizeLine; decide), fun p5 n5 => ?_⟩
  have t5 : Same H4 (upd H4 p5 (.lst (vb (twoBytes (encodeRow l).length) ++ vb (twoBytes (checksum (twoBytes (encodeRow l).length)))))) := same_upd n5
  have sH4 : Same H H4 := s1.trans (s2.trans (s3.trans s4))
  refine ⟨_, rfl, _, rfl, p5, p1, _, _, rfl, rfl, upd_same, t5 _ _ (s4 _ _ (s3 _ _ (s2 _ _ e1))), ?_, fun p6 n6 => ?_⟩
  · rw [vb_len]
    have : ((vb (twoBytes (encodeRow l).length) ++ vb (twoBytes (checksum (twoBytes (encodeRow l).length))))).length = 4 := rfl
    rw [this]
    exact lim_sz' (by omega)
  have s6 := (sH4.trans t5).up (o := .lst ((vb (twoBytes (encodeRow l).length) ++ vb (twoBytes (checksum (twoBytes (encodeRow l).length)))) ++ vb (encodeRow l))) n6
  have e1' := (t5.up (o := .lst ((vb (twoBytes (encodeRow l).length) ++ vb (twoBytes (checksum (twoBytes (encodeRow l).length)))) ++ vb (encodeRow l))) n6) _ _ (s4 _ _ (s3 _ _ (s2 _ _ e1)))
  refine ⟨_, rfl, _, rfl, p1, _, rfl, e1', (by omega), fun H7 s7 => ⟨_, rfl, _, rfl, (by have := checksum_lt (encodeRow l); omega), fun H8 p8 s8 n8 e8 => ?_⟩⟩
  refine ⟨p6, p8, _, _, rfl, rfl, s8 _ _ (s7 _ _ upd_same), e8, ?_, fun p9 n9 => ?_⟩
  · have e9 : (vb (twoBytes (encodeRow l).length) ++ vb (twoBytes (checksum (twoBytes (encodeRow l).length))) ++ vb (encodeRow l)).length = 4 + (encodeRow l).length := by
      rw [List.length_append, vb_len]; rfl
    have e10 : (vb (twoBytes (checksum (encodeRow l)))).length = 2 := rfl
    rw [e9, e10]
    exact lim_sz' (by omega)
  refine ⟨(by show 1 ≤ sizeLine; decide), fun p10 n10 => ?_⟩
  have n910 : p9 ≠ p10 := ne_of_none upd_same n10
  refine ⟨p9, p10, _, _, rfl, rfl, by rw [upd_ne n910]; exact upd_same, upd_same, ?_, fun p11 n11 => ?_⟩
  · have e9 : (vb (twoBytes (encodeRow l).length) ++ vb (twoBytes (checksum (twoBytes (encodeRow l).length))) ++ vb (encodeRow l) ++ vb (twoBytes (checksum (encodeRow l)))).length = 6 + (encodeRow l).length := by
      rw [List.length_append, List.length_append, vb_len (encodeRow l)]
      show 4 + (encodeRow l).length + 2 = _
      omega
    rw [e9]
    show 6 + (encodeRow l).length + 1 ≤ sizeLine
    exact lim_sz' (by omega)
  have s10 := (((s6.trans s7).trans s8).up n9).up (o := .lst [V.int 165]) n10
  refine hq _ p11 (s10.up n11) (s10.free n11) ?_
  rw [upd_same]
  have e12 : encodeFrame l = twoBytes (encodeRow l).length ++ (twoBytes (checksum (twoBytes (encodeRow l).length)) ++ (encodeRow l ++ (twoBytes (checksum (encodeRow l)) ++ [165]))) := rfl
  rw [e12, vb_app, vb_app, vb_app, vb_app]
  simp only [List.append_assoc]
  rfl
end
end TS
namespace TS
open PySem PySem.Spec PyProof.Rows L2 Vbwsai
section
variable {P : Program} {w : World} {K : PySem.W.Frag} {mg : Str → Option Value} {base : Heap} {A : Ad}
abbrev s_frame_at : Stmt := top 37
theorem sc_frame_at : FnScope ["data", "start", "end", "payload", "row"] ["data", "start"] (defScope s_frame_at) := ⟨rfl, rfl, rfl, by decide +kernel, rfl, by decide +kernel, by decide +kernel⟩
theorem ok_frame_at (T : Txt K mg A) (F : FunAt K mg "frame_at" s_frame_at ["data", "start"]) (d_number_at : Fn P w K mg base 1 "number_at" ["data", "start"] (sp_number_at K A)) (d_checksum : Fn P w K mg base 1 "checksum" ["data"] (sp_checksum K A)) (d_decoded_row : Fn P w K mg base 3 "decoded_row" ["payload"] (sp_decoded_row K A)) : Fn P w K mg base 4 "frame_at" ["data", "start"] (sp_frame_at K A) := by
  obtain ⟨f, fd, F, hmg, hb⟩ := F
  refine ⟨f, fd, F.ok sc_frame_at (fun vs H Q E h => ?_) (fun cdv Ar outer s H vs Q E hr h => ?_), hmg, F.kp, hb⟩
  · exact S2.len h
  refine ⟨_, (pss_cons (ps_if (pt_cmpR op_gt (pe_op op_add (pv 1) (pe_cst T.c_BYTES_BESIDE_PAYLOAD rfl)) (pe_callB call_len_seq (by rfl) T.b_len PySem.boot_len (pa_cons (pv 0) pa_nil)) (nomark _)) (pss_one (ps_ret pe_non))
      pss_nil)
      (pss_cons (ps_set (i := 2) sc_frame_at.nd rfl (Or.inl rfl) (pe_op op_add (pe_op op_add (pv 1) (pe_cst T.c_BYTES_BESIDE_PAYLOAD rfl)) (pe_fn d_number_at (hr.mono (by decide)) rfl (pa_cons (pv 0) (pa_cons (pv 1) pa_nil)))))
      (pss_cons (ps_if (PW.pt (pw_or (pt_cmpR op_gt (pv 2) (pe_callB call_len_seq (by rfl) T.b_len PySem.boot_len (pa_cons (pv 0) pa_nil)) (nomark _)) (pw_or1 (pt_cmpR op_ne (pe_ix ix_list (pv 0) (pe_op op_sub (pv 2) pe_int) (fun _ _ => rfl)) (pe_cst T.c_END_BYTE rfl) (nomark _))))) (pss_one (ps_ret pe_non))
      pss_nil)
      (pss_cons (ps_if (pt_cmpR op_ne (pe_fn d_number_at (hr.mono (by decide)) rfl (pa_cons (pv 0) (pa_cons (pe_op op_add (pv 1) pe_int) pa_nil))) (pe_fn d_checksum (hr.mono (by decide)) rfl (pa_cons (pe_slice sl_list (pv 0) (po_some (pv 1)) (po_some (pe_op op_add (pv 1) pe_int))) pa_nil)) (nomark _)) (pss_one (ps_ret pe_non))
      pss_nil)
      (pss_cons (ps_set (i := 3) sc_frame_at.nd rfl (Or.inl rfl) (pe_slice sl_list (pv 0) (po_some (pe_op op_add (pv 1) pe_int)) (po_some (pe_op op_sub (pv 2) pe_int))))
      (pss_cons (ps_if (pt_cmpR op_ne (pe_fn d_number_at (hr.mono (by decide)) rfl (pa_cons (pv 0) (pa_cons (pe_op op_sub (pv 2) pe_int) pa_nil))) (pe_fn d_checksum (hr.mono (by decide)) rfl (pa_cons (pv 3) pa_nil)) (nomark _)) (pss_one (ps_ret pe_non))
      pss_nil)
      (pss_cons (ps_set (i := 4) sc_frame_at.nd rfl (Or.inl rfl) (pe_fn d_decoded_row (hr.mono (by decide)) rfl (pa_cons (pv 3) pa_nil)))
      (pss_cons (ps_if (pt_cmpR op_isN (pv 4) pe_non (nomark _)) (pss_one (ps_ret pe_non))
      pss_nil)
      (pss_one (ps_ret (pe_tup (pa_cons (pv 4) (pa_cons (pv 2) pa_nil))))))))))))), ?_⟩
  obtain ⟨_, _, rfl, a, d, s0, rfl, rfl, ha, hb, hl, hs, hq⟩ := h
  have hN : frameAt d s0 = none → Kept H .non Q := fun e H' s => hq H' _ s (by rw [e]; exact rfl)
  have hS : ∀ f, frameAt d s0 = some f → ∀ (H' : Hp) (t : Addr), Same H H' → PairAt H H' t f → Q (.ref t) H' := fun f e H' t s p => hq H' _ s (by rw [e]; exact ⟨t, rfl, p⟩)
  have fe := frameAt_eq hb hs
  refine ⟨_, rfl, _, _, rfl, rfl, _, rfl, a, _, rfl, .inl (SqL.of ha), _, _, rfl, rfl, _, rfl, ifd (fun c => ?_) (fun c => ?_)⟩
  · rw [vb_len] at c
    rw [if_pos (by omega)] at fe
    exact hN fe _ (Same.refl H)
  rw [vb_len] at c
  rw [if_neg (by omega)] at fe
  refine ⟨_, rfl, _, _, rfl, rfl, _, rfl, _, rfl, _, _, rfl, a, d, s0, rfl, rfl, ha, by omega, _, _, rfl, rfl, ?_⟩
  generalize hn : nAt d s0 = n at fe
  refine ⟨_, rfl, _, rfl, a, _, rfl, .inl (SqL.of ha), _, _, rfl, rfl, _, rfl, ifd (fun c2 => iteT ?_) (fun c2 => ?_)⟩
  · rw [vb_len] at c2
    rw [if_pos (.inl (by omega))] at fe
    exact hN fe _ (Same.refl H)
  rw [vb_len] at c2
  refine ⟨_, rfl, _, rfl, _, _, rfl, rfl, a, _, _, _, rfl, rfl, SqL.of ha, at_vbI (s0 + 7 + n - 1) (by omega) (by omega), rfl, _, rfl, ifn (fun c3 => ?_) (fun c3 => ?_)⟩
  · rw [if_pos (.inr fun z => c3 (congrArg V.int (by omega)))] at fe
    exact hN fe _ (Same.refl H)
  have c3' := V.int.inj c3
  rw [if_neg (by omega)] at fe
  have cutA : cutV (vb d) (some (s0 : Int)) (some ((s0 : Int) + 2)) = vb ((d.drop s0).take 2) := by
    have := cut_bytes d s0 (s0 + 2) (by omega) (by omega)
    rw [show s0 + 2 - s0 = 2 by omega] at this
    exact this
  refine ⟨_, rfl, _, rfl, _, _, rfl, rfl, _, _, rfl, a, d, s0 + 2, rfl, rfl, ha, by omega, _, rfl, _, rfl, _, rfl, _, rfl, _, _, rfl, rfl, _, rfl, a, _, rfl, SqL.of ha, fun p1 hp1 => ?_⟩
  rw [cutA]
  refine ⟨_, rfl, p1, _, rfl, upd_same, by rw [List.length_take]; omega, fun H2 s2 => ⟨rfl, _, rfl, ifn (fun c4 => ?_) (fun c4 => ?_)⟩⟩
  · rw [if_pos fun z => c4 (congrArg V.int (by omega))] at fe
    exact hN fe _ ((same_upd hp1).trans s2)
  have c4' := V.int.inj c4
  rw [if_neg (by omega)] at fe
  have sA := (same_upd (o := .lst (vb ((d.drop s0).take 2))) hp1).trans s2
  have cutB : cutV (vb d) (some ((s0 : Int) + 4)) (some ((s0 : Int) + 7 + (n : Int) - 3)) = vb ((d.drop (s0 + 4)).take n) := by
    have := cut_bytes d (s0 + 4) (s0 + 4 + n) (by omega) (by omega)
    rw [show s0 + 4 + n - (s0 + 4) = n by omega, show ((s0 + 4 + n : Nat) : Int) = (s0 : Int) + 7 + (n : Int) - 3 by omega] at this
    exact this
  refine ⟨_, rfl, _, rfl, _, _, rfl, rfl, _, rfl, _, rfl, _, _, rfl, rfl, _, rfl, a, _, rfl, SqL.of (sA _ _ ha), fun p3 hp3 => ?_⟩
  rw [cutB]
  have sB := sA.up (o := .lst (vb ((d.drop (s0 + 4)).take n))) hp3
  have hpl : ((d.drop (s0 + 4)).take n).length ≤ 1000000 := by rw [List.length_take, List.length_drop]; omega
  refine ⟨_, rfl, _, rfl, _, _, rfl, rfl, _, _, rfl, a, d, s0 + 4 + n, rfl, ?_, sB _ _ ha, by omega, ?_⟩
  · exact congrArg V.int (by omega)
  refine ⟨_, rfl, _, rfl, p3, _, rfl, upd_same, hpl, fun H4 s4 => ⟨rfl, _, rfl, ifn (fun c5 => ?_) (fun c5 => ?_)⟩⟩
  · rw [if_pos fun z => c5 (congrArg V.int (by omega))] at fe
    exact hN fe _ (sB.trans s4)
  have c5' := V.int.inj c5
  rw [if_neg (by omega)] at fe
  refine ⟨_, rfl, _, rfl, p3, _, rfl, s4 _ _ upd_same, hpl, fun hnone H5 s5 => ?_, fun row hrow H5 p5 s5 n5 e5 => ?_⟩
  · rw [hnone] at fe
    refine ⟨_, rfl, rfl, _, rfl, iteT ?_⟩
    exact hN fe _ ((sB.trans s4).trans s5)
  · rw [hrow] at fe
    refine ⟨_, rfl, rfl, _, rfl, iteF ?_⟩
    refine ⟨_, rfl, _, rfl, (by show 2 ≤ sizeLine; decide), fun t ht => ?_⟩
    have s6 := ((sB.trans s4).trans s5).up (o := .tup [.ref p5, .int ((s0 : Int) + 7 + (n : Int))]) ht
    refine hS _ fe _ t s6 ⟨p5, ?_, ?_, ((sB.trans s4).trans s5).free ht, (sB.trans s4).free n5⟩
    · rw [upd_same]
      rfl
    · rw [upd_ne (ne_of_none e5 ht)]
      exact e5
end
end TS
namespace TS
open PySem PySem.Spec PyProof.Rows L2 Vbwsai
section
variable {P : Program} {w : World} {K : PySem.W.Frag} {mg : Str → Option Value} {base : Heap} {A : Ad}
abbrev s_valid_frames : Stmt := top 38
theorem sc_valid_frames : FnScope ["data", "frames", "found"] ["data"] (defScope s_valid_frames) := ⟨rfl, rfl, rfl, by decide +kernel, rfl, by decide +kernel, by decide +kernel⟩
theorem ok_valid_frames (T : Txt K mg A) (F : FunAt K mg "valid_frames" s_valid_frames ["data"]) (d_frame_at : Fn P w K mg base 4 "frame_at" ["data", "start"] (sp_frame_at K A)) : Fn P w K mg base 5 "valid_frames" ["data"] (sp_valid_frames K A) := by
  obtain ⟨f, fd, F, hmg, hb⟩ := F
  refine ⟨f, fd, F.ok sc_valid_frames (fun vs H Q E h => ?_) (fun cdv Ar outer s H vs Q E hr h => ?_), hmg, F.kp, hb⟩
  · exact S1.len h
  refine ⟨_, (pss_cons (ps_set (i := 1) sc_valid_frames.nd rfl (Or.inl rfl) (pe_lst pa_nil))
      (pss_cons (ps_set (i := 2) sc_valid_frames.nd rfl (Or.inl rfl) (pe_fn d_frame_at (hr.mono (by decide)) rfl (pa_cons (pv 0) (pa_cons pe_int pa_nil))))
      (pss_cons (ps_while PassesOwn.never (pt_cmpR op_notN (pv 2) pe_non (nomark _)) (pss_cons (ps_expr (pe_bm PySem.F.plainAttrs_list PySem.F.slot_list_append PySem.F.type_list_append mt_append (pv 1) (pa_cons (pv 2) pa_nil)))
      (pss_one (ps_set (i := 2) sc_valid_frames.nd rfl (Or.inl rfl) (pe_fn d_frame_at (hr.mono (by decide)) rfl (pa_cons (pv 0) (pa_cons (pe_ix ix_tup (pv 2) pe_int (fun _ _ => rfl)) pa_nil)))))))
      (pss_one (ps_ret (pv 1)))))), ?_⟩
  obtain ⟨_, rfl, a, d, rfl, ha, hb, hl, hq⟩ := h
  refine ⟨Nat.zero_le _, fun p hp => ?_⟩
  have sA : Same H (upd H p (.lst [])) := same_upd hp
  generalize hHA : upd H p (.lst []) = HA at sA
  have eA : HA p = some (.lst []) := by rw [← hHA]; exact upd_same
  refine ⟨_, rfl, _, _, rfl, a, d, 0, rfl, rfl, sA _ _ ha, hb, hl, Nat.zero_le _, fun H1 v s1 hv => ?_⟩
  refine ⟨fun m σ H' => ∃ (fs : List (List Int × Nat)) (ts : List Addr) (s0 : Nat) (v : V), σ = [some (.ref a), some (.ref p), some v] ∧ Same H H' ∧ Dom HA H' ∧ H' p = some (.lst (ts.map V.ref)) ∧ ts.length = fs.length ∧
      (∀ (i : Nat) (t : Addr) (x : List Int × Nat), ts[i]? = some t → fs[i]? = some x → PairAt HA H' t x) ∧ m + s0 = d.length ∧ fs.length ≤ s0 ∧ vframes d = fs ++ framesFrom (m + 1) d s0 ∧ FoundAt HA H' v (frameAt d s0),
    ⟨d.length, [], [], 0, v, rfl, sA.trans s1, s1.dom, s1 _ _ eA, rfl, fun i t x ht _ => by simp at ht, rfl, Nat.le_refl _, rfl, hv⟩, ?_⟩
  rintro m σ H' ⟨fs, ts, s0, v, rfl, s2, dm, e1, el, hp2, hm, hfl, hv2, hf⟩
  have hs0 : s0 ≤ d.length := by omega
  cases e : frameAt d s0 with
  | none =>
    rw [e] at hf
    obtain rfl : v = V.non := hf
    refine ⟨_, rfl, rfl, _, rfl, ifn (fun c => absurd rfl c) (fun _ => ?_)⟩
    rw [frames_none e, List.append_nil] at hv2
    exact ⟨_, rfl, hq _ p s2 hp ⟨ts, e1, by rw [hv2]; exact el, by rw [hv2]; exact fun i t x h1 h2 => (hp2 i t x h1 h2).older sA.dom⟩⟩
  | some x =>
    rw [e] at hf
    obtain ⟨t, rfl, hpt⟩ := hf
    obtain ⟨l, e'⟩ := x
    obtain ⟨_, g1, g2, g3, g4⟩ := frameAt_some hb hs0 e
    refine ⟨_, rfl, rfl, _, rfl, ifn (fun _ => ?_) (fun c => nomatch c)⟩
    refine ⟨_, fun _ _ z => z, ?_⟩
    refine ⟨_, rfl, .inl ⟨rfl, _, SqL.of e1⟩, _, rfl, p, _, _, rfl, rfl, e1, lim_sz (by rw [List.length_map]; omega), ?_⟩
    have s3 : Same H (upd H' p (.lst (ts.map V.ref ++ [V.ref t]))) := s2.wr hp
    have hpt' : PairAt HA (upd H' p (.lst (ts.map V.ref ++ [V.ref t]))) t (l, e') := hpt.wr eA
    obtain ⟨r, ht', hr', _⟩ := id hpt'
    refine ⟨_, rfl, _, rfl, t, _, _, _, rfl, rfl, SqT.of ht', rfl, _, _, rfl, a, d, e', rfl, rfl, s3 _ _ ha, hb, hl, g2, fun H2 v2 s4 hv3 => ?_⟩
    refine ⟨d.length - e', by omega, fs ++ [(l, e')], ts ++ [t], e', v2, rfl, s3.trans s4, dm.up.trans s4.dom, ?_, by simp [el], ?_, by omega, by simp; omega, ?_, hv3.older dm.up⟩
    · rw [s4 _ _ upd_same, List.map_append]; rfl
    · intro i t2 x2 h1 h2
      rcases Nat.lt_or_ge i ts.length with c | c
      · rw [List.getElem?_append_left c] at h1
        rw [List.getElem?_append_left (by omega)] at h2
        exact ((hp2 i t2 x2 h1 h2).wr eA).same s4
      · rw [List.getElem?_append_right c] at h1
        rw [List.getElem?_append_right (by omega)] at h2
        have c0 : i - ts.length = 0 := by
          have := lt_of_get h1
          simp at this; omega
        rw [c0] at h1
        rw [show i - fs.length = 0 by omega] at h2
        obtain rfl : t = t2 := Option.some.inj h1
        obtain rfl : (l, e') = x2 := Option.some.inj h2
        exact hpt'.same s4
    · rw [hv2, frames_some e, List.append_assoc, frames_fuel hb m (d.length - e' + 1) e' g2 (by omega) (by omega)]
      rfl
end
end TS
namespace TS
open PySem PySem.Spec PyProof.Rows L2 Vbwsai
section
variable {P : Program} {w : World} {K : PySem.W.Frag} {mg : Str → Option Value} {base : Heap} {A : Ad}
abbrev s_only_row : Stmt := top 39
theorem sc_only_row : FnScope ["data", "found"] ["data"] (defScope s_only_row) := ⟨rfl, rfl, rfl, by decide +kernel, rfl, by decide +kernel, by decide +kernel⟩
theorem ok_only_row (T : Txt K mg A) (F : FunAt K mg "only_row" s_only_row ["data"]) (d_frame_at : Fn P w K mg base 4 "frame_at" ["data", "start"] (sp_frame_at K A)) : Fn P w K mg base 5 "only_row" ["data"] (sp_only_row K A) := by
  obtain ⟨f, fd, F, hmg, hb⟩ := F
  refine ⟨f, fd, F.ok sc_only_row (fun vs H Q E h => ?_) (fun cdv Ar outer s H vs Q E hr h => ?_), hmg, F.kp, hb⟩
  · exact S1.len h
  refine ⟨_, (pss_cons (ps_set (i := 1) sc_only_row.nd rfl (Or.inl rfl) (pe_fn d_frame_at (hr.mono (by decide)) rfl (pa_cons (pv 0) (pa_cons pe_int pa_nil))))
      (pss_cons (ps_if (PW.pt (pw_or (pt_cmpR op_isN (pv 1) pe_non (nomark _)) (pw_or1 (pt_cmpR op_ne (pe_ix ix_tup (pv 1) pe_int (fun _ _ => rfl)) (pe_callB call_len_seq (by rfl) T.b_len PySem.boot_len (pa_cons (pv 0) pa_nil)) (nomark _))))) (pss_one (ps_ret pe_non))
      pss_nil)
      (pss_one (ps_ret (pe_ix ix_tup (pv 1) pe_int (fun _ _ => rfl)))))), ?_⟩
  obtain ⟨_, rfl, a, d, rfl, ha, hb, hl, hq⟩ := h
  have oe := onlyRow_eq hb
  refine ⟨_, rfl, _, _, rfl, a, d, 0, rfl, rfl, ha, hb, hl, Nat.zero_le _, fun H1 v s1 hv => ?_⟩
  cases e : frameAt d 0 with
  | none =>
    rw [e] at hv oe
    obtain rfl : v = V.non := hv
    refine ⟨_, rfl, rfl, _, rfl, ifd (fun _ => iteT ?_) (fun c => absurd rfl c)⟩
    refine hq _ _ s1 ?_
    rw [oe]; exact rfl
  | some x =>
    rw [e] at hv oe
    obtain ⟨t, rfl, r, ht, hr', _⟩ := hv
    obtain ⟨l, e'⟩ := x
    have oe' : onlyRow d = if e' = d.length then some l else none := oe
    refine ⟨_, rfl, rfl, _, rfl, ifd (fun c => nomatch c) (fun _ => ?_)⟩
    refine ⟨_, rfl, t, _, _, _, rfl, rfl, SqT.of ht, rfl, _, rfl, a, _, rfl, .inl (SqL.of (s1 _ _ ha)), rfl, _, rfl, ifn (fun c => ?_) (fun c => ?_)⟩
    · refine hq _ _ s1 ?_
      rw [oe', if_neg (fun z => c (congrArg V.int (by rw [vb_len, z])))]
      exact rfl
    · have c' := V.int.inj c
      rw [vb_len] at c'
      refine ⟨_, rfl, t, _, _, _, rfl, rfl, SqT.of ht, rfl, ?_⟩
      refine hq _ _ s1 ?_
      rw [oe', if_pos (by have : (e' : Int) = (d.length : Int) := c'; omega)]
      exact ⟨r, rfl, hr'⟩
end
end TS
namespace TS
open PySem PySem.Spec PyProof.Rows L2 Vbwsai
section
variable {P : Program} {w : World} {K : PySem.W.Frag} {mg : Str → Option Value} {base : Heap} {A : Ad}
abbrev s_is_change : Stmt := top 41
theorem sc_is_change : FnScope ["key", "choice", "value"] ["key", "choice", "value"] (defScope s_is_change) := ⟨rfl, rfl, rfl, by decide +kernel, rfl, by decide +kernel, by decide +kernel⟩
theorem ok_is_change (T : Txt K mg A) (F : FunAt K mg "is_change" s_is_change ["key", "choice", "value"]) (d_is_value : Fn P w K mg base 1 "is_value" ["number"] (sp_is_value K A)) (d_is_key : Fn P w K mg base 1 "is_key" ["number"] (sp_is_key K A)) : Fn P w K mg base 2 "is_change" ["key", "choice", "value"] (sp_is_change K A) := by
  obtain ⟨f, fd, F, hmg, hb⟩ := F
  refine ⟨f, fd, F.ok sc_is_change (fun vs H Q E h => ?_) (fun cdv Ar outer s H vs Q E hr h => ?_), hmg, F.kp, hb⟩
  · exact S3.len h
  refine ⟨_, (pss_one (ps_ret (pe_and (pe_fn d_is_key (hr.mono (by decide)) rfl (pa_cons (pv 0) pa_nil)) (pe_and (pe_or (pe_cmpR op_eq (pv 1) pe_int (nomark _)) (pe_one (pe_cmpR op_eq (pv 1) pe_int (nomark _)))) (pe_one (pe_fn d_is_value (hr.mono (by decide)) rfl (pa_cons (pv 2) pa_nil))))))), ?_⟩
  obtain ⟨_, _, _, rfl, k, f, v, rfl, rfl, rfl, hq⟩ := h
  refine ⟨_, rfl, _, rfl, k, rfl, _, rfl, ifd (fun c1 => ?_) (fun c1 => bl_eq (by unfold chOk; simp [c1]) hq)⟩
  refine ⟨_, rfl, rfl, _, rfl, ifd (fun c2 => ⟨_, rfl, iteT ⟨_, rfl, _, rfl, v, rfl, ?_⟩⟩) (fun c2 => ⟨_, rfl, rfl, _, rfl, ifd (fun c3 => ⟨_, rfl, _, rfl, v, rfl, ?_⟩) (fun c3 => ?_)⟩)⟩
  · have c2' := V.int.inj c2
    exact bl_eq (by unfold chOk; simp [c1, c2']) hq
  · have c3' := V.int.inj c3
    exact bl_eq (by unfold chOk; simp [c1, c3']) hq
  · have c2' : ¬ f = 0 := fun z => c2 (by rw [z])
    have c3' : ¬ f = 1 := fun z => c3 (by rw [z])
    exact bl_eq (by unfold chOk; simp [c2', c3']) hq
end
end TS
namespace TS
open PySem PySem.Spec PyProof.Rows L2 Vbwsai
section
variable {P : Program} {w : World} {K : PySem.W.Frag} {mg : Str → Option Value} {base : Heap} {A : Ad}
abbrev s_are_changes : Stmt := top 42
theorem sc_are_changes : FnScope ["numbers", "start"] ["numbers"] (defScope s_are_changes) := ⟨rfl, rfl, rfl, by decide +kernel, rfl, by decide +kernel, by decide +kernel⟩
theorem ok_are_changes (T : Txt K mg A) (F : FunAt K mg "are_changes" s_are_changes ["numbers"]) (d_is_change : Fn P w K mg base 2 "is_change" ["key", "choice", "value"] (sp_is_change K A)) : Fn P w K mg base 3 "are_changes" ["numbers"] (sp_are_changes K A) := by
  obtain ⟨f, fd, F, hmg, hb⟩ := F
  refine ⟨f, fd, F.ok sc_are_changes (fun vs H Q E h => ?_) (fun cdv Ar outer s H vs Q E hr h => ?_), hmg, F.kp, hb⟩
  · exact S1.len h
  refine ⟨_, (pss_cons (ps_if (pt_cmpR op_ne (pe_op op_mod (pe_callB call_len_seq (by rfl) T.b_len PySem.boot_len (pa_cons (pv 0) pa_nil)) pe_int) pe_int (nomark _)) (pss_one (ps_ret pe_bl))
      pss_nil)
      (pss_cons (ps_for PassesOwn.never rfl (pi_range3 rfl T.b_range (pa_cons pe_int (pa_cons (pe_callB call_len_seq (by rfl) T.b_len PySem.boot_len (pa_cons (pv 0) pa_nil)) (pa_cons pe_int pa_nil)))) (pg_name (i := 1) sc_are_changes.nd rfl (Or.inl rfl))
      (pss_one (ps_if (pt_not (pt_val (pe_fn d_is_change (hr.mono (by decide)) rfl (pa_cons (pe_ix ix_list (pv 0) (pv 1) (fun _ _ => rfl)) (pa_cons (pe_ix ix_list (pv 0) (pe_op op_add (pv 1) pe_int) (fun _ _ => rfl)) (pa_cons (pe_ix ix_list (pv 0) (pe_op op_add (pv 1) pe_int) (fun _ _ => rfl)) pa_nil)))))) (pss_one (ps_ret pe_bl))
      pss_nil)))
      (pss_one (ps_ret pe_bl)))), ?_⟩
  obtain ⟨_, rfl, a, l, rfl, ha, hl, hq⟩ := h
  refine ⟨_, rfl, a, _, rfl, .inl (SqL.of ha), _, _, rfl, rfl, (by show (0 : Int) < 3; decide), rfl, _, rfl, ifn (fun c => ?_) (fun c => ?_)⟩
  · refine bl_eq (Eq.symm ?_) hq
    rw [parse_mod l (fun z => c (congrArg V.int (by rw [vi_len]; omega)))]
    rfl
  have c' := V.int.inj c
  rw [vi_len] at c'
  have hm : l.length = 3 * (l.length / 3) := by omega
  refine ⟨_, rfl, a, _, rfl, .inl (SqL.of ha), 0, _, 3, l.length / 3, rfl, rg3 (by rw [vi_len]; exact hm) (by rw [vi_len]; exact hl),
    for_rangeC (lo := 0) (c := 3) (n := l.length / 3) (fun i σ H' => H' = H ∧ (∃ v, σ = [some (.ref a), v]) ∧ (parseChanges l).isSome = (parseChanges (l.drop (3 * i))).isSome)
      ⟨rfl, ⟨none, rfl⟩, rfl⟩ ?_ ?_⟩
  · rintro i σ H' hi ⟨rfl, ⟨v0, rfl⟩, he⟩
    obtain ⟨k, f, v, g1, g2, g3, g4⟩ := drop_three (l := l) (i := i) (by omega)
    rw [g4, parse3] at he
    refine ⟨_, rfl, _, rfl, a, _, _, _, rfl, rfl, SqL.of ha, at_viI (3 * i) (by omega) g1, ?_⟩
    refine ⟨_, rfl, _, rfl, _, _, rfl, rfl, a, _, _, _, rfl, rfl, SqL.of ha, at_viI (3 * i + 1) (by omega) g2, ?_⟩
    refine ⟨_, rfl, _, rfl, _, _, rfl, rfl, a, _, _, _, rfl, rfl, SqL.of ha, at_viI (3 * i + 2) (by omega) g3, ?_⟩
    refine ⟨_, _, _, rfl, k, f, v, rfl, rfl, rfl, _, rfl, ifnb (fun c2 => ?_) (fun c2 => ?_)⟩
    · rw [c2, if_neg Bool.false_ne_true] at he
      exact bl_eq he.symm hq
    · rw [c2, if_pos rfl, Option.isSome_map] at he
      exact ⟨rfl, ⟨_, rfl⟩, he⟩
  · rintro σ H' ⟨rfl, ⟨v0, rfl⟩, he⟩
    rw [List.drop_eq_nil_of_le (by omega)] at he
    exact bl_eq he.symm hq
end
end TS
namespace TS
open PySem PySem.Spec PyProof.Rows L2 Vbwsai
section
variable {P : Program} {w : World} {K : PySem.W.Frag} {mg : Str → Option Value} {base : Heap} {A : Ad}
abbrev s_changed_entries : Stmt := top 43
theorem sc_changed_entries : FnScope ["entries", "changes", "after", "start", "key"] ["entries", "changes"] (defScope s_changed_entries) := ⟨rfl, rfl, rfl, by decide +kernel, rfl, by decide +kernel, by decide +kernel⟩
theorem ok_changed_entries (T : Txt K mg A) (F : FunAt K mg "changed_entries" s_changed_entries ["entries", "changes"])  : Fn P w K mg base 1 "changed_entries" ["entries", "changes"] (sp_changed_entries K A) := by
  obtain ⟨f, fd, F, hmg, hb⟩ := F
  refine ⟨f, fd, F.ok sc_changed_entries (fun vs H Q E h => ?_) (fun cdv Ar outer s H vs Q E hr h => ?_), hmg, F.kp, hb⟩
  · exact S2.len h
  refine ⟨_, (pss_cons (ps_set (i := 2) sc_changed_entries.nd rfl (Or.inl rfl) (pe_callTy call_dictD (by rfl) T.b_dict (by decide +kernel) (pa_cons (pv 0) pa_nil)))
      (pss_cons (ps_for PassesOwn.never rfl (pi_range3 rfl T.b_range (pa_cons pe_int (pa_cons (pe_callB call_len_seq (by rfl) T.b_len PySem.boot_len (pa_cons (pv 1) pa_nil)) (pa_cons pe_int pa_nil)))) (pg_name (i := 3) sc_changed_entries.nd rfl (Or.inl rfl))
      (pss_cons (ps_set (i := 4) sc_changed_entries.nd rfl (Or.inl rfl) (pe_ix ix_list (pv 1) (pv 3) (fun _ _ => rfl)))
      (pss_one (ps_if (pt_cmpR op_eq (pe_ix ix_list (pv 1) (pe_op op_add (pv 3) pe_int) (fun _ _ => rfl)) pe_int (nomark _)) (pss_one (ps_dput (hu_of hr) (pv 2) (pv 4) (pe_ix ix_list (pv 1) (pe_op op_add (pv 3) pe_int) (fun _ _ => rfl)) rfl))
      (pss_one (ps_if (pt_cmp (pc_din (hu_of hr) (pv 4) (pv 2))) (pss_one (ps_expr (pe_dpop1 (pv 2) (pv 4) ⟨rfl, rfl, rfl, rfl⟩)))
      pss_nil))))))
      (pss_one (ps_ret (pv 2))))), ?_⟩
  obtain ⟨_, _, rfl, e, a, kvs, s0, l, cs, rfl, rfl, he, hent, ha, hl, hcs, hq⟩ := h
  obtain ⟨hlen, hok⟩ := parse_len hcs
  refine ⟨_, rfl, e, kvs, rfl, .inl he, fun p hp => ?_⟩
  have sA : Same H (upd H p (.dK kvs)) := same_upd hp
  refine ⟨_, rfl, a, _, rfl, .inl (SqL.of (sA _ _ ha)), 0, _, 3, cs.length, rfl, rg3 (by rw [vi_len]; exact hlen) (by rw [vi_len]; exact hl),
    for_rangeC (lo := 0) (c := 3) (n := cs.length) (fun i σ H' => ∃ (kv : List (Key × V)) (si : Store) (cr : List Change) (v3 v4 : Option V), σ = [some (.ref e), some (.ref a), some (.ref p), v3, v4] ∧ Same H H' ∧ H' p = some (.dK kv) ∧ Ent kv si ∧
        parseChanges (l.drop (3 * i)) = some cr ∧ applyChanges s0 cs = applyChanges si cr)
      ⟨kvs, s0, cs, none, none, rfl, sA, upd_same, hent, hcs, rfl⟩ ?_ ?_⟩
  · rintro i σ H' hi ⟨kv, si, cr, v3, v4, rfl, s1, e1, en, hcr, hap⟩
    obtain ⟨k, f, v, g1, g2, g3, g4⟩ := drop_three (l := l) (i := i) (by omega)
    rw [g4, parse3] at hcr
    by_cases ck : chOk k f v = true
    · rw [if_pos ck] at hcr
      cases h5 : parseChanges (l.drop (3 * (i + 1))) with
      | none => rw [h5] at hcr; exact nomatch hcr
      | some cr2 =>
        rw [h5] at hcr
        obtain rfl := (Option.some.inj hcr).symm
        unfold chOk at ck
        simp only [Bool.and_eq_true, Bool.or_eq_true, decide_eq_true_eq] at ck
        obtain ⟨kn, rfl⟩ : ∃ kn : Nat, k = (kn : Int) := ⟨k.toNat, by omega⟩
        refine ⟨_, rfl, _, rfl, a, _, _, _, rfl, rfl, SqL.of (s1 _ _ ha), at_viI (3 * i) (by omega) g1, ?_⟩
        refine ⟨_, rfl, _, rfl, _, _, rfl, rfl, a, _, _, _, rfl, rfl, SqL.of (s1 _ _ ha), at_viI (3 * i + 1) (by omega) g2, rfl, _, rfl, ifd (fun c => ?_) (fun c => ?_)⟩
        · have c' : f = 1 := V.int.inj c
          refine ⟨_, rfl, _, rfl, _, _, rfl, rfl, a, _, _, _, rfl, rfl, SqL.of (s1 _ _ ha), at_viI (3 * i + 2) (by omega) g3, _, rfl, _, rfl, p, _, rfl, DPut.k (k := Sum.inl (kn : Int)) e1 (by have := en.len; exact lim_sz (by omega)), ?_⟩
          refine ⟨_, _, cr2, _, _, rfl, s1.wr hp, upd_same, en.put (k := kn) (v := v) (by omega) ck.2, rfl, ?_⟩
          rw [hap, if_pos c']
          rfl
        · have c' : ¬ f = 1 := fun z => c (congrArg V.int z)
          rw [if_neg c'] at hap
          have lk := en.look kn
          refine ⟨_, rfl, _, rfl, p, _, rfl, DGet.k (k := Sum.inl (kn : Int)) e1, _, rfl, ?_⟩
          cases h6 : lookupKey kn si with
          | none =>
            rw [h6] at lk
            rw [lk]
            refine iteF ?_
            refine ⟨kv, si, cr2, _, _, rfl, s1, e1, en, rfl, ?_⟩
            have h7 : applyChanges si ((kn, none) :: cr2) = applyChanges (removeKey kn si) cr2 := rfl
            rw [hap]
            rw [drop_none en h6] at h7
            exact h7
          | some y =>
            rw [h6] at lk
            rw [lk]
            refine iteT ?_
            refine ⟨_, rfl, p, rfl, .inl ⟨_, .inl e1⟩, _, rfl, _, Sum.inl (kn : Int), _, e1, rfl, lk, ?_⟩
            exact ⟨_, _, cr2, _, _, rfl, s1.wr hp, upd_same, en.drop kn, rfl, by rw [hap]; rfl⟩
    · rw [if_neg ck] at hcr
      exact nomatch hcr
  · rintro σ H' ⟨kv, si, cr, v3, v4, rfl, s1, e1, en, hcr, hap⟩
    rw [List.drop_eq_nil_of_le (by omega)] at hcr
    obtain rfl : [] = cr := Option.some.inj hcr
    rw [hap] at hq
    exact ⟨_, rfl, hq _ p kv s1 hp e1 en⟩
end
end TS
namespace TS
open PySem PySem.Spec PyProof.Rows L2 Vbwsai
section
variable {P : Program} {w : World} {K : PySem.W.Frag} {mg : Str → Option Value} {base : Heap} {A : Ad}
abbrev s_tick_row : Stmt := top 44
theorem sc_tick_row : FnScope ["number", "changes", "row", "start"] ["number", "changes"] (defScope s_tick_row) := ⟨rfl, rfl, rfl, by decide +kernel, rfl, by decide +kernel, by decide +kernel⟩
theorem ok_tick_row (T : Txt K mg A) (F : FunAt K mg "tick_row" s_tick_row ["number", "changes"])  : Fn P w K mg base 1 "tick_row" ["number", "changes"] (sp_tick_row K A) := by
  obtain ⟨f, fd, F, hmg, hb⟩ := F
  refine ⟨f, fd, F.ok sc_tick_row (fun vs H Q E h => ?_) (fun cdv Ar outer s H vs Q E hr h => ?_), hmg, F.kp, hb⟩
  · exact S2.len h
  refine ⟨_, (pss_cons (ps_set (i := 2) sc_tick_row.nd rfl (Or.inl rfl) (pe_lst (pa_cons (pv 0) pa_nil)))
      (pss_cons (ps_for PassesOwn.never rfl (pi_range3 rfl T.b_range (pa_cons pe_int (pa_cons (pe_callB call_len_seq (by rfl) T.b_len PySem.boot_len (pa_cons (pv 1) pa_nil)) (pa_cons pe_int pa_nil)))) (pg_name (i := 3) sc_tick_row.nd rfl (Or.inl rfl))
      (pss_cons (ps_expr (pe_bm PySem.F.plainAttrs_list PySem.F.slot_list_append PySem.F.type_list_append mt_append (pv 2) (pa_cons (pe_ix ix_list (pv 1) (pv 3) (fun _ _ => rfl)) pa_nil)))
      (pss_cons (ps_expr (pe_bm PySem.F.plainAttrs_list PySem.F.slot_list_append PySem.F.type_list_append mt_append (pv 2) (pa_cons (pe_ix ix_list (pv 1) (pe_op op_add (pv 3) pe_int) (fun _ _ => rfl)) pa_nil)))
      (pss_one (ps_if (pt_cmpR op_eq (pe_ix ix_list (pv 1) (pe_op op_add (pv 3) pe_int) (fun _ _ => rfl)) pe_int (nomark _)) (pss_one (ps_expr (pe_bm PySem.F.plainAttrs_list PySem.F.slot_list_append PySem.F.type_list_append mt_append (pv 2) (pa_cons (pe_ix ix_list (pv 1) (pe_op op_add (pv 3) pe_int) (fun _ _ => rfl)) pa_nil))))
      (pss_one (ps_expr (pe_bm PySem.F.plainAttrs_list PySem.F.slot_list_append PySem.F.type_list_append mt_append (pv 2) (pa_cons pe_int pa_nil)))))))))
      (pss_one (ps_ret (pv 2))))), ?_⟩
  obtain ⟨_, _, rfl, t, a, l, cs, rfl, rfl, ha, hl, hcs, hq⟩ := h
  obtain ⟨hlen, hok⟩ := parse_len hcs
  refine ⟨_, rfl, (by show 1 ≤ sizeLine; decide), fun p hp => ?_⟩
  have sA : Same H (upd H p (.lst [.int (t : Int)])) := same_upd hp
  refine ⟨_, rfl, a, _, rfl, .inl (SqL.of (sA _ _ ha)), 0, _, 3, cs.length, rfl, rg3 (by rw [vi_len]; exact hlen) (by rw [vi_len]; exact hl),
    for_rangeC (lo := 0) (c := 3) (n := cs.length) (fun i σ H' => ∃ (row : List Int) (cr : List Change) (v3 : Option V), σ = [some (.int (t : Int)), some (.ref a), some (.ref p), v3] ∧ Same H H' ∧ H' p = some (.lst (vi row)) ∧ row.length = 3 * i + 1 ∧
        parseChanges (l.drop (3 * i)) = some cr ∧ tickRow t cs = row ++ flatC cr)
      ⟨[(t : Int)], cs, none, rfl, sA, upd_same, rfl, hcs, rfl⟩ ?_ ?_⟩
  · rintro i σ H' hi ⟨row, cr, v3, rfl, s1, e1, hrow, hcr, hap⟩
    obtain ⟨k, f, v, g1, g2, g3, g4⟩ := drop_three (l := l) (i := i) (by omega)
    rw [g4, parse3] at hcr
    by_cases ck : chOk k f v = true
    · rw [if_pos ck] at hcr
      cases h5 : parseChanges (l.drop (3 * (i + 1))) with
      | none => rw [h5] at hcr; exact nomatch hcr
      | some cr2 =>
        rw [h5] at hcr
        obtain rfl := (Option.some.inj hcr).symm
        unfold chOk at ck
        simp only [Bool.and_eq_true, Bool.or_eq_true, decide_eq_true_eq] at ck
        refine ⟨_, rfl, .inl ⟨rfl, _, SqL.of e1⟩, _, rfl, _, rfl, a, _, _, _, rfl, rfl, SqL.of (s1 _ _ ha), at_viI (3 * i) (by omega) g1, p, _, _, rfl, rfl, e1, lim_sz (by rw [vi_len]; omega), ?_⟩
        have s2 : Same H (upd H' p (.lst (vi row ++ [V.int k]))) := s1.wr hp
        refine ⟨_, rfl, .inl ⟨rfl, _, SqL.of upd_same⟩, _, rfl, _, rfl, _, _, rfl, rfl, a, _, _, _, rfl, rfl, SqL.of (s2 _ _ ha), at_viI (3 * i + 1) (by omega) g2, p, _, _, rfl, rfl, upd_same, lim_sz (by rw [List.length_append, vi_len]; show row.length + 1 ≤ _; omega), ?_⟩
        have s3 : Same H (upd (upd H' p (.lst (vi row ++ [V.int k]))) p (.lst (vi row ++ [V.int k] ++ [V.int f]))) := s2.wr hp
        have hln : (vi row ++ [V.int k] ++ [V.int f]).length = row.length + 2 := by rw [List.length_append, List.length_append, vi_len]; rfl
        refine ⟨_, rfl, _, rfl, _, _, rfl, rfl, a, _, _, _, rfl, rfl, SqL.of (s3 _ _ ha), at_viI (3 * i + 1) (by omega) g2, rfl, _, rfl, ifd (fun c => ?_) (fun c => ?_)⟩
        · have c' : f = 1 := V.int.inj c
          refine ⟨_, rfl, .inl ⟨rfl, _, SqL.of upd_same⟩, _, rfl, _, rfl, _, _, rfl, rfl, a, _, _, _, rfl, rfl, SqL.of (s3 _ _ ha), at_viI (3 * i + 2) (by omega) g3, p, _, _, rfl, rfl, upd_same, lim_sz (by rw [hln]; omega), ?_⟩
          refine ⟨row ++ [k, f, v], cr2, _, rfl, s3.wr hp, ?_, by simp; omega, rfl, ?_⟩
          · rw [upd_same, vi_app, List.append_assoc, List.append_assoc]; rfl
          · rw [hap, if_pos c', List.append_assoc, c']
            have e5 : ((k.toNat : Nat) : Int) = k := by omega
            have e6 : flatC ((k.toNat, some v) :: cr2) = [((k.toNat : Nat) : Int), 1, v] ++ flatC cr2 := rfl
            rw [e6, e5]
        · have c' : ¬ f = 1 := fun z => c (congrArg V.int z)
          have c0 : f = 0 := by omega
          refine ⟨_, rfl, .inl ⟨rfl, _, SqL.of upd_same⟩, p, _, _, rfl, rfl, upd_same, lim_sz (by rw [hln]; omega), ?_⟩
          refine ⟨row ++ [k, f, 0], cr2, _, rfl, s3.wr hp, ?_, by simp; omega, rfl, ?_⟩
          · rw [upd_same, vi_app, List.append_assoc, List.append_assoc]; rfl
          · rw [hap, if_neg c', List.append_assoc, c0]
            have e5 : ((k.toNat : Nat) : Int) = k := by omega
            have e6 : flatC ((k.toNat, none) :: cr2) = [((k.toNat : Nat) : Int), 0, 0] ++ flatC cr2 := rfl
            rw [e6, e5]
    · rw [if_neg ck] at hcr
      exact nomatch hcr
  · rintro σ H' ⟨row, cr, v3, rfl, s1, e1, hrow, hcr, hap⟩
    rw [List.drop_eq_nil_of_le (by omega)] at hcr
    obtain rfl : [] = cr := Option.some.inj hcr
    refine ⟨_, rfl, hq _ p s1 hp ?_⟩
    rw [e1, hap]
    show _ = some (HO.lst (vi (row ++ [])))
    rw [List.append_nil]
end
end TS
namespace TS
open PySem PySem.Spec PyProof.Rows L2 Vbwsai
section
variable {P : Program} {w : World} {K : PySem.W.Frag} {mg : Str → Option Value} {base : Heap} {A : Ad}
abbrev s_is_tick_row : Stmt := top 45
theorem sc_is_tick_row : FnScope ["row"] ["row"] (defScope s_is_tick_row) := ⟨rfl, rfl, rfl, by decide +kernel, rfl, by decide +kernel, by decide +kernel⟩
theorem ok_is_tick_row (T : Txt K mg A) (F : FunAt K mg "is_tick_row" s_is_tick_row ["row"]) (d_are_changes : Fn P w K mg base 3 "are_changes" ["numbers"] (sp_are_changes K A)) : Fn P w K mg base 4 "is_tick_row" ["row"] (sp_is_tick_row K A) := by
  obtain ⟨f, fd, F, hmg, hb⟩ := F
  refine ⟨f, fd, F.ok sc_is_tick_row (fun vs H Q E h => ?_) (fun cdv Ar outer s H vs Q E hr h => ?_), hmg, F.kp, hb⟩
  · exact S1.len h
  refine ⟨_, (pss_one (ps_ret (pe_and (pe_cmpR op_ge (pe_callB call_len_seq (by rfl) T.b_len PySem.boot_len (pa_cons (pv 0) pa_nil)) pe_int (nomark _)) (pe_and (pe_cmpR op_ge (pe_ix ix_list (pv 0) pe_int (fun _ _ => rfl)) pe_int (nomark _)) (pe_one (pe_fn d_are_changes (hr.mono (by decide)) rfl (pa_cons (pe_slice sl_list (pv 0) (po_some pe_int) po_none) pa_nil))))))), ?_⟩
  obtain ⟨_, rfl, a, l, rfl, ha, hl, hq⟩ := h
  refine ⟨_, rfl, a, _, rfl, .inl (SqL.of ha), _, _, rfl, rfl, _, rfl, ifd (fun c => ?_) (fun c => ?_)⟩
  · rw [vi_len] at c
    cases l with
    | nil => exact absurd c (by decide)
    | cons t r =>
      refine ⟨_, rfl, a, _, _, _, rfl, rfl, SqL.of ha, at_viI 0 rfl rfl, _, _, rfl, rfl, _, rfl, ifd (fun c2 => ?_) (fun c2 => ?_)⟩
      · have e0 : parseTickRow (t :: r) = (parseChanges r).map fun l => (t.toNat, l) := by
          show (if t < 1 then none else (parseChanges r).map fun l => (t.toNat, l)) = _
          rw [if_neg (by omega)]
        refine ⟨_, rfl, _, rfl, a, _, rfl, SqL.of ha, fun p hp => ⟨_, rfl, p, r, rfl, ?_, by simp at hl; omega, ?_⟩⟩
        · rw [upd_same]
          have := cut_lo (vi (t :: r)) 1
          exact congrArg (fun z => some (HO.lst z)) this
        · refine bl_eq (Eq.symm ?_) (hq _ (same_upd hp))
          rw [e0, Option.isSome_map]
      · refine bl_eq (Eq.symm ?_) (hq _ (Same.refl H))
        show (if t < 1 then none else (parseChanges r).map fun l => (t.toNat, l)).isSome = false
        rw [if_pos (by omega)]; rfl
  · rw [vi_len] at c
    have e : l = [] := List.length_eq_zero_iff.mp (by omega)
    rw [e] at hq
    exact hq _ (Same.refl H)
end
end TS
namespace TS
open PySem PySem.Spec PyProof.Rows L2 Vbwsai
section
variable {P : Program} {w : World} {K : PySem.W.Frag} {mg : Str → Option Value} {base : Heap} {A : Ad}
abbrev s_entry_numbers : Stmt := top 46
theorem sc_entry_numbers : FnScope ["entries", "numbers", "key"] ["entries"] (defScope s_entry_numbers) := ⟨rfl, rfl, rfl, by decide +kernel, rfl, by decide +kernel, by decide +kernel⟩
theorem ok_entry_numbers (T : Txt K mg A) (F : FunAt K mg "entry_numbers" s_entry_numbers ["entries"])  : Fn P w K mg base 1 "entry_numbers" ["entries"] (sp_entry_numbers K A) := by
  obtain ⟨f, fd, F, hmg, hb⟩ := F
  refine ⟨f, fd, F.ok sc_entry_numbers (fun vs H Q E h => ?_) (fun cdv Ar outer s H vs Q E hr h => ?_), hmg, F.kp, hb⟩
  · exact S1.len h
  refine ⟨_, (pss_cons (ps_set (i := 1) sc_entry_numbers.nd rfl (Or.inl rfl) (pe_lst pa_nil))
      (pss_cons (ps_for PassesOwn.never rfl (pi_list (pe_callB (call_sortedAny rfl) (by rfl) T.b_sorted (by decide +kernel) (pa_cons (pv 0) pa_nil))) (pg_name (i := 2) sc_entry_numbers.nd rfl (Or.inl rfl))
      (pss_cons (ps_expr (pe_bm PySem.F.plainAttrs_list PySem.F.slot_list_append PySem.F.type_list_append mt_append (pv 1) (pa_cons (pv 2) pa_nil)))
      (pss_one (ps_expr (pe_bm PySem.F.plainAttrs_list PySem.F.slot_list_append PySem.F.type_list_append mt_append (pv 1) (pa_cons (pe_dget (hu_of hr) (pv 0) (pv 2) (fun _ _ => rfl)) pa_nil))))))
      (pss_one (ps_ret (pv 1))))), ?_⟩
  obtain ⟨_, rfl, e, kvs, s0, rfl, he, hent, hq⟩ := h
  obtain ⟨hs, es, hkv, hperm⟩ := id hent
  refine ⟨Nat.zero_le _, fun p hp => ?_⟩
  have sA : Same H (upd H p (.lst [])) := same_upd hp
  refine ⟨_, rfl, e, kvs, es.map (fun x => (x.1 : Int)), rfl, .inl (sA _ _ he), ?_, fun ys q py sy hq2 => ?_⟩
  · rw [hkv, List.map_map, List.map_map]; rfl
  have hys := keys_sorted hs hperm py sy
  subst hys
  have npq : p ≠ q := ne_of_none upd_same hq2
  have hqH : H q = none := sA.free hq2
  refine ⟨q, rfl, ⟨_, SqL.of upd_same⟩, for_list (K := K) (a := q) (xs := vi (s0.map fun x => (x.1 : Int)))
    (fun i σ H' => ∃ v, σ = [some (.ref e), some (.ref p), v] ∧ Same H H' ∧ H' q = some (.lst (vi (s0.map fun x => (x.1 : Int)))) ∧ H' p = some (.lst (vi (flatS (s0.take i)))))
    ⟨none, rfl, sA.up hq2, upd_same, by rw [upd_ne npq]; exact upd_same⟩ (fun i σ H' _ ⟨_, _, _, e2, _⟩ => SqL.of e2) ?_ ?_⟩
  · rintro i y σ H' hi ⟨v, rfl, s1, e2, e1⟩
    obtain ⟨z, hz, rfl⟩ := vi_inv hi
    rw [List.getElem?_map] at hz
    cases hx : s0[i]? with
    | none => rw [hx] at hz; exact nomatch hz
    | some x =>
      rw [hx] at hz
      obtain rfl := (Option.some.inj hz).symm
      have hlen := hs.len
      have hi2 := lt_of_get hx
      have ht := List.length_take_le' i s0
      have hfl := flatS_len (s0.take i)
      refine ⟨_, rfl, .inl ⟨rfl, _, SqL.of e1⟩, _, rfl, p, _, _, rfl, rfl, e1, lim_sz (by rw [vi_len]; omega), ?_⟩
      have s2 : Same H (upd H' p (.lst (vi (flatS (s0.take i)) ++ [V.int (x.1 : Int)]))) := s1.wr hp
      have dg : DGet (upd H' p (.lst (vi (flatS (s0.take i)) ++ [V.int (x.1 : Int)]))) e (V.int (x.1 : Int)) (some (V.int x.2)) := by
        have d0 := DGet.k (k := Sum.inl (x.1 : Int)) (s2 _ _ he)
        rw [hent.look, look_mem hs hx] at d0
        exact d0
      refine ⟨_, rfl, .inl ⟨rfl, _, SqL.of upd_same⟩, _, rfl, _, rfl, e, _, rfl, dg, p, _, _, rfl, rfl, upd_same, lim_sz (by rw [List.length_append, vi_len]; show _ + 1 ≤ _; omega), ?_⟩
      refine ⟨_, rfl, s2.wr hp, by rw [upd_ne npq.symm, upd_ne npq.symm]; exact e2, ?_⟩
      rw [upd_same, take_more hx, flatS_snoc, vi_app, List.append_assoc]
      rfl
  · rintro σ H' ⟨v, rfl, s1, e2, e1⟩
    refine ⟨_, rfl, hq _ p s1 hp ?_⟩
    rw [vi_len, List.length_map, List.take_length] at e1
    exact e1
end
end TS
namespace TS
open PySem PySem.Spec PyProof.Rows L2 Vbwsai
section
variable {P : Program} {w : World} {K : PySem.W.Frag} {mg : Str → Option Value} {base : Heap} {A : Ad}
abbrev s_checkpoint_row : Stmt := top 47
theorem sc_checkpoint_row : FnScope ["number", "entries"] ["number", "entries"] (defScope s_checkpoint_row) := ⟨rfl, rfl, rfl, by decide +kernel, rfl, by decide +kernel, by decide +kernel⟩
theorem ok_checkpoint_row (T : Txt K mg A) (F : FunAt K mg "checkpoint_row" s_checkpoint_row ["number", "entries"]) (d_entry_numbers : Fn P w K mg base 1 "entry_numbers" ["entries"] (sp_entry_numbers K A)) : Fn P w K mg base 2 "checkpoint_row" ["number", "entries"] (sp_checkpoint_row K A) := by
  obtain ⟨f, fd, F, hmg, hb⟩ := F
  refine ⟨f, fd, F.ok sc_checkpoint_row (fun vs H Q E h => ?_) (fun cdv Ar outer s H vs Q E hr h => ?_), hmg, F.kp, hb⟩
  · exact S2.len h
  refine ⟨_, (pss_one (ps_ret (pe_op op_cat (pe_lst (pa_cons (pv 0) pa_nil)) (pe_fn d_entry_numbers (hr.mono (by decide)) rfl (pa_cons (pv 1) pa_nil))))), ?_⟩
  obtain ⟨_, _, rfl, t, e, kvs, s0, rfl, rfl, he, hent, hq⟩ := h
  refine ⟨_, rfl, (by show 1 ≤ sizeLine; decide), fun p hp => ?_⟩
  have sA : Same H (upd H p (.lst [.int (t : Int)])) := same_upd hp
  refine ⟨_, rfl, _, rfl, e, kvs, s0, rfl, sA _ _ he, hent, fun H2 q s2 hq2 e2 => ?_⟩
  refine ⟨p, q, _, _, rfl, rfl, s2 _ _ upd_same, e2, ?_, fun p3 hp3 => ?_⟩
  · have := hent.len
    rw [vi_len, flatS_len]
    exact lim_sz' (by show 1 + _ ≤ _; omega)
  · refine hq _ p3 ((sA.trans s2).up hp3) ((sA.trans s2).free hp3) ?_
    rw [upd_same]
    rfl
end
end TS
namespace TS
open PySem PySem.Spec PyProof.Rows L2 Vbwsai
section
variable {P : Program} {w : World} {K : PySem.W.Frag} {mg : Str → Option Value} {base : Heap} {A : Ad}
abbrev s_is_checkpoint_row : Stmt := top 48
theorem sc_is_checkpoint_row : FnScope ["row", "last_key", "start", "key"] ["row"] (defScope s_is_checkpoint_row) := ⟨rfl, rfl, rfl, by decide +kernel, rfl, by decide +kernel, by decide +kernel⟩
theorem ok_is_checkpoint_row (T : Txt K mg A) (F : FunAt K mg "is_checkpoint_row" s_is_checkpoint_row ["row"]) (d_is_value : Fn P w K mg base 1 "is_value" ["number"] (sp_is_value K A)) (d_is_key : Fn P w K mg base 1 "is_key" ["number"] (sp_is_key K A)) : Fn P w K mg base 2 "is_checkpoint_row" ["row"] (sp_is_checkpoint_row K A) := by
  obtain ⟨f, fd, F, hmg, hb⟩ := F
  refine ⟨f, fd, F.ok sc_is_checkpoint_row (fun vs H Q E h => ?_) (fun cdv Ar outer s H vs Q E hr h => ?_), hmg, F.kp, hb⟩
  · exact S1.len h
  refine ⟨_, (pss_cons (ps_if (PW.pt (pw_or (pt_cmpR op_ne (pe_op op_mod (pe_callB call_len_seq (by rfl) T.b_len PySem.boot_len (pa_cons (pv 0) pa_nil)) pe_int) pe_int (nomark _)) (pw_or1 (pt_cmpR op_lt (pe_ix ix_list (pv 0) pe_int (fun _ _ => rfl)) pe_int (nomark _))))) (pss_one (ps_ret pe_bl))
      pss_nil)
      (pss_cons (ps_set (i := 1) sc_is_checkpoint_row.nd rfl (Or.inl rfl) (pe_un un_neg pe_int))
      (pss_cons (ps_for PassesOwn.never rfl (pi_range3 rfl T.b_range (pa_cons pe_int (pa_cons (pe_callB call_len_seq (by rfl) T.b_len PySem.boot_len (pa_cons (pv 0) pa_nil)) (pa_cons pe_int pa_nil)))) (pg_name (i := 2) sc_is_checkpoint_row.nd rfl (Or.inl rfl))
      (pss_cons (ps_set (i := 3) sc_is_checkpoint_row.nd rfl (Or.inl rfl) (pe_ix ix_list (pv 0) (pv 2) (fun _ _ => rfl)))
      (pss_cons (ps_if (PW.pt (pw_or (pt_cmpR op_le (pv 3) (pv 1) (nomark _)) (pw_or (pt_not (pt_val (pe_fn d_is_key (hr.mono (by decide)) rfl (pa_cons (pv 3) pa_nil)))) (pw_or1 (pt_not (pt_val (pe_fn d_is_value (hr.mono (by decide)) rfl (pa_cons (pe_ix ix_list (pv 0) (pe_op op_add (pv 2) pe_int) (fun _ _ => rfl)) pa_nil)))))))) (pss_one (ps_ret pe_bl))
      pss_nil)
      (pss_one (ps_set (i := 1) sc_is_checkpoint_row.nd rfl (Or.inl rfl) (pv 3))))))
      (pss_one (ps_ret pe_bl))))), ?_⟩
  obtain ⟨_, rfl, a, l, rfl, ha, hl, hq⟩ := h
  refine ⟨_, rfl, a, _, rfl, .inl (SqL.of ha), _, _, rfl, rfl, (by show (0 : Int) < 2; decide), rfl, _, rfl, ifn (fun c => iteT ?_) (fun c => ?_)⟩
  · have c' : ¬ l.length % 2 = 1 := fun z => c (congrArg V.int (by rw [vi_len]; omega))
    refine bl_eq (Eq.symm ?_) hq
    cases h5 : parseCheckpointRow l with
    | none => rfl
    | some x =>
      exfalso
      cases l with
      | nil => exact nomatch h5
      | cons t r =>
        have h6 : (if t < 0 then none else (parseEntries 0 r).map fun s => (t.toNat, s)) = some x := h5
        split at h6
        · exact nomatch h6
        · cases h7 : parseEntries 0 r with
          | none => rw [h7] at h6; exact nomatch h6
          | some s1 =>
            have := (entries_ok h7).2.2
            simp at c'; omega
  have c' := V.int.inj c
  rw [vi_len] at c'
  cases l with
  | nil => exact absurd c' (by decide)
  | cons t r =>
    have hr1 : r.length + 1 ≤ 1000000 := hl
    have c2 : ((r.length + 1 : Nat) : Int) % 2 = 1 := c'
    refine ⟨_, rfl, a, _, _, _, rfl, rfl, SqL.of ha, at_viI 0 rfl rfl, _, _, rfl, rfl, _, rfl, ifd (fun c3 => ?_) (fun c3 => ?_)⟩
    · refine bl_eq (Eq.symm ?_) hq
      show (if t < 0 then none else (parseEntries 0 r).map fun s => (t.toNat, s)).isSome = false
      rw [if_pos c3]; rfl
    have e0 : (parseCheckpointRow (t :: r)).isSome = (parseEntries 0 r).isSome := by
      show (if t < 0 then none else (parseEntries 0 r).map fun s => (t.toNat, s)).isSome = _
      rw [if_neg c3, Option.isSome_map]
    rw [e0] at hq
    refine ⟨_, rfl, ?_⟩
    refine ⟨_, rfl, a, _, rfl, .inl (SqL.of ha), 1, _, 2, r.length / 2, rfl, rg2 (by rw [vi_len]; show r.length + 1 = _; omega) (by rw [vi_len]; exact hl),
      for_rangeC (lo := 1) (c := 2) (n := r.length / 2) (fun i σ H' => H' = H ∧ ∃ (last : Int) (v2 v3 : Option V), σ = [some (.ref a), some (.int last), v2, v3] ∧ -1 ≤ last ∧ (parseEntries 0 r).isSome = (parseEntries (last + 1).toNat (r.drop (2 * i))).isSome)
        ⟨rfl, -1, none, none, rfl, by decide, rfl⟩ ?_ ?_⟩
    · rintro i σ H' hi ⟨rfl, last, v2, v3, rfl, hlast, he⟩
      obtain ⟨k, v, g1, g2, g4⟩ := drop_two (l := r) (i := i) (by omega)
      rw [g4, parse2] at he
      have g1' : (t :: r)[2 * i + 1]? = some k := g1
      have g2' : (t :: r)[2 * i + 2]? = some v := g2
      refine ⟨_, rfl, _, rfl, a, _, _, _, rfl, rfl, SqL.of ha, at_viI (2 * i + 1) (by omega) g1', ?_⟩
      refine ⟨_, rfl, _, rfl, _, _, rfl, rfl, _, rfl, ifd (fun d1 => iteT ?_) (fun d1 => ?_)⟩
      · have ef : enOk (last + 1).toNat k v = false := by unfold enOk; simp; omega
        rw [ef, if_neg Bool.false_ne_true] at he
        exact bl_eq he.symm hq
      refine ⟨_, rfl, _, rfl, k, rfl, _, rfl, ifn (fun d2 => iteT ?_) (fun d2 => ?_)⟩
      · have ef : enOk (last + 1).toNat k v = false := by unfold enOk; simp; omega
        rw [ef, if_neg Bool.false_ne_true] at he
        exact bl_eq he.symm hq
      refine ⟨_, rfl, _, rfl, _, _, rfl, rfl, a, _, _, _, rfl, rfl, SqL.of ha, at_viI (2 * i + 2) (by omega) g2', _, rfl, v, rfl, _, rfl, ifn (fun d3 => ?_) (fun d3 => ?_)⟩
      · have ef : enOk (last + 1).toNat k v = false := by unfold enOk; simp; omega
        rw [ef, if_neg Bool.false_ne_true] at he
        exact bl_eq he.symm hq
      · have et : enOk (last + 1).toNat k v = true := by unfold enOk; simp; omega
        rw [et, if_pos rfl, Option.isSome_map] at he
        refine ⟨_, rfl, ?_⟩
        refine ⟨rfl, k, _, _, rfl, by omega, ?_⟩
        rw [he, show (k + 1).toNat = k.toNat + 1 by omega]
    · rintro σ H' ⟨rfl, last, v2, v3, rfl, hlast, he⟩
      rw [List.drop_eq_nil_of_le (by omega)] at he
      refine bl_eq (Eq.symm ?_) hq
      rw [he]; rfl
end
end TS
namespace TS
open PySem PySem.Spec PyProof.Rows L2 Vbwsai
section
variable {P : Program} {w : World} {K : PySem.W.Frag} {mg : Str → Option Value} {base : Heap} {A : Ad}
abbrev s_checkpoint_entries : Stmt := top 49
theorem sc_checkpoint_entries : FnScope ["row", "entries", "start"] ["row"] (defScope s_checkpoint_entries) := ⟨rfl, rfl, rfl, by decide +kernel, rfl, by decide +kernel, by decide +kernel⟩
theorem ok_checkpoint_entries (T : Txt K mg A) (F : FunAt K mg "checkpoint_entries" s_checkpoint_entries ["row"])  : Fn P w K mg base 1 "checkpoint_entries" ["row"] (sp_checkpoint_entries K A) := by
  obtain ⟨f, fd, F, hmg, hb⟩ := F
  refine ⟨f, fd, F.ok sc_checkpoint_entries (fun vs H Q E h => ?_) (fun cdv Ar outer s H vs Q E hr h => ?_), hmg, F.kp, hb⟩
  · exact S1.len h
  refine ⟨_, (pss_cons (ps_set (i := 1) sc_checkpoint_entries.nd rfl (Or.inl rfl) pe_dnewK)
      (pss_cons (ps_for PassesOwn.never rfl (pi_range3 rfl T.b_range (pa_cons pe_int (pa_cons (pe_callB call_len_seq (by rfl) T.b_len PySem.boot_len (pa_cons (pv 0) pa_nil)) (pa_cons pe_int pa_nil)))) (pg_name (i := 2) sc_checkpoint_entries.nd rfl (Or.inl rfl))
      (pss_one (ps_dput (hu_of hr) (pv 1) (pe_ix ix_list (pv 0) (pv 2) (fun _ _ => rfl)) (pe_ix ix_list (pv 0) (pe_op op_add (pv 2) pe_int) (fun _ _ => rfl)) rfl)))
      (pss_one (ps_ret (pv 1))))), ?_⟩
  obtain ⟨_, rfl, a, l, t, s0, rfl, ha, hl, hps, hq⟩ := h
  refine fun p hp => ?_
  have sA : Same H (upd H p (.dK [])) := same_upd hp
  cases l with
  | nil => exact nomatch hps
  | cons t0 r =>
    have h6 : (if t0 < 0 then none else (parseEntries 0 r).map fun s => (t0.toNat, s)) = some (t, s0) := hps
    split at h6
    · exact nomatch h6
    · cases h7 : parseEntries 0 r with
      | none => rw [h7] at h6; exact nomatch h6
      | some s1 =>
        rw [h7] at h6
        obtain rfl : s1 = s0 := (Prod.mk.inj (Option.some.inj h6)).2
        obtain ⟨hok, _, hlen⟩ := entries_ok h7
        have hr1 : r.length + 1 ≤ 1000000 := hl
        refine ⟨_, rfl, a, _, rfl, .inl (SqL.of (sA _ _ ha)), 1, _, 2, s1.length, rfl, rg2 (by rw [vi_len]; show r.length + 1 = _; omega) (by rw [vi_len]; exact hl),
          for_rangeC (lo := 1) (c := 2) (n := s1.length) (fun i σ H' => ∃ (done rest : Store) (low : Nat) (v2 : Option V), σ = [some (.ref a), some (.ref p), v2] ∧ Same H H' ∧ H' p = some (.dK (done.map kE)) ∧ s1 = done ++ rest ∧
              parseEntries low (r.drop (2 * i)) = some rest ∧ ∀ x ∈ done, x.1 < low)
            ⟨[], s1, 0, none, rfl, sA, upd_same, rfl, h7, fun x hx => by simp at hx⟩ ?_ ?_⟩
        · rintro i σ H' hi ⟨done, rest, low, v2, rfl, s2, e1, hd, hps2, hlow⟩
          obtain ⟨k, v, g1, g2, g4⟩ := drop_two (l := r) (i := i) (by omega)
          rw [g4, parse2] at hps2
          have g1' : (t0 :: r)[2 * i + 1]? = some k := g1
          have g2' : (t0 :: r)[2 * i + 2]? = some v := g2
          by_cases ck : enOk low k v = true
          · rw [if_pos ck] at hps2
            cases h8 : parseEntries (k.toNat + 1) (r.drop (2 * (i + 1))) with
            | none => rw [h8] at hps2; exact nomatch hps2
            | some rest2 =>
              rw [h8] at hps2
              obtain rfl := (Option.some.inj hps2).symm
              unfold enOk at ck
              simp only [Bool.and_eq_true, decide_eq_true_eq] at ck
              obtain ⟨kn, rfl⟩ : ∃ kn : Nat, k = (kn : Int) := ⟨k.toNat, by omega⟩
              have hdl : done.length ≤ 64 := by
                have h1 := hok.len
                rw [hd, List.length_append] at h1; omega
              refine ⟨_, rfl, _, rfl, _, _, rfl, rfl, a, _, _, _, rfl, rfl, SqL.of (s2 _ _ ha), at_viI (2 * i + 2) (by omega) g2', _, rfl, ?_⟩
              refine ⟨_, rfl, _, rfl, a, _, _, _, rfl, rfl, SqL.of (s2 _ _ ha), at_viI (2 * i + 1) (by omega) g1', p, _, rfl, DPut.k (k := Sum.inl (kn : Int)) e1 (by rw [List.length_map]; exact lim_sz (by omega)), ?_⟩
              refine ⟨done ++ [(kn, v)], rest2, kn + 1, _, rfl, s2.wr hp, ?_, by rw [hd, List.append_assoc]; rfl, h8, fun x hx => ?_⟩
              · rw [upd_same, put_last (fun x hx => by have := hlow x hx; omega)]
              · rcases List.mem_append.mp hx with z | z
                · have := hlow x z; omega
                · rw [List.mem_singleton.mp z]; exact Nat.lt_succ_self kn
          · rw [if_neg ck] at hps2
            exact nomatch hps2
        · rintro σ H' ⟨done, rest, low, v2, rfl, s2, e1, hd, hps2, hlow⟩
          rw [List.drop_eq_nil_of_le (by omega)] at hps2
          obtain rfl : [] = rest := Option.some.inj hps2
          rw [List.append_nil] at hd
          refine ⟨_, rfl, hq _ p _ s2 hp e1 ⟨hok, done, rfl, by rw [hd]⟩⟩
end
end TS
namespace TS
open PySem PySem.Spec PyProof.Rows L2 Vbwsai
section
variable {P : Program} {w : World} {K : PySem.W.Frag} {mg : Str → Option Value} {base : Heap} {A : Ad}
abbrev s_read_checkpoint : Stmt := top 50
theorem sc_read_checkpoint : FnScope ["data", "row"] ["data"] (defScope s_read_checkpoint) := ⟨rfl, rfl, rfl, by decide +kernel, rfl, by decide +kernel, by decide +kernel⟩
theorem ok_read_checkpoint (T : Txt K mg A) (F : FunAt K mg "read_checkpoint" s_read_checkpoint ["data"]) (d_only_row : Fn P w K mg base 5 "only_row" ["data"] (sp_only_row K A)) (d_is_checkpoint_row : Fn P w K mg base 2 "is_checkpoint_row" ["row"] (sp_is_checkpoint_row K A)) : Fn P w K mg base 6 "read_checkpoint" ["data"] (sp_read_checkpoint K A) := by
  obtain ⟨f, fd, F, hmg, hb⟩ := F
  refine ⟨f, fd, F.ok sc_read_checkpoint (fun vs H Q E h => ?_) (fun cdv Ar outer s H vs Q E hr h => ?_), hmg, F.kp, hb⟩
  · exact S1.len h
  refine ⟨_, (pss_cons (ps_set (i := 1) sc_read_checkpoint.nd rfl (Or.inl rfl) (pe_fn d_only_row (hr.mono (by decide)) rfl (pa_cons (pv 0) pa_nil)))
      (pss_cons (ps_if (PW.pt (pw_or (pt_cmpR op_isN (pv 1) pe_non (nomark _)) (pw_or1 (pt_not (pt_val (pe_fn d_is_checkpoint_row (hr.mono (by decide)) rfl (pa_cons (pv 1) pa_nil))))))) (pss_one (ps_ret pe_non))
      pss_nil)
      (pss_one (ps_ret (pv 1))))), ?_⟩
  obtain ⟨_, rfl, a, d, rfl, ha, hb, hl, hq⟩ := h
  rw [readCheckpoint_eq] at hq
  refine ⟨_, rfl, _, rfl, a, d, rfl, ha, hb, hl, fun H1 v s1 hv => ?_⟩
  cases e : onlyRow d with
  | none =>
    rw [e] at hv hq
    obtain rfl : v = V.non := hv
    exact ⟨_, rfl, rfl, _, rfl, ifd (fun _ => iteT (hq _ _ s1 rfl)) (fun c => absurd rfl c)⟩
  | some l =>
    rw [e] at hv hq
    obtain ⟨r, rfl, hr'⟩ := hv
    obtain ⟨hsm, hll⟩ := onlyRow_sm hb e
    have hq' : ∀ (H' : Hp) (v : V), Same H H' → OptV (fun v x => ∃ (r : Addr) (l : List Int), v = .ref r ∧ H' r = some (.lst (vi l)) ∧ parseCheckpointRow l = some x ∧ l.length ≤ 1000000 ∧ ∀ z ∈ l, Sm z) v (parseCheckpointRow l) → Q v H' := hq
    refine ⟨_, rfl, rfl, _, rfl, ifd (fun c => nomatch c) (fun _ => ?_)⟩
    refine ⟨_, rfl, _, rfl, r, l, rfl, hr', by omega, _, rfl, ifnb (fun c => ?_) (fun c => ?_)⟩
    · refine hq' _ _ s1 ?_
      cases e2 : parseCheckpointRow l with
      | none => exact rfl
      | some x => rw [e2] at c; exact nomatch c
    · refine ⟨_, rfl, hq' _ _ s1 ?_⟩
      cases e2 : parseCheckpointRow l with
      | none => rw [e2] at c; exact nomatch c
      | some x => exact ⟨r, l, rfl, hr', e2, by omega, hsm⟩
end
end TS
namespace TS
open PySem PySem.Spec PyProof.Rows L2 Vbwsai
section
variable {P : Program} {w : World} {K : PySem.W.Frag} {mg : Str → Option Value} {base : Heap} {A : Ad}
abbrev s_is_commit_row : Stmt := top 51
theorem sc_is_commit_row : FnScope ["row"] ["row"] (defScope s_is_commit_row) := ⟨rfl, rfl, rfl, by decide +kernel, rfl, by decide +kernel, by decide +kernel⟩
theorem ok_is_commit_row (T : Txt K mg A) (F : FunAt K mg "is_commit_row" s_is_commit_row ["row"])  : Fn P w K mg base 1 "is_commit_row" ["row"] (sp_is_commit_row K A) := by
  obtain ⟨f, fd, F, hmg, hb⟩ := F
  refine ⟨f, fd, F.ok sc_is_commit_row (fun vs H Q E h => ?_) (fun cdv Ar outer s H vs Q E hr h => ?_), hmg, F.kp, hb⟩
  · exact S1.len h
  refine ⟨_, (pss_one (ps_ret (pe_and (pe_cmpR op_eq (pe_callB call_len_seq (by rfl) T.b_len PySem.boot_len (pa_cons (pv 0) pa_nil)) pe_int (nomark _)) (pe_and (pe_cmpR op_ge (pe_ix ix_list (pv 0) pe_int (fun _ _ => rfl)) pe_int (nomark _)) (pe_one (pe_or (pe_cmpR op_eq (pe_ix ix_list (pv 0) pe_int (fun _ _ => rfl)) pe_int (nomark _)) (pe_one (pe_cmpR op_eq (pe_ix ix_list (pv 0) pe_int (fun _ _ => rfl)) pe_int (nomark _))))))))), ?_⟩
  obtain ⟨_, rfl, a, l, rfl, ha, hq⟩ := h
  refine ⟨_, rfl, a, _, rfl, .inl (SqL.of ha), rfl, _, rfl, ifd (fun c => ?_) (fun c => ?_)⟩
  · have c' := V.int.inj c
    rw [vi_len] at c'
    obtain ⟨n, s0, rfl⟩ : ∃ n s0, l = [n, s0] := by
      match l, c' with
      | [n, s0], _ => exact ⟨n, s0, rfl⟩
      | [], c => exact absurd c (by decide)
      | [_], c =>
        exfalso
        have : ((1 : Nat) : Int) = 2 := c
        omega
      | _ :: _ :: _ :: r, c =>
        exfalso
        have : ((r.length + 3 : Nat) : Int) = 2 := c
        omega
    have e0 : commitOf [n, s0] = if n < 1 ∨ s0 < 0 ∨ 1 < s0 then none else some (n.toNat, s0.toNat) := rfl
    rw [e0] at hq
    refine ⟨_, rfl, a, _, _, _, rfl, rfl, SqL.of ha, at_viI 0 rfl rfl, _, _, rfl, rfl, _, rfl, ifd (fun c2 => ?_) (fun c2 => ?_)⟩
    · refine ⟨_, rfl, a, _, _, _, rfl, rfl, SqL.of ha, at_viI 1 rfl rfl, rfl, _, rfl, ifd (fun c3 => ?_) (fun c3 => ?_)⟩
      · have c3' := V.int.inj c3
        rw [if_neg (by omega)] at hq
        exact hq
      · have c3' : ¬ s0 = 0 := fun z => c3 (by rw [z])
        refine ⟨_, rfl, a, _, _, _, rfl, rfl, SqL.of ha, at_viI 1 rfl rfl, rfl, ?_⟩
        by_cases c4 : s0 = 1
        · rw [if_neg (by omega)] at hq
          exact bl_eq (decide_eq_true (congrArg V.int c4)) hq
        · rw [if_pos (by omega)] at hq
          exact bl_eq (decide_eq_false (fun z => c4 (V.int.inj z))) hq
    · rw [if_pos (by omega)] at hq
      exact hq
  · have e0 : commitOf l = none := by
      match l, c with
      | [], _ => rfl
      | [_], _ => rfl
      | [_, _], c => exact absurd rfl c
      | _ :: _ :: _ :: _, _ => rfl
    rw [e0] at hq
    exact hq
end
end TS
namespace TS
open PySem PySem.Spec PyProof.Rows L2 Vbwsai
section
variable {P : Program} {w : World} {K : PySem.W.Frag} {mg : Str → Option Value} {base : Heap} {A : Ad}
abbrev s_read_commit : Stmt := top 52
theorem sc_read_commit : FnScope ["data", "row"] ["data"] (defScope s_read_commit) := ⟨rfl, rfl, rfl, by decide +kernel, rfl, by decide +kernel, by decide +kernel⟩
theorem ok_read_commit (T : Txt K mg A) (F : FunAt K mg "read_commit" s_read_commit ["data"]) (d_only_row : Fn P w K mg base 5 "only_row" ["data"] (sp_only_row K A)) (d_is_commit_row : Fn P w K mg base 1 "is_commit_row" ["row"] (sp_is_commit_row K A)) : Fn P w K mg base 6 "read_commit" ["data"] (sp_read_commit K A) := by
  obtain ⟨f, fd, F, hmg, hb⟩ := F
  refine ⟨f, fd, F.ok sc_read_commit (fun vs H Q E h => ?_) (fun cdv Ar outer s H vs Q E hr h => ?_), hmg, F.kp, hb⟩
  · exact S1.len h
  refine ⟨_, (pss_cons (ps_set (i := 1) sc_read_commit.nd rfl (Or.inl rfl) (pe_fn d_only_row (hr.mono (by decide)) rfl (pa_cons (pv 0) pa_nil)))
      (pss_cons (ps_if (PW.pt (pw_or (pt_cmpR op_isN (pv 1) pe_non (nomark _)) (pw_or1 (pt_not (pt_val (pe_fn d_is_commit_row (hr.mono (by decide)) rfl (pa_cons (pv 1) pa_nil))))))) (pss_one (ps_ret pe_non))
      pss_nil)
      (pss_one (ps_ret (pv 1))))), ?_⟩
  obtain ⟨_, rfl, a, d, rfl, ha, hb, hl, hq⟩ := h
  rw [readCommit_eq] at hq
  refine ⟨_, rfl, _, rfl, a, d, rfl, ha, hb, hl, fun H1 v s1 hv => ?_⟩
  cases e : onlyRow d with
  | none =>
    rw [e] at hv hq
    obtain rfl : v = V.non := hv
    exact ⟨_, rfl, rfl, _, rfl, ifd (fun _ => iteT (hq _ _ s1 rfl)) (fun c => absurd rfl c)⟩
  | some l =>
    rw [e] at hv hq
    obtain ⟨r, rfl, hr'⟩ := hv
    obtain ⟨hsm, hll⟩ := onlyRow_sm hb e
    have hq' : ∀ (H' : Hp) (v : V), Same H H' → OptV (CommitAt H') v (commitOf l) → Q v H' := hq
    refine ⟨_, rfl, rfl, _, rfl, ifd (fun c => nomatch c) (fun _ => ?_)⟩
    refine ⟨_, rfl, _, rfl, r, l, rfl, hr', _, rfl, ifnb (fun c => ?_) (fun c => ?_)⟩
    · refine hq' _ _ s1 ?_
      cases e2 : commitOf l with
      | none => exact rfl
      | some x => rw [e2] at c; exact nomatch c
    · refine ⟨_, rfl, hq' _ _ s1 ?_⟩
      match l, c, hr', hsm with
      | [], c, _, _ => exact nomatch c
      | [_], c, _, _ => exact nomatch c
      | _ :: _ :: _ :: _, c, _, _ => exact nomatch c
      | [n, s0], c, hr', hsm =>
        have e0 : commitOf [n, s0] = if n < 1 ∨ s0 < 0 ∨ 1 < s0 then none else some (n.toNat, s0.toNat) := rfl
        rw [e0] at c ⊢
        by_cases c5 : n < 1 ∨ s0 < 0 ∨ 1 < s0
        · rw [if_pos c5] at c; exact nomatch c
        · rw [if_neg c5]
          have e1 : ((n.toNat : Nat) : Int) = n := by omega
          have e2 : ((s0.toNat : Nat) : Int) = s0 := by omega
          refine ⟨r, rfl, ?_, ?_, by show s0.toNat ≤ 1; omega⟩
          · show H1 r = some (.lst [.int ((n.toNat : Nat) : Int), .int ((s0.toNat : Nat) : Int)])
            rw [e1, e2]; exact hr'
          · show Sm ((n.toNat : Nat) : Int)
            rw [e1]; exact hsm n (by simp)
end
end TS
namespace TS
open PySem PySem.Spec PyProof.Rows L2 Vbwsai
section
variable {P : Program} {w : World} {K : PySem.W.Frag} {mg : Str → Option Value} {base : Heap} {A : Ad}
abbrev s_pieces : Stmt := top 62
theorem sc_pieces : FnScope ["data", "separator", "found", "piece", "byte"] ["data", "separator"] (defScope s_pieces) := ⟨rfl, rfl, rfl, by decide +kernel, rfl, by decide +kernel, by decide +kernel⟩
theorem ok_pieces (T : Txt K mg A) (F : FunAt K mg "pieces" s_pieces ["data", "separator"])  : Fn P w K mg base 1 "pieces" ["data", "separator"] (sp_pieces K A) := by
  obtain ⟨f, fd, F, hmg, hb⟩ := F
  refine ⟨f, fd, F.ok sc_pieces (fun vs H Q E h => ?_) (fun cdv Ar outer s H vs Q E hr h => ?_), hmg, F.kp, hb⟩
  · exact S2.len h
  refine ⟨_, (pss_cons (ps_set (i := 2) sc_pieces.nd rfl (Or.inl rfl) (pe_lst pa_nil))
      (pss_cons (ps_set (i := 3) sc_pieces.nd rfl (Or.inl rfl) (pe_lst pa_nil))
      (pss_cons (ps_for PassesOwn.never rfl (pi_list (pv 0)) (pg_name (i := 4) sc_pieces.nd rfl (Or.inl rfl))
      (pss_one (ps_if (pt_cmpR op_eq (pv 4) (pv 1) (nomark _)) (pss_cons (ps_expr (pe_bm PySem.F.plainAttrs_list PySem.F.slot_list_append PySem.F.type_list_append mt_append (pv 2) (pa_cons (pv 3) pa_nil)))
      (pss_one (ps_set (i := 3) sc_pieces.nd rfl (Or.inl rfl) (pe_lst pa_nil))))
      (pss_one (ps_expr (pe_bm PySem.F.plainAttrs_list PySem.F.slot_list_append PySem.F.type_list_append mt_append (pv 3) (pa_cons (pv 4) pa_nil)))))))
      (pss_cons (ps_expr (pe_bm PySem.F.plainAttrs_list PySem.F.slot_list_append PySem.F.type_list_append mt_append (pv 2) (pa_cons (pv 3) pa_nil)))
      (pss_one (ps_ret (pv 2))))))), ?_⟩
  obtain ⟨_, _, rfl, a, d, sep, rfl, rfl, ha, hl, hq⟩ := h
  refine ⟨Nat.zero_le _, fun p hp => ⟨Nat.zero_le _, fun q0 hq0 => ?_⟩⟩
  have npq : q0 ≠ p := fun z => by rw [z, upd_same] at hq0; exact nomatch hq0
  have sA : Same H (upd (upd H p (.lst [])) q0 (.lst [])) := (same_upd hp).up hq0
  refine ⟨_, rfl, a, rfl, ⟨_, SqL.of (sA _ _ ha)⟩, for_list (K := K) (a := a) (xs := vb d)
    (fun i σ H' => ∃ (ps : List (Addr × Bytes)) (q : Addr) (part : Bytes) (v : Option V), σ = [some (.ref a), some (.int (sep : Int)), some (.ref p), some (.ref q), v] ∧ Same H H' ∧ H' p = some (.lst (ps.map fun y => V.ref y.1)) ∧
      H' q = some (.lst (vb part)) ∧ H q = none ∧ q ≠ p ∧ ps.length ≤ i ∧ part.length ≤ i ∧ (∀ y ∈ ps, y.1 ≠ p ∧ y.1 ≠ q ∧ H' y.1 = some (.lst (vb y.2))) ∧ splitAtByte sep [] d = ps.map (·.2) ++ splitAtByte sep part (d.drop i))
    ⟨[], q0, [], none, rfl, sA, by rw [upd_ne npq.symm]; exact upd_same, upd_same, (same_upd hp).free hq0, npq, Nat.le_refl _, Nat.le_refl _, fun y hy => by simp at hy, rfl⟩
    (fun i σ H' _ ⟨_, _, _, _, _, s1, _⟩ => SqL.of (s1 _ _ ha)) ?_ ?_⟩
  · rintro i y σ H' hi ⟨ps, q, part, v, rfl, s1, e1, e2, hqn, nq, hpl, hptl, hps, he⟩
    obtain ⟨z, hz, rfl⟩ := vb_inv hi
    have hil := lt_of_get hz
    rw [drop_one hz, split_eq] at he
    refine ⟨_, rfl, _, rfl, rfl, _, rfl, ifd (fun c => ?_) (fun c => ?_)⟩
    · have c' : z = sep := by have := V.int.inj c; omega
      rw [if_pos c'] at he
      refine ⟨_, rfl, .inl ⟨rfl, _, SqL.of e1⟩, _, rfl, p, _, _, rfl, rfl, e1, lim_sz (by rw [List.length_map]; omega), ?_⟩
      refine ⟨Nat.zero_le _, fun q2 hq2 => ?_⟩
      have n1 : q2 ≠ p := fun w => by rw [w, upd_same] at hq2; exact nomatch hq2
      have hq2' : H' q2 = none := by rw [upd_ne n1] at hq2; exact hq2
      have s2 : Same H (upd H' p (.lst ((ps.map fun y => V.ref y.1) ++ [V.ref q]))) := s1.wr hp
      refine ⟨ps ++ [(q, part)], q2, [], _, rfl, s2.up hq2, ?_, upd_same, s2.free hq2, n1, by simp; omega, Nat.zero_le _, fun y hy => ?_, ?_⟩
      · rw [upd_ne n1.symm, upd_same, List.map_append]; rfl
      · rcases List.mem_append.mp hy with w | w
        · obtain ⟨k1, k2, k3⟩ := hps y w
          have k4 : y.1 ≠ q2 := ne_of_none k3 hq2'
          exact ⟨k1, k4, by rw [upd_ne k4, upd_ne k1]; exact k3⟩
        · rw [List.mem_singleton.mp w]
          have k4 : q ≠ q2 := ne_of_none e2 hq2'
          exact ⟨nq, k4, by rw [upd_ne k4, upd_ne nq]; exact e2⟩
      · rw [he, List.map_append, List.append_assoc]; rfl
    · have c' : ¬ z = sep := fun w => c (by rw [w])
      rw [if_neg c'] at he
      refine ⟨_, rfl, .inl ⟨rfl, _, SqL.of e2⟩, _, rfl, q, _, _, rfl, rfl, e2, lim_sz (by rw [vb_len]; omega), ?_⟩
      refine ⟨ps, q, part ++ [z], _, rfl, s1.wr hqn, by rw [upd_ne nq.symm]; exact e1, ?_, hqn, nq, by omega, by simp; omega, fun y hy => ?_, he⟩
      · rw [upd_same, vb_app]; rfl
      · obtain ⟨k1, k2, k3⟩ := hps y hy
        exact ⟨k1, k2, by rw [upd_ne k2]; exact k3⟩
  · rintro σ H' ⟨ps, q, part, v, rfl, s1, e1, e2, hqn, nq, hpl, hptl, hps, he⟩
    rw [vb_len] at hpl
    rw [vb_len, List.drop_length, split_nil] at he
    refine ⟨_, rfl, .inl ⟨rfl, _, SqL.of e1⟩, _, rfl, p, _, _, rfl, rfl, e1, lim_sz (by rw [List.length_map]; omega), ?_⟩
    refine ⟨_, rfl, hq _ p (s1.wr hp) hp ⟨ps ++ [(q, part)], ?_, ?_, fun y hy => ?_⟩⟩
    · rw [upd_same, List.map_append]; rfl
    · rw [he, List.map_append]; rfl
    · rcases List.mem_append.mp hy with w | w
      · obtain ⟨k1, k2, k3⟩ := hps y w
        rw [upd_ne k1]; exact k3
      · rw [List.mem_singleton.mp w, upd_ne nq]; exact e2
end
end TS
namespace TS
open PySem PySem.Spec PyProof.Rows L2 Vbwsai
section
variable {P : Program} {w : World} {K : PySem.W.Frag} {mg : Str → Option Value} {base : Heap} {A : Ad}
abbrev s_ended_lines : Stmt := top 63
theorem sc_ended_lines : FnScope ["text"] ["text"] (defScope s_ended_lines) := ⟨rfl, rfl, rfl, by decide +kernel, rfl, by decide +kernel, by decide +kernel⟩
theorem ok_ended_lines (T : Txt K mg A) (F : FunAt K mg "ended_lines" s_ended_lines ["text"]) (d_pieces : Fn P w K mg base 1 "pieces" ["data", "separator"] (sp_pieces K A)) : Fn P w K mg base 2 "ended_lines" ["text"] (sp_ended_lines K A) := by
  obtain ⟨f, fd, F, hmg, hb⟩ := F
  refine ⟨f, fd, F.ok sc_ended_lines (fun vs H Q E h => ?_) (fun cdv Ar outer s H vs Q E hr h => ?_), hmg, F.kp, hb⟩
  · exact S1.len h
  refine ⟨_, (pss_one (ps_ret (pe_slice sl_list (pe_fn d_pieces (hr.mono (by decide)) rfl (pa_cons (pv 0) (pa_cons (pe_cst T.c_LINE_FEED rfl) pa_nil))) po_none (po_some (pe_un un_neg pe_int))))), ?_⟩
  obtain ⟨_, rfl, a, d, rfl, ha, hl, hq⟩ := h
  refine ⟨_, rfl, _, _, rfl, a, d, 10, rfl, rfl, ha, hl, fun H1 p1 s1 n1 ⟨ps, e1, e2, e3⟩ => ?_⟩
  refine ⟨_, rfl, _, rfl, p1, _, rfl, SqL.of e1, fun p2 hp2 => ?_⟩
  have ec : cutV (ps.map fun y => V.ref y.1) none (some (-1)) = ps.dropLast.map fun y => V.ref y.1 := by rw [cut_init, List.map_dropLast]
  refine hq _ p2 (s1.up hp2) (s1.free hp2) ⟨ps.dropLast, ?_, ?_, fun y hy => ?_⟩
  · rw [upd_same]; exact congrArg (fun z => some (HO.lst z)) ec
  · rw [← e2, List.map_dropLast]
  · have := e3 y ((List.dropLast_sublist ps).subset hy)
    rw [upd_ne (ne_of_none this hp2)]; exact this
end
end TS
namespace TS
open PySem PySem.Spec PyProof.Rows L2 Vbwsai
section
variable {P : Program} {w : World} {K : PySem.W.Frag} {mg : Str → Option Value} {base : Heap} {A : Ad}
abbrev s_read_natural : Stmt := top 64
theorem sc_read_natural : FnScope ["digits", "number", "byte"] ["digits"] (defScope s_read_natural) := ⟨rfl, rfl, rfl, by decide +kernel, rfl, by decide +kernel, by decide +kernel⟩
theorem ok_read_natural (T : Txt K mg A) (F : FunAt K mg "read_natural" s_read_natural ["digits"])  : Fn P w K mg base 1 "read_natural" ["digits"] (sp_read_natural K A) := by
  obtain ⟨f, fd, F, hmg, hb⟩ := F
  refine ⟨f, fd, F.ok sc_read_natural (fun vs H Q E h => ?_) (fun cdv Ar outer s H vs Q E hr h => ?_), hmg, F.kp, hb⟩
  · exact S1.len h
  refine ⟨_, (pss_cons (ps_if (PW.pt (pw_or (pt_cmpR op_lt (pe_callB call_len_seq (by rfl) T.b_len PySem.boot_len (pa_cons (pv 0) pa_nil)) pe_int (nomark _)) (pw_or1 (pt_cmpR op_gt (pe_callB call_len_seq (by rfl) T.b_len PySem.boot_len (pa_cons (pv 0) pa_nil)) (pe_cst T.c_MOST_DIGITS rfl) (nomark _))))) (pss_one (ps_ret pe_non))
      pss_nil)
      (pss_cons (ps_if (PW.pt (pw_and (pt_cmpR op_eq (pe_ix ix_list (pv 0) pe_int (fun _ _ => rfl)) (pe_cst T.c_DIGIT_ZERO rfl) (nomark _)) (pw_and1 (pt_cmpR op_gt (pe_callB call_len_seq (by rfl) T.b_len PySem.boot_len (pa_cons (pv 0) pa_nil)) pe_int (nomark _))))) (pss_one (ps_ret pe_non))
      pss_nil)
      (pss_cons (ps_set (i := 1) sc_read_natural.nd rfl (Or.inl rfl) pe_int)
      (pss_cons (ps_for PassesOwn.never rfl (pi_list (pv 0)) (pg_name (i := 2) sc_read_natural.nd rfl (Or.inl rfl))
      (pss_cons (ps_if (PW.pt (pw_or (pt_cmpR op_lt (pv 2) (pe_cst T.c_DIGIT_ZERO rfl) (nomark _)) (pw_or1 (pt_cmpR op_gt (pv 2) (pe_cst T.c_DIGIT_NINE rfl) (nomark _))))) (pss_one (ps_ret pe_non))
      pss_nil)
      (pss_one (ps_set (i := 1) sc_read_natural.nd rfl (Or.inl rfl) (pe_op op_sub (pe_op op_add (pe_op op_mul (pv 1) pe_int) (pv 2)) (pe_cst T.c_DIGIT_ZERO rfl))))))
      (pss_one (ps_ret (pv 1))))))), ?_⟩
  obtain ⟨_, rfl, a, t, rfl, ha, hl, hq⟩ := h
  rw [parseNatural_eq] at hq
  refine ⟨_, rfl, a, _, rfl, .inl (SqL.of ha), _, _, rfl, rfl, _, rfl, ifd (fun c => iteT ?_) (fun c => ⟨_, rfl, a, _, rfl, .inl (SqL.of ha), _, _, rfl, rfl, _, rfl, ifd (fun c2 => ?_) (fun c2 => ?_)⟩)⟩
  · rw [vb_len] at c
    rw [if_pos (.inl (List.length_eq_zero_iff.mp (by omega)))] at hq
    exact hq
  · rw [vb_len] at c2
    rw [if_pos (.inr (.inl (by omega)))] at hq
    exact hq
  rw [vb_len] at c c2
  cases t with
  | nil => exact absurd (show ((0 : Nat) : Int) < 1 by decide) c
  | cons c0 r =>
    have c1 : ¬ ((r.length + 1 : Nat) : Int) < 1 := c
    have c2' : ¬ (19 : Int) < ((r.length + 1 : Nat) : Int) := c2
    have fin : ¬ (1 < (c0 :: r).length ∧ (c0 :: r).head? = some 48) → tFor (iList K (tVar 0)) (gName 2) (tSeq (tIfS (tOr (tTest (tOp (rI0 fun i j => .bl (decide (i < j))) (tVar 2) (tC (.int 48)))) (tTest (tOp (rI0 fun i j => .bl (decide (j < i))) (tVar 2) (tC (.int 57))))) (tRet (tC .non)) tNext)
        (tAsg (tOp (rI0 fun i j => .int (i - j)) (tOp (rI0 fun i j => .int (i + j)) (tOp (rI CMul fun i j => .int (i * j)) (tVar 1) (tC (.int 10))) (tVar 2)) (tC (.int 48))) (gName 1)))
        { nx := tRet (tVar 1) { nx := fun _ H' => Q .non H', rt := Q }, rt := Q } [some (.ref a), some (.int 0), none] H := by
      intro c3
      refine ⟨_, rfl, a, rfl, ⟨_, SqL.of ha⟩, for_list (K := K) (a := a) (xs := vb (c0 :: r))
        (fun i σ H' => H' = H ∧ ((c0 :: r).take i).all isDigit = true ∧ ∃ v, σ = [some (.ref a), some (.int ((((c0 :: r).take i).foldl (fun n c => 10 * n + (c - 48)) 0 : Nat) : Int)), v])
        ⟨rfl, rfl, none, rfl⟩ (fun i σ H' _ ⟨e, _⟩ => by rw [e]; exact SqL.of ha) ?_ ?_⟩
      · rintro i y σ H' hi ⟨rfl, hd, v, rfl⟩
        obtain ⟨z, hz, rfl⟩ := vb_inv hi
        have bad : ¬ (48 ≤ z ∧ z ≤ 57) → Q .non H' := fun nd => by
          have e1 : (c0 :: r).all isDigit = false := by
            rw [List.all_eq_false]
            exact ⟨z, List.mem_of_getElem? hz, by unfold isDigit; simp; omega⟩
          rw [if_pos (.inr (.inr (.inl e1)))] at hq
          exact hq
        refine ⟨_, rfl, _, _, rfl, rfl, _, rfl, ifd (fun d1 => iteT (bad (by omega))) (fun d1 => ⟨_, rfl, _, _, rfl, rfl, _, rfl, ifd (fun d2 => bad (by omega)) (fun d2 => ?_)⟩)⟩
        refine ⟨_, rfl, _, _, rfl, rfl, .inr ⟨by decide, by decide⟩, _, rfl, _, _, rfl, rfl, _, _, rfl, rfl, ?_⟩
        refine ⟨rfl, ?_, some (V.int (z : Int)), ?_⟩
        · rw [take_more hz, List.all_append, hd]
          simp [isDigit]; omega
        · rw [take_more hz, List.foldl_append]
          have e1 : ((((c0 :: r).take i).foldl (fun n c => 10 * n + (c - 48)) 0 : Nat) : Int) * 10 + (z : Int) - 48 = ((10 * ((c0 :: r).take i).foldl (fun n c => 10 * n + (c - 48)) 0 + (z - 48) : Nat) : Int) := by omega
          show [some (V.ref a), some (V.int (((((c0 :: r).take i).foldl (fun n c => 10 * n + (c - 48)) 0 : Nat) : Int) * 10 + (z : Int) - 48)), some (V.int (z : Int))] = _
          rw [e1]
          rfl
      · rintro σ H' ⟨rfl, hd, v, rfl⟩
        rw [vb_len, List.take_length] at hd ⊢
        refine ⟨_, rfl, ?_⟩
        have nn : ¬ ((c0 :: r) = [] ∨ 19 < (c0 :: r).length ∨ (c0 :: r).all isDigit = false ∨ (1 < (c0 :: r).length ∧ (c0 :: r).head? = some 48)) := by
          rintro (z | z | z | z)
          · exact nomatch z
          · have z' : 19 < r.length + 1 := z
            omega
          · rw [hd] at z; exact nomatch z
          · exact c3 z
        rw [if_neg nn] at hq
        exact hq
    refine ⟨_, rfl, a, _, _, _, rfl, rfl, SqL.of ha, at_vbI 0 rfl (Nat.succ_pos _), rfl, _, rfl, ifd (fun d1 => ⟨_, rfl, a, _, rfl, .inl (SqL.of ha), _, _, rfl, rfl, _, rfl, ifd (fun d2 => ?_) (fun d2 => ?_)⟩) (fun d1 => iteF ?_)⟩
    · have d1' : c0 = 48 := by
        have : ((c0 : Nat) : Int) = 48 := V.int.inj d1
        omega
      have d2' : (1 : Int) < ((r.length + 1 : Nat) : Int) := by rw [vb_len] at d2; exact d2
      rw [if_pos (.inr (.inr (.inr ⟨by show 1 < r.length + 1; omega, by rw [d1']; rfl⟩)))] at hq
      exact hq
    · refine fin fun z => d2 ?_
      rw [vb_len]
      have := z.1
      omega
    · refine fin fun z => d1 ?_
      have : c0 = 48 := Option.some.inj z.2
      show V.int ((c0 : Nat) : Int) = V.int 48
      rw [this]
      rfl
end
end TS
namespace TS
open PySem PySem.Spec PyProof.Rows L2 Vbwsai
section
variable {P : Program} {w : World} {K : PySem.W.Frag} {mg : Str → Option Value} {base : Heap} {A : Ad}
abbrev s_read_integer : Stmt := top 65
theorem sc_read_integer : FnScope ["data", "number"] ["data"] (defScope s_read_integer) := ⟨rfl, rfl, rfl, by decide +kernel, rfl, by decide +kernel, by decide +kernel⟩
theorem ok_read_integer (T : Txt K mg A) (F : FunAt K mg "read_integer" s_read_integer ["data"]) (d_read_natural : Fn P w K mg base 1 "read_natural" ["digits"] (sp_read_natural K A)) : Fn P w K mg base 2 "read_integer" ["data"] (sp_read_integer K A) := by
  obtain ⟨f, fd, F, hmg, hb⟩ := F
  refine ⟨f, fd, F.ok sc_read_integer (fun vs H Q E h => ?_) (fun cdv Ar outer s H vs Q E hr h => ?_), hmg, F.kp, hb⟩
  · exact S1.len h
  refine ⟨_, (pss_cons (ps_if (pt_cmpR (op_neD hr.units) (pe_slice sl_list (pv 0) po_none (po_some pe_int)) (pe_lst (pa_cons (pe_cst T.c_MINUS_SIGN rfl) pa_nil)) (nomark _)) (pss_one (ps_ret (pe_fn d_read_natural (hr.mono (by decide)) rfl (pa_cons (pv 0) pa_nil))))
      pss_nil)
      (pss_cons (ps_set (i := 1) sc_read_integer.nd rfl (Or.inl rfl) (pe_fn d_read_natural (hr.mono (by decide)) rfl (pa_cons (pe_slice sl_list (pv 0) (po_some pe_int) po_none) pa_nil)))
      (pss_cons (ps_if (PW.pt (pw_or (pt_cmpR op_isN (pv 1) pe_non (nomark _)) (pw_or1 (pt_cmpR op_eq (pv 1) pe_int (nomark _))))) (pss_one (ps_ret pe_non))
      pss_nil)
      (pss_one (ps_ret (pe_un un_neg (pv 1))))))), ?_⟩
  obtain ⟨_, rfl, a, t, rfl, ha, hl, hq⟩ := h
  have same2 : ∀ (xs ys : List V) (p1 p2 : Addr), H p1 = none → upd H p1 (.lst xs) p2 = none → Same H (upd (upd H p1 (.lst xs)) p2 (.lst ys)) := fun xs ys p1 p2 h1 h2 => (same_upd h1).up h2
  have same3 : ∀ o : Option Nat, onV o = oiV (o.map fun n => (n : Int)) := fun o => by cases o <;> rfl
  cases t with
  | nil =>
    refine ⟨_, rfl, _, rfl, a, _, rfl, SqL.of ha, fun p1 hp1 => ⟨(by show 1 ≤ sizeLine; decide), fun p2 hp2 => ?_⟩⟩
    have sB := same2 (cutV (vb []) none (some 1)) [V.int 45] p1 p2 hp1 hp2
    refine ⟨.list [], .list [.int 45], .lst (SqL.of (xs := []) ?_) .nil, .lst (SqL.of upd_same) (.cons (.int 45) .nil), rfl, rfl, _, rfl, iteT ?_⟩
    · rw [upd_ne (ne_of_none upd_same hp2)]; exact upd_same
    · refine ⟨_, rfl, _, rfl, a, [], rfl, sB _ _ ha, hl, ?_⟩
      have := hq _ sB
      exact this
  | cons c r =>
    refine ⟨_, rfl, _, rfl, a, _, rfl, SqL.of ha, fun p1 hp1 => ⟨(by show 1 ≤ sizeLine; decide), fun p2 hp2 => ?_⟩⟩
    have ec : cutV (vb (c :: r)) none (some 1) = [V.int (c : Int)] := cut_hi (vb (c :: r)) 1
    rw [ec] at hp2 ⊢
    have sB := same2 [V.int (c : Int)] [V.int 45] p1 p2 hp1 hp2
    refine ⟨.list [.int (c : Int)], .list [.int 45], .lst (SqL.of (xs := [V.int (c : Int)]) ?_) (.cons (.int _) .nil), .lst (SqL.of upd_same) (.cons (.int 45) .nil), rfl, rfl, _, rfl, ?_⟩
    · rw [upd_ne (ne_of_none upd_same hp2)]; exact upd_same
    rw [eqv_one]
    refine ifn (fun d => ?_) (fun d => ?_)
    · refine ⟨_, rfl, _, rfl, a, c :: r, rfl, sB _ _ ha, hl, ?_⟩
      rw [same3]
      have e0 : parseInteger (c :: r) = (parseNatural (c :: r)).map fun n => (n : Int) := by
        unfold parseInteger
        split
        · rename_i h; exact absurd (by have := (List.cons.inj h).1; omega) d
        · rfl
      have := hq _ sB
      rw [e0] at this
      exact this
    · have d' : c = 45 := by omega
      subst d'
      have e0 : parseInteger (45 :: r) = (match parseNatural r with
        | some (n + 1) => some (-((n : Int) + 1))
        | _ => none) := rfl
      rw [e0] at hq
      refine ⟨_, rfl, _, rfl, a, _, rfl, SqL.of (sB _ _ ha), fun p3 hp3 => ?_⟩
      have ec2 : cutV (vb (45 :: r)) (some 1) none = vb r := cut_lo (vb (45 :: r)) 1
      rw [ec2]
      have sC := sB.up (o := .lst (vb r)) hp3
      refine ⟨_, rfl, p3, r, rfl, upd_same, by simp at hl; omega, ?_⟩
      have hq2 := hq _ sC
      cases e1 : parseNatural r with
      | none =>
        rw [e1] at hq2
        exact ⟨_, rfl, rfl, _, rfl, ifd (fun _ => iteT hq2) (fun c => absurd rfl c)⟩
      | some n =>
        rw [e1] at hq2
        refine ⟨_, rfl, rfl, _, rfl, ifd (fun c => nomatch c) (fun _ => ⟨_, rfl, rfl, _, rfl, ifd (fun d2 => ?_) (fun d2 => ?_)⟩)⟩
        · have d2' : (n : Int) = 0 := V.int.inj d2
          have : n = 0 := by omega
          subst this
          exact hq2
        · have d2' : ¬ n = 0 := fun z => d2 (by show V.int ((n : Nat) : Int) = V.int 0; rw [z]; rfl)
          cases n with
          | zero => exact absurd rfl d2'
          | succ n => exact ⟨_, rfl, _, rfl, hq2⟩
end
end TS
namespace TS
open PySem PySem.Spec PyProof.Rows L2 Vbwsai
section
variable {P : Program} {w : World} {K : PySem.W.Frag} {mg : Str → Option Value} {base : Heap} {A : Ad}
abbrev s_read_key : Stmt := top 66
theorem sc_read_key : FnScope ["data", "key"] ["data"] (defScope s_read_key) := ⟨rfl, rfl, rfl, by decide +kernel, rfl, by decide +kernel, by decide +kernel⟩
theorem ok_read_key (T : Txt K mg A) (F : FunAt K mg "read_key" s_read_key ["data"]) (d_read_natural : Fn P w K mg base 1 "read_natural" ["digits"] (sp_read_natural K A)) (d_is_key : Fn P w K mg base 1 "is_key" ["number"] (sp_is_key K A)) : Fn P w K mg base 2 "read_key" ["data"] (sp_read_key K A) := by
  obtain ⟨f, fd, F, hmg, hb⟩ := F
  refine ⟨f, fd, F.ok sc_read_key (fun vs H Q E h => ?_) (fun cdv Ar outer s H vs Q E hr h => ?_), hmg, F.kp, hb⟩
  · exact S1.len h
  refine ⟨_, (pss_cons (ps_set (i := 1) sc_read_key.nd rfl (Or.inl rfl) (pe_fn d_read_natural (hr.mono (by decide)) rfl (pa_cons (pv 0) pa_nil)))
      (pss_cons (ps_if (PW.pt (pw_or (pt_cmpR op_isN (pv 1) pe_non (nomark _)) (pw_or1 (pt_not (pt_val (pe_fn d_is_key (hr.mono (by decide)) rfl (pa_cons (pv 1) pa_nil))))))) (pss_one (ps_ret pe_non))
      pss_nil)
      (pss_one (ps_ret (pv 1))))), ?_⟩
  obtain ⟨_, rfl, a, t, rfl, ha, hl, hq⟩ := h
  unfold keyOf at hq
  refine ⟨_, rfl, _, rfl, a, t, rfl, ha, hl, ?_⟩
  cases e : parseNatural t with
  | none =>
    rw [e] at hq
    exact ⟨_, rfl, rfl, _, rfl, ifd (fun _ => iteT hq) (fun c => absurd rfl c)⟩
  | some k =>
    rw [e] at hq
    have hq' : Q (onV (if k < 64 then some k else none)) H := hq
    refine ⟨_, rfl, rfl, _, rfl, ifd (fun c => nomatch c) (fun _ => ⟨_, rfl, _, rfl, (k : Int), rfl, _, rfl, ifn (fun c => ?_) (fun c => ?_)⟩)⟩
    · rw [if_neg (by omega)] at hq'
      exact hq'
    · rw [if_pos (by omega)] at hq'
      exact ⟨_, rfl, hq'⟩
end
end TS
namespace TS
open PySem PySem.Spec PyProof.Rows L2 Vbwsai
section
variable {P : Program} {w : World} {K : PySem.W.Frag} {mg : Str → Option Value} {base : Heap} {A : Ad}
abbrev s_read_value : Stmt := top 67
theorem sc_read_value : FnScope ["data", "value"] ["data"] (defScope s_read_value) := ⟨rfl, rfl, rfl, by decide +kernel, rfl, by decide +kernel, by decide +kernel⟩
theorem ok_read_value (T : Txt K mg A) (F : FunAt K mg "read_value" s_read_value ["data"]) (d_read_integer : Fn P w K mg base 2 "read_integer" ["data"] (sp_read_integer K A)) (d_is_value : Fn P w K mg base 1 "is_value" ["number"] (sp_is_value K A)) : Fn P w K mg base 3 "read_value" ["data"] (sp_read_value K A) := by
  obtain ⟨f, fd, F, hmg, hb⟩ := F
  refine ⟨f, fd, F.ok sc_read_value (fun vs H Q E h => ?_) (fun cdv Ar outer s H vs Q E hr h => ?_), hmg, F.kp, hb⟩
  · exact S1.len h
  refine ⟨_, (pss_cons (ps_set (i := 1) sc_read_value.nd rfl (Or.inl rfl) (pe_fn d_read_integer (hr.mono (by decide)) rfl (pa_cons (pv 0) pa_nil)))
      (pss_cons (ps_if (PW.pt (pw_or (pt_cmpR op_isN (pv 1) pe_non (nomark _)) (pw_or1 (pt_not (pt_val (pe_fn d_is_value (hr.mono (by decide)) rfl (pa_cons (pv 1) pa_nil))))))) (pss_one (ps_ret pe_non))
      pss_nil)
      (pss_one (ps_ret (pv 1))))), ?_⟩
  obtain ⟨_, rfl, a, t, rfl, ha, hl, hq⟩ := h
  refine ⟨_, rfl, _, rfl, a, t, rfl, ha, hl, fun H1 s1 => ?_⟩
  have hq1 := hq _ s1
  unfold valOf at hq1
  cases e : parseInteger t with
  | none =>
    rw [e] at hq1
    exact ⟨_, rfl, rfl, _, rfl, ifd (fun _ => iteT hq1) (fun c => absurd rfl c)⟩
  | some k =>
    rw [e] at hq1
    have hq' : Q (oiV (if -1000000000000000000 ≤ k ∧ k ≤ 1000000000000000000 then some k else none)) H1 := hq1
    refine ⟨_, rfl, rfl, _, rfl, ifd (fun c => nomatch c) (fun _ => ⟨_, rfl, _, rfl, k, rfl, _, rfl, ifn (fun c => ?_) (fun c => ?_)⟩)⟩
    · rw [if_neg c] at hq'
      exact hq'
    · rw [if_pos c] at hq'
      exact ⟨_, rfl, hq'⟩
end
end TS
namespace TS
open PySem PySem.Spec PyProof.Rows L2 Vbwsai
section
variable {P : Program} {w : World} {K : PySem.W.Frag} {mg : Str → Option Value} {base : Heap} {A : Ad}
abbrev s_read_removal : Stmt := top 68
theorem sc_read_removal : FnScope ["token", "key"] ["token"] (defScope s_read_removal) := ⟨rfl, rfl, rfl, by decide +kernel, rfl, by decide +kernel, by decide +kernel⟩
theorem ok_read_removal (T : Txt K mg A) (F : FunAt K mg "read_removal" s_read_removal ["token"]) (d_read_key : Fn P w K mg base 2 "read_key" ["data"] (sp_read_key K A)) : Fn P w K mg base 3 "read_removal" ["token"] (sp_read_removal K A) := by
  obtain ⟨f, fd, F, hmg, hb⟩ := F
  refine ⟨f, fd, F.ok sc_read_removal (fun vs H Q E h => ?_) (fun cdv Ar outer s H vs Q E hr h => ?_), hmg, F.kp, hb⟩
  · exact S1.len h
  refine ⟨_, (pss_cons (ps_set (i := 1) sc_read_removal.nd rfl (Or.inl rfl) (pe_fn d_read_key (hr.mono (by decide)) rfl (pa_cons (pe_slice sl_list (pv 0) po_none (po_some (pe_un un_neg pe_int))) pa_nil)))
      (pss_cons (ps_if (pt_cmpR op_isN (pv 1) pe_non (nomark _)) (pss_one (ps_ret pe_non))
      pss_nil)
      (pss_one (ps_ret (pe_lst (pa_cons (pv 1) (pa_cons pe_int (pa_cons pe_int pa_nil)))))))), ?_⟩
  obtain ⟨_, rfl, a, t, rfl, ha, hl, hq⟩ := h
  refine ⟨_, rfl, _, rfl, _, rfl, a, _, rfl, SqL.of ha, fun p hp => ?_⟩
  have ec : cutV (vb t) none (some (-1)) = vb t.dropLast := by
    rw [cut_init]
    exact List.map_dropLast.symm
  have sA : Same H (upd H p (.lst (vb t.dropLast))) := same_upd hp
  refine ⟨_, rfl, p, t.dropLast, rfl, ?_, by rw [List.length_dropLast]; omega, ?_⟩
  · rw [upd_same]; exact congrArg (fun z => some (HO.lst z)) ec
  have sA' : Same H (upd H p (.lst (cutV (vb t) none (some (-1))))) := same_upd hp
  cases e : keyOf t.dropLast with
  | none =>
    rw [e] at hq
    exact ⟨_, rfl, rfl, _, rfl, ifd (fun _ => hq _ _ sA' rfl) (fun c => absurd rfl c)⟩
  | some k =>
    rw [e] at hq
    refine ⟨_, rfl, rfl, _, rfl, ifd (fun c => nomatch c) (fun _ => ⟨_, rfl, (by show 3 ≤ sizeLine; decide), fun p2 hp2 => ?_⟩)⟩
    exact hq _ _ (sA'.up hp2) ⟨p2, rfl, upd_same⟩
end
end TS
namespace TS
open PySem PySem.Spec PyProof.Rows L2 Vbwsai
section
variable {P : Program} {w : World} {K : PySem.W.Frag} {mg : Str → Option Value} {base : Heap} {A : Ad}
abbrev s_read_change : Stmt := top 69
theorem sc_read_change : FnScope ["token", "parts", "key", "value"] ["token"] (defScope s_read_change) := ⟨rfl, rfl, rfl, by decide +kernel, rfl, by decide +kernel, by decide +kernel⟩
theorem ok_read_change (T : Txt K mg A) (F : FunAt K mg "read_change" s_read_change ["token"]) (d_read_removal : Fn P w K mg base 3 "read_removal" ["token"] (sp_read_removal K A)) (d_pieces : Fn P w K mg base 1 "pieces" ["data", "separator"] (sp_pieces K A)) (d_read_key : Fn P w K mg base 2 "read_key" ["data"] (sp_read_key K A)) (d_read_value : Fn P w K mg base 3 "read_value" ["data"] (sp_read_value K A)) : Fn P w K mg base 4 "read_change" ["token"] (sp_read_change K A) := by
  obtain ⟨f, fd, F, hmg, hb⟩ := F
  refine ⟨f, fd, F.ok sc_read_change (fun vs H Q E h => ?_) (fun cdv Ar outer s H vs Q E hr h => ?_), hmg, F.kp, hb⟩
  · exact S1.len h
  refine ⟨_, (pss_cons (ps_if (pt_cmpR (op_eqD hr.units) (pe_slice sl_list (pv 0) (po_some (pe_un un_neg pe_int)) po_none) (pe_lst (pa_cons (pe_cst T.c_REMOVAL_SIGN rfl) pa_nil)) (nomark _)) (pss_one (ps_ret (pe_fn d_read_removal (hr.mono (by decide)) rfl (pa_cons (pv 0) pa_nil))))
      pss_nil)
      (pss_cons (ps_set (i := 1) sc_read_change.nd rfl (Or.inl rfl) (pe_fn d_pieces (hr.mono (by decide)) rfl (pa_cons (pv 0) (pa_cons (pe_cst T.c_EQUALS_SIGN rfl) pa_nil))))
      (pss_cons (ps_if (pt_cmpR op_ne (pe_callB call_len_seq (by rfl) T.b_len PySem.boot_len (pa_cons (pv 1) pa_nil)) pe_int (nomark _)) (pss_one (ps_ret pe_non))
      pss_nil)
      (pss_cons (ps_set (i := 2) sc_read_change.nd rfl (Or.inl rfl) (pe_fn d_read_key (hr.mono (by decide)) rfl (pa_cons (pe_ix ix_list (pv 1) pe_int (fun _ _ => rfl)) pa_nil)))
      (pss_cons (ps_set (i := 3) sc_read_change.nd rfl (Or.inl rfl) (pe_fn d_read_value (hr.mono (by decide)) rfl (pa_cons (pe_ix ix_list (pv 1) pe_int (fun _ _ => rfl)) pa_nil)))
      (pss_cons (ps_if (PW.pt (pw_or (pt_cmpR op_isN (pv 2) pe_non (nomark _)) (pw_or1 (pt_cmpR op_isN (pv 3) pe_non (nomark _))))) (pss_one (ps_ret pe_non))
      pss_nil)
      (pss_one (ps_ret (pe_lst (pa_cons (pv 2) (pa_cons pe_int (pa_cons (pv 3) pa_nil)))))))))))), ?_⟩
  obtain ⟨_, rfl, a, t, rfl, ha, hl, hb, hq⟩ := h
  rw [parseChange_eq] at hq
  refine ⟨_, rfl, _, rfl, _, rfl, a, _, rfl, SqL.of ha, fun p1 hp1 => ⟨(by show 1 ≤ sizeLine; decide), fun p2 hp2 => ?_⟩⟩
  have sB : Same H (upd (upd H p1 (.lst (cutV (vb t) (some (-1)) none))) p2 (.lst [V.int 33])) := (same_upd hp1).up hp2
  have ec : cutV (vb t) (some (-1)) none = (vb t).drop ((vb t).length - 1) := cut_last _
  have e1 : upd (upd H p1 (.lst (cutV (vb t) (some (-1)) none))) p2 (.lst [V.int 33]) p1 = some (.lst ((vb t).drop ((vb t).length - 1))) := by
    rw [upd_ne (ne_of_none upd_same hp2), upd_same, ec]
  have other : ¬ t.getLast? = some 33 → Q = Q → tSeq (tAsg (tCall (sp_pieces K A) [] E0 (tCons (tVar 0) (tCons (tC (.int 61)) tNil))) (gName 1))
      (tSeq (tIfS (tTest (tOp rNe (tCB (fun xs H Q => ∃ p ys, xs = [.ref p] ∧ (SqL K H p ys ∨ SqT K H p ys) ∧ Q (.int ys.length) H) (tCons (tVar 1) tNil)) (tC (.int 2)))) (tRet (tC .non)) tNext)
      (tSeq (tAsg (tCall (sp_read_key K A) [] E0 (tCons (tOp (rIxL K) (tVar 1) (tC (.int 0))) tNil)) (gName 2))
      (tSeq (tAsg (tCall (sp_read_value K A) [] E0 (tCons (tOp (rIxL K) (tVar 1) (tC (.int 1))) tNil)) (gName 3))
      (tSeq (tIfS (tOr (tTest (tOp (fun x y H Q => y = .non ∧ Q (.bl (decide (x = .non))) H) (tVar 2) (tC .non))) (tTest (tOp (fun x y H Q => y = .non ∧ Q (.bl (decide (x = .non))) H) (tVar 3) (tC .non)))) (tRet (tC .non)) tNext)
      (tRet (tLst (tCons (tVar 2) (tCons (tC (.int 1)) (tCons (tVar 3) tNil)))))))))
      { nx := fun _ H' => Q .non H', rt := Q } [some (.ref a), none, none, none] (upd (upd H p1 (.lst (cutV (vb t) (some (-1)) none))) p2 (.lst [V.int 33])) := by
    intro hne _
    rw [if_neg hne] at hq
    refine ⟨_, rfl, _, _, rfl, a, t, 61, rfl, rfl, sB _ _ ha, hl, fun H1 p3 s1 n1 ⟨ps, f1, f2, f3⟩ => ?_⟩
    have sC := sB.trans s1
    refine ⟨_, rfl, p3, _, rfl, .inl (SqL.of f1), rfl, _, rfl, ifn (fun c => ?_) (fun c => ?_)⟩
    · refine hq _ _ sC ?_
      have c2 : ¬ (splitAtByte 61 [] t).length = 2 := fun z => c (by rw [← f2, List.length_map] at z; rw [List.length_map, z]; rfl)
      match splitAtByte 61 [] t, c2 with
      | [], _ => exact rfl
      | [_], _ => exact rfl
      | [_, _], c => exact absurd rfl c
      | _ :: _ :: _ :: _, _ => exact rfl
    · have c' := V.int.inj c
      rw [List.length_map] at c'
      obtain ⟨y, z, rfl⟩ : ∃ y z, ps = [y, z] := by
        match ps, c' with
        | [y, z], _ => exact ⟨y, z, rfl⟩
        | [], c => exact absurd c (by decide)
        | [_], c =>
          exfalso
          have : ((1 : Nat) : Int) = 2 := c
          omega
        | _ :: _ :: _ :: r, c =>
          exfalso
          have : ((r.length + 3 : Nat) : Int) = 2 := c
          omega
      have hs : splitAtByte 61 [] t = [y.2, z.2] := f2.symm
      rw [hs] at hq
      have m1 := split_mem 61 t [] y.2 (by rw [hs]; simp) hb Byt.nil
      have m2 := split_mem 61 t [] z.2 (by rw [hs]; simp) hb Byt.nil
      refine ⟨_, rfl, p3, _, _, _, rfl, rfl, SqL.of f1, rfl, _, rfl, y.1, y.2, rfl, f3 y (by simp), by have := m1.2; simp at this; omega, ?_⟩
      refine ⟨_, rfl, p3, _, _, _, rfl, rfl, SqL.of f1, rfl, _, rfl, z.1, z.2, rfl, f3 z (by simp), by have := m2.2; simp at this; omega, fun H2 s2 => ?_⟩
      have hq2 : ∀ (H' : Hp) (v : V), Same H H' → OptV (ChangeAt H') v (match keyOf y.2, valOf z.2 with
          | some k, some v => some (k, some v)
          | _, _ => none) → Q v H' := hq
      cases e5 : keyOf y.2 with
      | none =>
        rw [e5] at hq2
        exact ⟨_, rfl, rfl, _, rfl, ifd (fun _ => iteT (hq2 _ _ (sC.trans s2) rfl)) (fun c => absurd rfl c)⟩
      | some k =>
        refine ⟨_, rfl, rfl, _, rfl, ifd (fun c => nomatch c) (fun _ => ⟨_, rfl, rfl, _, rfl, ?_⟩)⟩
        cases e6 : valOf z.2 with
        | none =>
          rw [e5, e6] at hq2
          exact ifd (fun _ => hq2 _ _ (sC.trans s2) rfl) (fun c => absurd rfl c)
        | some v =>
          rw [e5, e6] at hq2
          refine ifd (fun c => nomatch c) (fun _ => ⟨_, rfl, _, rfl, (by show 3 ≤ sizeLine; decide), fun p5 hp5 => ?_⟩)
          exact hq2 _ _ ((sC.trans s2).up hp5) ⟨p5, rfl, upd_same⟩
  cases hlast : t.getLast? with
  | none =>
    have et : t = [] := List.getLast?_eq_none_iff.mp hlast
    subst et
    refine ⟨.list [], .list [.int 33], .lst (SqL.of (xs := []) e1) .nil, .lst (SqL.of upd_same) (.cons (.int 33) .nil), rfl, rfl, _, rfl, iteF ?_⟩
    exact other (fun z => nomatch z) rfl
  | some c =>
    obtain ⟨t0, rfl⟩ := List.getLast?_eq_some_iff.mp hlast
    have e2 : (vb (t0 ++ [c])).drop ((vb (t0 ++ [c])).length - 1) = [V.int (c : Int)] := by
      rw [vb_app, List.length_append]
      show (vb t0 ++ [V.int (c : Int)]).drop ((vb t0).length + 1 - 1) = _
      rw [Nat.add_sub_cancel, List.drop_append_of_le_length (Nat.le_refl _), List.drop_length]
      rfl
    rw [e2] at e1
    refine ⟨.list [.int (c : Int)], .list [.int 33], .lst (SqL.of e1) (.cons (.int _) .nil), .lst (SqL.of upd_same) (.cons (.int 33) .nil), rfl, rfl, _, rfl, ?_⟩
    rw [eqv_one]
    refine ifd (fun d => ?_) (fun d => ?_)
    · have d' : c = 33 := by omega
      subst d'
      rw [if_pos hlast] at hq
      exact ⟨_, rfl, _, rfl, a, _, rfl, sB _ _ ha, hl, fun H' v s hv => hq _ _ (sB.trans s) hv⟩
    · refine other (fun z => d ?_) rfl
      rw [hlast] at z
      have := Option.some.inj z
      omega
end
end TS
namespace TS
open PySem PySem.Spec PyProof.Rows L2 Vbwsai
section
variable {P : Program} {w : World} {K : PySem.W.Frag} {mg : Str → Option Value} {base : Heap} {A : Ad}
abbrev s_read_line : Stmt := top 70
theorem sc_read_line : FnScope ["line", "number", "tokens", "changes", "token", "change"] ["line", "number"] (defScope s_read_line) := ⟨rfl, rfl, rfl, by decide +kernel, rfl, by decide +kernel, by decide +kernel⟩
theorem ok_read_line (T : Txt K mg A) (F : FunAt K mg "read_line" s_read_line ["line", "number"]) (d_pieces : Fn P w K mg base 1 "pieces" ["data", "separator"] (sp_pieces K A)) (d_read_natural : Fn P w K mg base 1 "read_natural" ["digits"] (sp_read_natural K A)) (d_read_change : Fn P w K mg base 4 "read_change" ["token"] (sp_read_change K A)) : Fn P w K mg base 5 "read_line" ["line", "number"] (sp_read_line K A) := by
  obtain ⟨f, fd, F, hmg, hb⟩ := F
  refine ⟨f, fd, F.ok sc_read_line (fun vs H Q E h => ?_) (fun cdv Ar outer s H vs Q E hr h => ?_), hmg, F.kp, hb⟩
  · exact S2.len h
  refine ⟨_, (pss_cons (ps_set (i := 2) sc_read_line.nd rfl (Or.inl rfl) (pe_fn d_pieces (hr.mono (by decide)) rfl (pa_cons (pv 0) (pa_cons (pe_cst T.c_BLANK rfl) pa_nil))))
      (pss_cons (ps_if (PW.pt (pw_or (pt_cmpR op_ne (pe_fn d_read_natural (hr.mono (by decide)) rfl (pa_cons (pe_ix ix_list (pv 2) pe_int (fun _ _ => rfl)) pa_nil)) (pv 1) (nomark _)) (pw_or1 (pt_cmpR op_gt (pe_op op_sub (pe_callB call_len_seq (by rfl) T.b_len PySem.boot_len (pa_cons (pv 2) pa_nil)) pe_int) (pe_cst T.c_CHANGES_OF_A_TICK rfl) (nomark _))))) (pss_one (ps_ret pe_non))
      pss_nil)
      (pss_cons (ps_set (i := 3) sc_read_line.nd rfl (Or.inl rfl) (pe_lst pa_nil))
      (pss_cons (ps_for PassesOwn.never rfl (pi_list (pe_slice sl_list (pv 2) (po_some pe_int) po_none)) (pg_name (i := 4) sc_read_line.nd rfl (Or.inl rfl))
      (pss_cons (ps_set (i := 5) sc_read_line.nd rfl (Or.inl rfl) (pe_fn d_read_change (hr.mono (by decide)) rfl (pa_cons (pv 4) pa_nil)))
      (pss_cons (ps_if (pt_cmpR op_isN (pv 5) pe_non (nomark _)) (pss_one (ps_ret pe_non))
      pss_nil)
      (pss_one (ps_expr (pe_bm PySem.F.plainAttrs_list PySem.F.slot_list_extend PySem.F.type_list_extend mt_extend (pv 3) (pa_cons (pv 5) pa_nil)))))))
      (pss_one (ps_ret (pv 3))))))), ?_⟩
  obtain ⟨_, _, rfl, a, t, n, rfl, rfl, ha, hl, hb, hq⟩ := h
  refine ⟨_, rfl, _, _, rfl, a, t, 32, rfl, rfl, ha, hl, fun H1 p1 s1 n1 ⟨ps, f1, f2, f3⟩ => ?_⟩
  cases ps with
  | nil => exact absurd f2.symm (split_ne _ _ _)
  | cons y r =>
    have hsp : splitAtByte 32 [] t = y.2 :: r.map (·.2) := f2.symm
    have lo := lineOf_eq n hsp
    have my := split_mem 32 t [] y.2 (by rw [hsp]; simp) hb Byt.nil
    have mlen := split_len 32 t []
    rw [hsp] at mlen
    simp at mlen
    have hlist : ((y :: r).map fun y => V.ref y.1).length = r.length + 1 := by simp
    refine ⟨_, rfl, p1, _, _, _, rfl, rfl, SqL.of f1, atI_nat (j := 0) rfl, _, rfl, y.1, y.2, rfl, f3 y (by simp), by have := my.2; simp at this; omega, ?_⟩
    refine ⟨_, rfl, (by cases parseNatural y.2 <;> rfl), _, rfl, ifn (fun c => iteT ?_) (fun c => ?_)⟩
    · refine hq _ _ s1 ?_
      rw [lo, if_neg (fun z => c (by rw [z.1]; rfl))]
      exact rfl
    have c' : parseNatural y.2 = some n := by
      cases e : parseNatural y.2 with
      | none => rw [e] at c; exact nomatch c
      | some m =>
        rw [e] at c
        have : (m : Int) = (n : Int) := V.int.inj c
        rw [show m = n by omega]
    refine ⟨_, rfl, p1, _, rfl, .inl (SqL.of f1), _, _, rfl, rfl, _, _, rfl, rfl, _, rfl, ifd (fun d => ?_) (fun d => ?_)⟩
    · rw [hlist] at d
      refine hq _ _ s1 ?_
      rw [lo, if_neg (fun z => by have := z.2; rw [List.length_map] at this; omega)]
      exact rfl
    rw [hlist] at d
    rw [if_pos ⟨c', by rw [List.length_map]; omega⟩] at lo
    refine ⟨Nat.zero_le _, fun p2 hp2 => ?_⟩
    have s2 : Same H (upd H1 p2 (.lst [])) := s1.up hp2
    have t2 : Same H1 (upd H1 p2 (.lst [])) := same_upd hp2
    refine ⟨_, rfl, _, rfl, p1, _, rfl, SqL.of (t2 _ _ f1), fun p3 hp3 => ?_⟩
    have ec : cutV ((y :: r).map fun y => V.ref y.1) (some 1) none = r.map fun y => V.ref y.1 := cut_lo _ 1
    rw [ec]
    have n23 : p2 ≠ p3 := ne_of_none upd_same hp3
    have yne : ∀ z ∈ r, z.1 ≠ p2 := fun z hz => ne_of_none (f3 z (List.mem_cons_of_mem _ hz)) hp2
    have t3 : Same (upd H1 p2 (.lst [])) (upd (upd H1 p2 (.lst [])) p3 (.lst (r.map fun y => V.ref y.1))) := same_upd hp3
    have s3 := s2.trans t3
    refine ⟨p3, rfl, ⟨_, SqL.of upd_same⟩, for_list (K := K) (a := p3) (xs := r.map fun y => V.ref y.1)
      (fun i σ H' => ∃ (cs : List Change) (v4 v5 : Option V), σ = [some (.ref a), some (.int (n : Int)), some (.ref p1), some (.ref p2), v4, v5] ∧ Same H H' ∧ H' p3 = some (.lst (r.map fun y => V.ref y.1)) ∧ H' p2 = some (.lst (vi (flatC cs))) ∧
          cs.length = i ∧ (∀ z ∈ r, H' z.1 = some (.lst (vb z.2))) ∧ parseChangeTokens (r.map (·.2)) = (parseChangeTokens ((r.drop i).map (·.2))).map fun l => cs ++ l)
      ⟨[], none, none, rfl, s3, upd_same, by rw [upd_ne n23]; exact upd_same, rfl, fun z hz => t3 _ _ (t2 _ _ (f3 z (List.mem_cons_of_mem _ hz))), ?_⟩
      (fun i σ H' _ ⟨_, _, _, _, _, e3, _⟩ => SqL.of e3) ?_ ?_⟩
    · rw [List.drop_zero]
      cases parseChangeTokens (r.map (·.2)) <;> rfl
    · rintro i v0 σ H' hi ⟨cs, v4, v5, rfl, s4, e3, e2, hcl, hz, hp⟩
      obtain ⟨z, hzi, rfl⟩ := refs_inv hi
      have zm : z ∈ r := List.mem_of_getElem? hzi
      have hir := lt_of_get hzi
      rw [drop_one hzi, List.map_cons, tokens_cons] at hp
      have mz := split_mem 32 t [] z.2 (by rw [hsp]; exact List.mem_cons_of_mem _ (List.mem_map.mpr ⟨z, zm, rfl⟩)) hb Byt.nil
      refine ⟨_, rfl, _, rfl, z.1, z.2, rfl, hz z zm, by have := mz.2; simp at this; omega, mz.1, fun H5 v s5 hv => ?_⟩
      cases e : parseChange z.2 with
      | none =>
        rw [e] at hv hp
        obtain rfl : v = V.non := hv
        refine ⟨_, rfl, rfl, _, rfl, ifd (fun _ => hq _ _ (s4.trans s5) ?_) (fun c => absurd rfl c)⟩
        rw [lo, hp]
        exact rfl
      | some c =>
        rw [e] at hv hp
        obtain ⟨q, rfl, hq5⟩ := hv
        refine ⟨_, rfl, rfl, _, rfl, ifd (fun c => nomatch c) (fun _ => ?_)⟩
        refine ⟨_, rfl, .inl ⟨rfl, _, SqL.of (s5 _ _ e2)⟩, _, rfl, p2, q, _, _, rfl, rfl, s5 _ _ e2, hq5, ?_, ?_⟩
        · rw [vi_len, vi_len, flatC_len, flatC_len]
          exact lim_sz' (by simp; omega)
        · have k : ∀ (b : Addr) (o : HO), H' b = some o → b ≠ p2 → upd H5 p2 (.lst (vi (flatC cs) ++ vi (flatC [c]))) b = some o := fun b o hb hne => by rw [upd_ne hne]; exact s5 _ _ hb
          refine ⟨cs ++ [c], _, _, rfl, (s4.trans s5).wr (s1.free hp2), k _ _ e3 n23.symm, ?_, by simp [hcl], fun w hw => k _ _ (hz w hw) (yne w hw), ?_⟩
          · rw [upd_same]
            have : flatC (cs ++ [c]) = flatC cs ++ flatC [c] := List.flatMap_append
            rw [this, vi_app]
          · rw [hp]
            cases parseChangeTokens ((r.drop (i + 1)).map (·.2)) with
            | none => rfl
            | some l => show some (cs ++ (c :: l)) = some (cs ++ [c] ++ l); rw [List.append_assoc]; rfl
    · rintro σ H' ⟨cs, v4, v5, rfl, s4, e3, e2, hcl, hz, hp⟩
      rw [List.length_map, List.drop_length] at hp
      refine ⟨_, rfl, hq _ _ s4 ?_⟩
      rw [lo, hp]
      show ChangesAt H' (.ref p2) (cs ++ [])
      rw [List.append_nil]
      exact ⟨p2, rfl, e2⟩
end
end TS
namespace TS
open PySem PySem.Spec PyProof.Rows L2 Vbwsai
section
variable {P : Program} {w : World} {K : PySem.W.Frag} {mg : Str → Option Value} {base : Heap} {A : Ad}
abbrev s_OldJournal_init : Stmt := inClass (top 71) 0
theorem sc_OldJournal_init : FnScope ["self", "tick_number", "entries", "invalid_line"] ["self", "tick_number", "entries", "invalid_line"] (defScope s_OldJournal_init) := ⟨rfl, rfl, rfl, by decide +kernel, rfl, by decide +kernel, by decide +kernel⟩
theorem ok_OldJournal_init (T : Txt K mg A) (F : FunM K A.OldJournal "__init__" "OldJournal.__init__" s_OldJournal_init ["self", "tick_number", "entries", "invalid_line"])  : Me P w K mg base 1 A.OldJournal "__init__" ["self", "tick_number", "entries", "invalid_line"] (sp_OldJournal_init K A) := by
  obtain ⟨f, fd, F, hmg, hb⟩ := F
  refine ⟨f, fd, F.ok sc_OldJournal_init (fun vs H Q E h => ?_) (fun cdv Ar outer s H vs Q E hr h => ?_), hmg, hb⟩
  · exact S4.len h
  refine ⟨_, (pss_cons (ps_fld (pv 0) (pv 1) rfl)
      (pss_cons (ps_fld (pv 0) (pv 2) rfl)
      (pss_one (ps_fld (pv 0) (pv 3) rfl)))), ?_⟩
  obtain ⟨_, _, _, _, rfl, p, dx, t, e, inv, rfl, rfl, rfl, rfl, hp, hq⟩ := h
  refine ⟨_, rfl, _, rfl, p, A.OldJournal, dx, _, rfl, hp, T.k_OldJournal, T.o_tick_number, (by show 0 < 1000; decide), ?_⟩
  refine ⟨_, rfl, _, rfl, p, A.OldJournal, dx, _, rfl, upd_same, T.k_OldJournal, T.o_entries, (by rw [pf_new]; show 1 < 1000; decide), ?_⟩
  refine ⟨_, rfl, _, rfl, p, A.OldJournal, dx, _, rfl, upd_same, T.k_OldJournal, T.o_invalid_line, (by rw [pf_new, pf_past (by decide +kernel)]; show 2 < 1000; decide), ?_⟩
  rw [upd_upd, upd_upd, oF_made]
  exact hq
end
end TS
namespace TS
open PySem PySem.Spec PyProof.Rows L2 Vbwsai
section
variable {P : Program} {w : World} {K : PySem.W.Frag} {mg : Str → Option Value} {base : Heap} {A : Ad}
abbrev s_read_old_journal : Stmt := top 72
theorem sc_read_old_journal : FnScope ["text", "entries", "tick_number", "line", "changes"] ["text"] (defScope s_read_old_journal) := ⟨rfl, rfl, rfl, by decide +kernel, rfl, by decide +kernel, by decide +kernel⟩
theorem ok_read_old_journal (T : Txt K mg A) (F : FunAt K mg "read_old_journal" s_read_old_journal ["text"]) (d_ended_lines : Fn P w K mg base 2 "ended_lines" ["text"] (sp_ended_lines K A)) (d_read_line : Fn P w K mg base 5 "read_line" ["line", "number"] (sp_read_line K A)) (d_OldJournal : Mak P w K mg base 1 "OldJournal" A.OldJournal ["self", "tick_number", "entries", "invalid_line"] (sp_OldJournal_init K A)) (d_changed_entries : Fn P w K mg base 1 "changed_entries" ["entries", "changes"] (sp_changed_entries K A)) : Fn P w K mg base 6 "read_old_journal" ["text"] (sp_read_old_journal K A) := by
  obtain ⟨f, fd, F, hmg, hb⟩ := F
  refine ⟨f, fd, F.ok sc_read_old_journal (fun vs H Q E h => ?_) (fun cdv Ar outer s H vs Q E hr h => ?_), hmg, F.kp, hb⟩
  · exact S1.len h
  refine ⟨_, (pss_cons (ps_set (i := 1) sc_read_old_journal.nd rfl (Or.inl rfl) pe_dnewK)
      (pss_cons (ps_set (i := 2) sc_read_old_journal.nd rfl (Or.inl rfl) pe_int)
      (pss_cons (ps_for PassesOwn.never rfl (pi_list (pe_fn d_ended_lines (hr.mono (by decide)) rfl (pa_cons (pv 0) pa_nil))) (pg_name (i := 3) sc_read_old_journal.nd rfl (Or.inl rfl))
      (pss_cons (ps_set (i := 4) sc_read_old_journal.nd rfl (Or.inl rfl) (pe_fn d_read_line (hr.mono (by decide)) rfl (pa_cons (pv 3) (pa_cons (pe_op op_add (pv 2) pe_int) pa_nil))))
      (pss_cons (ps_if (pt_cmpR op_isN (pv 4) pe_non (nomark _)) (pss_one (ps_ret (pe_mk d_OldJournal (hr.mono (by decide)) rfl (pa_cons (pv 2) (pa_cons (pv 1) (pa_cons (pe_op op_add (pv 2) pe_int) pa_nil))))))
      pss_nil)
      (pss_cons (ps_aug (i := 2) sc_read_old_journal.nd rfl (Or.inl rfl) pe_int ip_add)
      (pss_one (ps_set (i := 1) sc_read_old_journal.nd rfl (Or.inl rfl) (pe_fn d_changed_entries (hr.mono (by decide)) rfl (pa_cons (pv 1) (pa_cons (pv 4) pa_nil)))))))))
      (pss_one (ps_ret (pe_mk d_OldJournal (hr.mono (by decide)) rfl (pa_cons (pv 2) (pa_cons (pv 1) (pa_cons pe_non pa_nil))))))))), ?_⟩
  obtain ⟨_, rfl, a, d, rfl, ha, hl, hb, hq⟩ := h
  refine fun e0 he0 => ?_
  have s0 : Same H (upd H e0 (.dK [])) := same_upd he0
  refine ⟨_, rfl, _, rfl, a, d, rfl, s0 _ _ ha, hl, fun H1 p1 s1 n1 ⟨ps, f1, f2, f3⟩ => ?_⟩
  have lenp : ps.length ≤ 100001 := by
    have h1 := split_len 10 d []
    have h2 := congrArg List.length f2
    rw [List.length_map, List.length_dropLast] at h2
    omega
  have sH1 : Same H H1 := s0.trans s1
  have byt : ∀ y ∈ ps, Byt y.2 ∧ y.2.length ≤ 100000 := fun y hy => by
    have h1 : y.2 ∈ (splitAtByte 10 [] d).dropLast := by rw [← f2]; exact List.mem_map.mpr ⟨y, hy, rfl⟩
    have h2 := split_mem 10 d [] y.2 ((List.dropLast_sublist _).subset h1) hb Byt.nil
    exact ⟨h2.1, by have := h2.2; simp at this; omega⟩
  have make : ∀ (H' : Hp) (i : Nat) (e : Addr) (kvs : List (Key × V)) (st : Store) (inv : V), Same H H' → H e = none → H' e = some (.dK kvs) → Ent kvs st → i ≤ 200000 → ImpOk d i st inv →
      ∀ (x dx : Addr), H' x = none → H' dx = none → dx ≠ x → sp_OldJournal_init K A [.ref x, .int (i : Int), .ref e, inv] (upd (upd H' dx (.own x)) x (.ins A.OldJournal dx [])) (fun v H2 => v = .non ∧ Q (.ref x) H2) E0 := by
    intro H' i e kvs st inv hs hn he hent hi himp x dx nx ndx nex
    refine ⟨_, _, _, _, rfl, x, dx, i, e, inv, rfl, rfl, rfl, rfl, upd_same, rfl, ?_⟩
    have nx' : upd H' dx (.own x) x = none := by rw [upd_ne nex.symm]; exact nx
    rw [upd_upd]
    refine hq _ x dx e i kvs st inv ((hs.up ndx).up nx') upd_same ?_ hent hn hi himp
    rw [upd_ne (ne_of_none he nx), upd_ne (ne_of_none he ndx)]
    exact he
  refine ⟨p1, rfl, ⟨_, SqL.of f1⟩, for_list (K := K) (a := p1) (xs := ps.map fun y => V.ref y.1)
    (fun i σ H' => ∃ (e : Addr) (kvs : List (Key × V)) (st : Store) (v3 v4 : Option V), σ = [some (.ref a), some (.ref e), some (.int (i : Int)), v3, v4] ∧ Same H1 H' ∧ H e = none ∧ H' e = some (.dK kvs) ∧ Ent kvs st ∧ importText d = importLines i st ((ps.drop i).map (·.2)))
    ⟨e0, [], [], none, none, rfl, Same.refl H1, he0, s1 _ _ upd_same, Ent.nil, by unfold importText; rw [← f2, List.drop_zero]⟩
    (fun i σ H' _ ⟨_, _, _, _, _, _, s2, _⟩ => SqL.of (s2 _ _ f1)) ?_ ?_⟩
  · rintro i v0 σ H' hi ⟨e, kvs, st, v3, v4, rfl, s2, hen, he, hent, him⟩
    obtain ⟨y, hy, rfl⟩ := refs_inv hi
    have ym := List.mem_of_getElem? hy
    have hil := lt_of_get hy
    rw [drop_one hy, List.map_cons, import_cons _ _ _ _ (by omega)] at him
    obtain ⟨yb, yl⟩ := byt y ym
    refine ⟨_, rfl, _, rfl, _, _, rfl, rfl, _, _, rfl, y.1, y.2, i + 1, rfl, rfl, s2 _ _ (f3 y ym), yl, yb, fun H2 v s3 hv => ?_⟩
    cases e5 : lineOf y.2 (i + 1) with
    | none =>
      rw [e5] at hv him
      obtain rfl : v = V.non := hv
      refine ⟨_, rfl, rfl, _, rfl, ifd (fun _ => ?_) (fun c => absurd rfl c)⟩
      refine ⟨_, rfl, _, rfl, _, rfl, _, _, rfl, rfl, ?_⟩
      refine make H2 i e kvs st (.int ((i : Int) + 1)) ((sH1.trans s2).trans s3) hen (s3 _ _ he) hent (by omega) ?_
      unfold ImpOk
      rw [him]
      exact rfl
    | some cs =>
      rw [e5] at hv him
      obtain ⟨q, rfl, hq5⟩ := hv
      obtain ⟨ok1, ok2⟩ := lineOf_ok e5
      refine ⟨_, rfl, rfl, _, rfl, ifd (fun c => nomatch c) (fun _ => ?_)⟩
      refine ⟨_, rfl, _, _, rfl, rfl, ?_⟩
      refine ⟨_, rfl, _, rfl, _, _, rfl, e, q, kvs, st, flatC cs, cs, rfl, rfl, s3 _ _ he, hent, hq5, by rw [flatC_len]; omega, parse_flatC ok1, fun H3 p3 kv3 s4 n3 e3 en3 => ?_⟩
      exact ⟨p3, kv3, _, _, _, rfl, (s2.trans s3).trans s4, ((sH1.trans s2).trans s3).free n3, e3, en3, him⟩
  · rintro σ H' ⟨e, kvs, st, v3, v4, rfl, s2, hen, he, hent, him⟩
    rw [List.length_map, List.drop_length] at him
    refine ⟨_, rfl, _, rfl, ?_⟩
    refine make H' _ e kvs st .non (sH1.trans s2) hen he hent (by rw [List.length_map]; omega) ?_
    unfold ImpOk
    rw [him]
    exact ⟨by rw [List.length_map], rfl, rfl⟩
end
end TS
namespace TS
open PySem PySem.Spec PyProof.Rows L2 Vbwsai
section
variable {P : Program} {w : World} {K : PySem.W.Frag} {mg : Str → Option Value} {base : Heap} {A : Ad}
abbrev s_import_journal : Stmt := top 74
theorem sc_import_journal : FnScope ["session", "text", "journal"] ["session", "text"] (defScope s_import_journal) := ⟨rfl, rfl, rfl, by decide +kernel, rfl, by decide +kernel, by decide +kernel⟩
theorem ok_import_journal (T : Txt K mg A) (F : FunAt K mg "import_journal" s_import_journal ["session", "text"]) (d_read_old_journal : Fn P w K mg base 6 "read_old_journal" ["text"] (sp_read_old_journal K A)) (d_start_anew : Me P w K mg base 6 A.Session "start_anew" ["self", "tick_number", "entries"] (sp_start_anew K A)) : Fn P w K mg base 7 "import_journal" ["session", "text"] (sp_import_journal K A) := by
  obtain ⟨f, fd, F, hmg, hb⟩ := F
  refine ⟨f, fd, F.ok sc_import_journal (fun vs H Q E h => ?_) (fun cdv Ar outer s H vs Q E hr h => ?_), hmg, F.kp, hb⟩
  · exact S2.len h
  refine ⟨_, (pss_cons (ps_if (pt_cmpR op_isN (pe_fld (pv 0) rfl) pe_non (nomark _)) (pss_one (ps_ret (pe_lst (pa_cons (pe_cst T.c_NO_POWER rfl) pa_nil))))
      pss_nil)
      (pss_cons (ps_set (i := 2) sc_import_journal.nd rfl (Or.inl rfl) (pe_fn d_read_old_journal (hr.mono (by decide)) rfl (pa_cons (pv 1) pa_nil)))
      (pss_cons (ps_if (pt_cmpR op_notN (pe_fld (pv 2) rfl) pe_non (nomark _)) (pss_one (ps_ret (pe_lst (pa_cons (pe_cst T.c_INVALID_LINE rfl) pa_nil))))
      pss_nil)
      (pss_cons (ps_expr (pe_me d_start_anew T.k_Session (pv 0) (hr.mono (by decide)) (pa_cons (pe_fld (pv 2) rfl) (pa_cons (pe_fld (pv 2) rfl) pa_nil))))
      (pss_one (ps_ret (pe_lst (pa_cons pe_int (pa_cons (pe_fld (pv 2) rfl) (pa_cons (pe_callB call_lenD (by rfl) T.b_len PySem.boot_len (pa_cons (pe_fld (pv 2) rfl) pa_nil)) pa_nil)))))))))), ?_⟩
  obtain ⟨_, _, rfl, H0, p, st, a, d, rfl, rfl, ⟨hs, n, hn, hg⟩, ha, hl, hb, hq⟩ := h
  have un : Vbwsai.step st (.importJournal d) = (if st.powered = false then Vbwsai.fail st 7 else match importText d with
      | .error _ => Vbwsai.fail st 2
      | .ok (t, w) => Vbwsai.succeed (initializedWith t w) [(t : Int), (w.length : Int)]) := rfl
  rw [un] at hq
  cases hp : st.powered with
  | false =>
    obtain ⟨dx, F, ps, ho⟩ := ses_off hs hp
    rw [hp, if_pos rfl] at hq
    refine ⟨_, rfl, p, A.Session, dx, _, _, rfl, ho.hx, T.k_Session, T.s_memory, sF_mem, ?_⟩
    exact ⟨rfl, _, rfl, ifd (fun _ => ⟨(by show 1 ≤ sizeLine; decide), ans hs hq⟩) (fun c => absurd rfl c)⟩
  | true =>
    obtain ⟨dx, F, ps, m, dm, e0, kvs0, pd, ho⟩ := ses_on hs hp
    rw [hp, if_neg (fun z => nomatch z)] at hq
    refine ⟨_, rfl, p, A.Session, dx, _, _, rfl, ho.hx, T.k_Session, T.s_memory, sF_mem, ?_⟩
    refine ⟨rfl, _, rfl, ifd (fun c => nomatch c) (fun _ => ?_)⟩
    refine ⟨_, rfl, _, rfl, a, d, rfl, ha, hl, hb, fun H1 x xdx e t kvs s0 inv s1 hx he hent hen ht himp => ?_⟩
    unfold ImpOk at himp
    refine ⟨_, rfl, x, A.OldJournal, xdx, _, _, rfl, hx, T.k_OldJournal, T.o_invalid_line, oF_inv _ _ _, rfl, _, rfl, ?_⟩
    cases h5 : importText d with
    | error n =>
      rw [h5] at himp hq
      obtain rfl : inv = V.int (n : Int) := himp
      exact ifn (fun _ => ⟨(by show 1 ≤ sizeLine; decide), ans (ses_same hs s1) hq⟩) (fun c => nomatch c)
    | ok y =>
      obtain ⟨t', w0⟩ := y
      rw [h5] at himp hq
      obtain ⟨rfl, rfl, rfl⟩ : t' = t ∧ w0 = s0 ∧ inv = V.non := himp
      refine ifn (fun c => absurd rfl c) (fun _ => ?_)
      refine ⟨_, rfl, p, dx, _, rfl, s1 _ _ ho.hx, sF_no (by decide +kernel) (by decide +kernel) (by decide +kernel), ?_⟩
      refine ⟨_, rfl, x, A.OldJournal, xdx, _, _, rfl, hx, T.k_OldJournal, T.o_tick_number, oF_tick _ _ _, ?_⟩
      refine ⟨_, rfl, x, A.OldJournal, xdx, _, _, rfl, hx, T.k_OldJournal, T.o_entries, oF_ents _ _ _, ?_⟩
      refine ⟨_, _, _, rfl, p, dx, _, t', e, kvs, w0, rfl, rfl, rfl, s1 _ _ ho.hx, .inr ⟨F, _, _, rfl⟩, he, hent, by unfold Sm; omega, fun H2 F2 ps2 m2 dm2 k hp2 fl hm mn => ?_⟩
      have xp : x ≠ p := fun z => by
        rw [z, s1 _ _ ho.hx] at hx
        injection (Option.some.inj hx) with _ _ z2
        have := (List.cons.inj z2).1
        have this2 : ("tick_number" : Str) = "files" ∨ ("files" : Str) = "tick_number" := by first | exact .inl (congrArg Prod.fst this) | exact .inr (congrArg Prod.fst this)
        exact absurd this2 (by decide +kernel)
      have ep : e ≠ p := fun z => by rw [z, s1 _ _ ho.hx] at he; exact nomatch (Option.some.inj he)
      have hses := ses_new (ho.s0.trans s1) ho.x0 (s1 _ _ ho.hx) he (ho.s0.free hen) hent k hp2 fl hm mn
      refine ⟨_, rfl, x, A.OldJournal, xdx, _, _, rfl, k _ _ hx xp, T.k_OldJournal, T.o_tick_number, oF_tick _ _ _, ?_⟩
      refine ⟨_, rfl, x, A.OldJournal, xdx, _, _, rfl, k _ _ hx xp, T.k_OldJournal, T.o_entries, oF_ents _ _ _, e, kvs, rfl, k _ _ he ep, (by show 3 ≤ sizeLine; decide), ?_⟩
      rw [hent.len.1]
      exact ans hses hq
end
end TS
namespace TS
open PySem PySem.Spec PyProof.Rows L2 Vbwsai
section
variable {P : Program} {w : World} {K : PySem.W.Frag} {mg : Str → Option Value} {base : Heap} {A : Ad}
abbrev s_preview_import : Stmt := top 75
theorem sc_preview_import : FnScope ["text", "journal"] ["text"] (defScope s_preview_import) := ⟨rfl, rfl, rfl, by decide +kernel, rfl, by decide +kernel, by decide +kernel⟩
theorem ok_preview_import (T : Txt K mg A) (F : FunAt K mg "preview_import" s_preview_import ["text"]) (d_read_old_journal : Fn P w K mg base 6 "read_old_journal" ["text"] (sp_read_old_journal K A)) (d_entry_numbers : Fn P w K mg base 1 "entry_numbers" ["entries"] (sp_entry_numbers K A)) : Fn P w K mg base 7 "preview_import" ["text"] (sp_preview_import K A) := by
  obtain ⟨f, fd, F, hmg, hb⟩ := F
  refine ⟨f, fd, F.ok sc_preview_import (fun vs H Q E h => ?_) (fun cdv Ar outer s H vs Q E hr h => ?_), hmg, F.kp, hb⟩
  · exact S1.len h
  refine ⟨_, (pss_cons (ps_set (i := 1) sc_preview_import.nd rfl (Or.inl rfl) (pe_fn d_read_old_journal (hr.mono (by decide)) rfl (pa_cons (pv 0) pa_nil)))
      (pss_cons (ps_if (pt_cmpR op_notN (pe_fld (pv 1) rfl) pe_non (nomark _)) (pss_one (ps_ret (pe_lst (pa_cons pe_int (pa_cons pe_int (pa_cons (pe_fld (pv 1) rfl) pa_nil))))))
      pss_nil)
      (pss_one (ps_ret (pe_op op_cat (pe_lst (pa_cons pe_int (pa_cons pe_int (pa_cons (pe_fld (pv 1) rfl) pa_nil)))) (pe_fn d_entry_numbers (hr.mono (by decide)) rfl (pa_cons (pe_fld (pv 1) rfl) pa_nil))))))), ?_⟩
  obtain ⟨_, rfl, a, d, rfl, ha, hl, hb, hq⟩ := h
  refine ⟨_, rfl, _, rfl, a, d, rfl, ha, hl, hb, fun H1 x dx e t kvs s0 inv s1 hx he hent hen ht himp => ?_⟩
  unfold ImpOk at himp
  refine ⟨_, rfl, x, A.OldJournal, dx, _, _, rfl, hx, T.k_OldJournal, T.o_invalid_line, oF_inv _ _ _, rfl, _, rfl, ?_⟩
  cases h5 : importText d with
  | error n =>
    rw [h5] at himp hq
    obtain rfl : inv = V.int (n : Int) := himp
    refine ifn (fun _ => ?_) (fun c => nomatch c)
    refine ⟨_, rfl, x, A.OldJournal, dx, _, _, rfl, hx, T.k_OldJournal, T.o_invalid_line, oF_inv _ _ _, (by show 3 ≤ sizeLine; decide), fun p hp => ?_⟩
    exact hq _ p (s1.up hp) (s1.free hp) upd_same
  | ok y =>
    obtain ⟨t', w0⟩ := y
    rw [h5] at himp hq
    obtain ⟨rfl, rfl, rfl⟩ : t' = t ∧ w0 = s0 ∧ inv = V.non := himp
    refine ifn (fun c => absurd rfl c) (fun _ => ?_)
    refine ⟨_, rfl, x, A.OldJournal, dx, _, _, rfl, hx, T.k_OldJournal, T.o_tick_number, oF_tick _ _ _, (by show 3 ≤ sizeLine; decide), fun q hq1 => ?_⟩
    have t1 : Same H1 (upd H1 q (.lst [.int 0, .int 1, .int (t' : Int)])) := same_upd hq1
    refine ⟨_, rfl, x, A.OldJournal, dx, _, _, rfl, t1 _ _ hx, T.k_OldJournal, T.o_entries, oF_ents _ _ _, _, rfl, e, kvs, w0, rfl, t1 _ _ he, hent, fun H2 r s2 n2 e2 => ⟨q, r, _, _, rfl, rfl, s2 _ _ upd_same, e2, ?_, fun p hp => ?_⟩⟩
    · have := hent.len
      rw [vi_len, flatS_len]
      exact lim_sz' (by show 3 + _ ≤ _; omega)
    · refine hq _ p (((s1.trans t1).trans s2).up hp) (((s1.trans t1).trans s2).free hp) ?_
      rw [upd_same, vi_app]
      rfl
end
end TS
namespace TS
open PySem PySem.Spec PyProof.Rows L2 Vbwsai
section
variable {P : Program} {w : World} {K : PySem.W.Frag} {mg : Str → Option Value} {base : Heap} {A : Ad}
abbrev s_checkpoint_file : Stmt := top 77
theorem sc_checkpoint_file : FnScope ["side"] ["side"] (defScope s_checkpoint_file) := ⟨rfl, rfl, rfl, by decide +kernel, rfl, by decide +kernel, by decide +kernel⟩
theorem ok_checkpoint_file (T : Txt K mg A) (F : FunAt K mg "checkpoint_file" s_checkpoint_file ["side"])  : Fn P w K mg base 1 "checkpoint_file" ["side"] (sp_checkpoint_file K A) := by
  obtain ⟨f, fd, F, hmg, hb⟩ := F
  refine ⟨f, fd, F.ok sc_checkpoint_file (fun vs H Q E h => ?_) (fun cdv Ar outer s H vs Q E hr h => ?_), hmg, F.kp, hb⟩
  · exact S1.len h
  refine ⟨_, (pss_one (ps_ret (pv 0))), ?_⟩
  obtain ⟨_, rfl, n, rfl, hq⟩ := h
  exact ⟨_, rfl, hq⟩
end
end TS
namespace TS
open PySem PySem.Spec PyProof.Rows L2 Vbwsai
section
variable {P : Program} {w : World} {K : PySem.W.Frag} {mg : Str → Option Value} {base : Heap} {A : Ad}
abbrev s_journal_file : Stmt := top 78
theorem sc_journal_file : FnScope ["side"] ["side"] (defScope s_journal_file) := ⟨rfl, rfl, rfl, by decide +kernel, rfl, by decide +kernel, by decide +kernel⟩
theorem ok_journal_file (T : Txt K mg A) (F : FunAt K mg "journal_file" s_journal_file ["side"])  : Fn P w K mg base 1 "journal_file" ["side"] (sp_journal_file K A) := by
  obtain ⟨f, fd, F, hmg, hb⟩ := F
  refine ⟨f, fd, F.ok sc_journal_file (fun vs H Q E h => ?_) (fun cdv Ar outer s H vs Q E hr h => ?_), hmg, F.kp, hb⟩
  · exact S1.len h
  refine ⟨_, (pss_one (ps_ret (pe_op op_add pe_int (pv 0)))), ?_⟩
  obtain ⟨_, rfl, n, rfl, hq⟩ := h
  exact ⟨_, rfl, _, _, rfl, rfl, hq⟩
end
end TS
namespace TS
open PySem PySem.Spec PyProof.Rows L2 Vbwsai
section
variable {P : Program} {w : World} {K : PySem.W.Frag} {mg : Str → Option Value} {base : Heap} {A : Ad}
abbrev s_commit_file : Stmt := top 79
theorem sc_commit_file : FnScope ["number"] ["number"] (defScope s_commit_file) := ⟨rfl, rfl, rfl, by decide +kernel, rfl, by decide +kernel, by decide +kernel⟩
theorem ok_commit_file (T : Txt K mg A) (F : FunAt K mg "commit_file" s_commit_file ["number"])  : Fn P w K mg base 1 "commit_file" ["number"] (sp_commit_file K A) := by
  obtain ⟨f, fd, F, hmg, hb⟩ := F
  refine ⟨f, fd, F.ok sc_commit_file (fun vs H Q E h => ?_) (fun cdv Ar outer s H vs Q E hr h => ?_), hmg, F.kp, hb⟩
  · exact S1.len h
  refine ⟨_, (pss_one (ps_ret (pe_op op_add pe_int (pe_op op_mod (pv 0) pe_int)))), ?_⟩
  obtain ⟨_, rfl, n, rfl, hq⟩ := h
  exact ⟨_, rfl, _, _, rfl, rfl, (by show (0 : Int) < 2; decide), _, _, rfl, rfl, hq⟩
end
end TS
namespace TS
open PySem PySem.Spec PyProof.Rows L2 Vbwsai
section
variable {P : Program} {w : World} {K : PySem.W.Frag} {mg : Str → Option Value} {base : Heap} {A : Ad}
abbrev s_new_files : Stmt := top 80
theorem sc_new_files : FnScope ["tick_number", "entries", "files"] ["tick_number", "entries"] (defScope s_new_files) := ⟨rfl, rfl, rfl, by decide +kernel, rfl, by decide +kernel, by decide +kernel⟩
theorem ok_new_files (T : Txt K mg A) (F : FunAt K mg "new_files" s_new_files ["tick_number", "entries"]) (d_frame : Fn P w K mg base 4 "frame" ["row"] (sp_frame K A)) (d_checkpoint_row : Fn P w K mg base 2 "checkpoint_row" ["number", "entries"] (sp_checkpoint_row K A)) (d_checkpoint_file : Fn P w K mg base 1 "checkpoint_file" ["side"] (sp_checkpoint_file K A)) (d_commit_file : Fn P w K mg base 1 "commit_file" ["number"] (sp_commit_file K A)) : Fn P w K mg base 5 "new_files" ["tick_number", "entries"] (sp_new_files K A) := by
  obtain ⟨f, fd, F, hmg, hb⟩ := F
  refine ⟨f, fd, F.ok sc_new_files (fun vs H Q E h => ?_) (fun cdv Ar outer s H vs Q E hr h => ?_), hmg, F.kp, hb⟩
  · exact S2.len h
  refine ⟨_, (pss_cons (ps_set (i := 2) sc_new_files.nd rfl (Or.inl rfl) (pe_lst (pa_cons (pe_lst pa_nil) (pa_cons (pe_lst pa_nil) (pa_cons (pe_lst pa_nil) (pa_cons (pe_lst pa_nil) (pa_cons (pe_lst pa_nil) (pa_cons (pe_lst pa_nil) pa_nil))))))))
      (pss_cons (ps_asg (pe_fn d_frame (hr.mono (by decide)) rfl (pa_cons (pe_fn d_checkpoint_row (hr.mono (by decide)) rfl (pa_cons (pv 0) (pa_cons (pv 1) pa_nil))) pa_nil)) (pg_sub (pv 2) (pe_fn d_checkpoint_file (hr.mono (by decide)) rfl (pa_cons pe_int pa_nil)) set_list))
      (pss_cons (ps_asg (pe_fn d_frame (hr.mono (by decide)) rfl (pa_cons (pe_lst (pa_cons pe_int (pa_cons pe_int pa_nil))) pa_nil)) (pg_sub (pv 2) (pe_fn d_commit_file (hr.mono (by decide)) rfl (pa_cons pe_int pa_nil)) set_list))
      (pss_one (ps_ret (pv 2)))))), ?_⟩
  obtain ⟨_, _, rfl, t, e, kvs, s0, rfl, rfl, he, hent, hsm, hq⟩ := h
  refine ⟨Nat.zero_le _, fun a0 h0 => ⟨Nat.zero_le _, fun a1 h1 => ⟨Nat.zero_le _, fun a2 h2 => ⟨Nat.zero_le _, fun a3 h3 => ⟨Nat.zero_le _, fun a4 h4 => ⟨Nat.zero_le _, fun a5 h5 => ⟨(by show 6 ≤ sizeLine; decide), fun F hF => ?_⟩⟩⟩⟩⟩⟩⟩
  have t0 := same_upd (o := .lst []) h0
  have t1 := same_upd (o := .lst []) h1
  have t2 := same_upd (o := .lst []) h2
  have t3 := same_upd (o := .lst []) h3
  have t4 := same_upd (o := .lst []) h4
  have t5 := same_upd (o := .lst []) h5
  generalize hG0 : upd H a0 (.lst []) = G0 at *
  generalize hG1 : upd G0 a1 (.lst []) = G1 at *
  generalize hG2 : upd G1 a2 (.lst []) = G2 at *
  generalize hG3 : upd G2 a3 (.lst []) = G3 at *
  generalize hG4 : upd G3 a4 (.lst []) = G4 at *
  generalize hG5 : upd G4 a5 (.lst []) = G5 at *
  have e0 : G0 a0 = some (.lst []) := by rw [← hG0]; exact upd_same
  have e1 : G1 a1 = some (.lst []) := by rw [← hG1]; exact upd_same
  have e2 : G2 a2 = some (.lst []) := by rw [← hG2]; exact upd_same
  have e3 : G3 a3 = some (.lst []) := by rw [← hG3]; exact upd_same
  have e4 : G4 a4 = some (.lst []) := by rw [← hG4]; exact upd_same
  have e5 : G5 a5 = some (.lst []) := by rw [← hG5]; exact upd_same
  have tF : Same G5 (upd G5 F (.lst [.ref a0, .ref a1, .ref a2, .ref a3, .ref a4, .ref a5])) := same_upd hF
  have s6 := (((((t0.trans t1).trans t2).trans t3).trans t4).trans t5).trans tF
  have n01 : a0 ≠ a1 := ne_of_none e0 h1
  have n02 : a0 ≠ a2 := ne_of_none (t1 _ _ e0) h2
  have n03 : a0 ≠ a3 := ne_of_none (t2 _ _ (t1 _ _ e0)) h3
  have n04 : a0 ≠ a4 := ne_of_none (t3 _ _ (t2 _ _ (t1 _ _ e0))) h4
  have n05 : a0 ≠ a5 := ne_of_none (t4 _ _ (t3 _ _ (t2 _ _ (t1 _ _ e0)))) h5
  have n12 : a1 ≠ a2 := ne_of_none e1 h2
  have n13 : a1 ≠ a3 := ne_of_none (t2 _ _ e1) h3
  have n14 : a1 ≠ a4 := ne_of_none (t3 _ _ (t2 _ _ e1)) h4
  have n15 : a1 ≠ a5 := ne_of_none (t4 _ _ (t3 _ _ (t2 _ _ e1))) h5
  have n23 : a2 ≠ a3 := ne_of_none e2 h3
  have n24 : a2 ≠ a4 := ne_of_none (t3 _ _ e2) h4
  have n25 : a2 ≠ a5 := ne_of_none (t4 _ _ (t3 _ _ e2)) h5
  have n34 : a3 ≠ a4 := ne_of_none e3 h4
  have n35 : a3 ≠ a5 := ne_of_none (t4 _ _ e3) h5
  have n45 : a4 ≠ a5 := ne_of_none e4 h5
  have g0 := t5 _ _ (t4 _ _ (t3 _ _ (t2 _ _ (t1 _ _ e0))))
  have g1 := t5 _ _ (t4 _ _ (t3 _ _ (t2 _ _ e1)))
  have g2 := t5 _ _ (t4 _ _ (t3 _ _ e2))
  have g3 := t5 _ _ (t4 _ _ e3)
  have g4 := t5 _ _ e4
  have q0 : H a0 = none := h0
  have q1 : H a1 = none := t0.free h1
  have q2 : H a2 = none := (t0.trans t1).free h2
  have q3 : H a3 = none := ((t0.trans t1).trans t2).free h3
  have q4 : H a4 = none := (((t0.trans t1).trans t2).trans t3).free h4
  have q5 : H a5 = none := ((((t0.trans t1).trans t2).trans t3).trans t4).free h5
  have qF : H F = none := (((((t0.trans t1).trans t2).trans t3).trans t4).trans t5).free hF
  have fl : FilesAt H (upd G5 F (.lst [.ref a0, .ref a1, .ref a2, .ref a3, .ref a4, .ref a5])) F [(a0, []), (a1, []), (a2, []), (a3, []), (a4, []), (a5, [])] [[], [], [], [], [], []] := by
    refine ⟨upd_same, qF, inj_of (by simp [n01, n02, n03, n04, n05, n12, n13, n14, n15, n23, n24, n25, n34, n35, n45]), rfl, ?_⟩
    have k : ∀ (b : Addr), G5 b = some (.lst []) → H b = none → upd G5 F (.lst [.ref a0, .ref a1, .ref a2, .ref a3, .ref a4, .ref a5]) b = some (.lst (vb [])) ∧ H b = none ∧ b ≠ F := fun b hb hn => ⟨tF _ _ hb, hn, ne_of_none hb hF⟩
    intro i y hy
    match i, hy with
    | 0, hy => obtain rfl := Option.some.inj hy; exact k _ g0 q0
    | 1, hy => obtain rfl := Option.some.inj hy; exact k _ g1 q1
    | 2, hy => obtain rfl := Option.some.inj hy; exact k _ g2 q2
    | 3, hy => obtain rfl := Option.some.inj hy; exact k _ g3 q3
    | 4, hy => obtain rfl := Option.some.inj hy; exact k _ g4 q4
    | 5, hy => obtain rfl := Option.some.inj hy; exact k _ e5 q5
    | n + 6, hy => exact nomatch hy
  generalize hG6 : upd G5 F (.lst [.ref a0, .ref a1, .ref a2, .ref a3, .ref a4, .ref a5]) = G6 at *
  have hcs : ∀ z ∈ checkpointRow t s0, Sm z := fun z hz => by
    rw [ckRow_eq] at hz
    rcases List.mem_cons.mp hz with w | w
    · rw [w]; exact hsm
    · exact flatS_sm hent.1 z w
  have hcl : (checkpointRow t s0).length ≤ 1000 := by
    have := hent.len
    rw [ckRow_eq, List.length_cons, flatS_len]
    omega
  refine ⟨_, rfl, _, rfl, _, _, rfl, t, e, kvs, s0, rfl, rfl, s6 _ _ he, hent, fun H7 p7 s7 n7 e7 => ⟨_, rfl, p7, checkpointRow t s0, rfl, e7, hcs, hcl, fun H8 p8 s8 n8 e8 => ?_⟩⟩
  have fl8 := (fl.same s7).same s8
  have s68 := (s6.trans s7).trans s8
  refine ⟨_, rfl, _, rfl, 0, rfl, F, _, _, 0, rfl, rfl, fl8.hF, rfl, ?_⟩
  have pn : ∀ (j : Nat) (y : Addr × Bytes), [(a0, []), (a1, []), (a2, []), (a3, []), (a4, []), (a5, [])][j]? = some y → y.1 ≠ p8 := fun j y hy => ne_of_none ((fl.same s7).at_ j y hy).1 n8
  have fl9 := fl8.put (i := 0) (b' := encodeFrame (checkpointRow t s0)) (by show 0 < 6; decide) e8 ((s6.trans s7).free n8) (ne_of_none (fl.same s7).hF n8).symm pn
  have s9 : Same H (upd H8 F (.lst ((([(a0, []), (a1, []), (a2, []), (a3, []), (a4, []), (a5, [])] : List (Addr × Bytes)).map fun y => V.ref y.1).set 0 (.ref p8)))) := s68.wr qF
  generalize hG9 : upd H8 F (.lst ((([(a0, []), (a1, []), (a2, []), (a3, []), (a4, []), (a5, [])] : List (Addr × Bytes)).map fun y => V.ref y.1).set 0 (.ref p8))) = G9 at *
  refine ⟨(by show 2 ≤ sizeLine; decide), fun p9 hp9 => ⟨_, rfl, p9, [1, 0], rfl, upd_same, fun z hz => by simp at hz; unfold Sm; omega, by decide, fun H10 p10 s10 n10 e10 => ?_⟩⟩
  have t9 : Same G9 (upd G9 p9 (.lst [.int 1, .int 0])) := same_upd hp9
  have fl9' := fl9.same t9
  have fl10 := fl9'.same s10
  have s10' := (s9.trans t9).trans s10
  refine ⟨_, rfl, _, rfl, 1, rfl, F, _, _, 5, rfl, rfl, fl10.hF, rfl, ?_⟩
  have pn10 : ∀ (j : Nat) (y : Addr × Bytes), ([(a0, []), (a1, []), (a2, []), (a3, []), (a4, []), (a5, [])].set 0 (p8, encodeFrame (checkpointRow t s0)))[j]? = some y → y.1 ≠ p10 := fun j y hy => ne_of_none (fl9'.at_ j y hy).1 n10
  have fl11 := fl10.put (i := 5) (b' := encodeFrame [1, 0]) (by show 5 < 6; decide) e10 ((s9.trans t9).free n10) (ne_of_none fl9'.hF n10).symm pn10
  exact ⟨_, rfl, hq _ F _ (s10'.wr qF) fl11⟩
end
end TS
namespace TS
open PySem PySem.Spec PyProof.Rows L2 Vbwsai
section
variable {P : Program} {w : World} {K : PySem.W.Frag} {mg : Str → Option Value} {base : Heap} {A : Ad}
abbrev s_Memory_init : Stmt := inClass (top 81) 0
theorem sc_Memory_init : FnScope ["self", "tick_number", "entries", "side", "commit_number"] ["self", "tick_number", "entries", "side", "commit_number"] (defScope s_Memory_init) := ⟨rfl, rfl, rfl, by decide +kernel, rfl, by decide +kernel, by decide +kernel⟩
theorem ok_Memory_init (T : Txt K mg A) (F : FunM K A.Memory "__init__" "Memory.__init__" s_Memory_init ["self", "tick_number", "entries", "side", "commit_number"])  : Me P w K mg base 1 A.Memory "__init__" ["self", "tick_number", "entries", "side", "commit_number"] (sp_Memory_init K A) := by
  obtain ⟨f, fd, F, hmg, hb⟩ := F
  refine ⟨f, fd, F.ok sc_Memory_init (fun vs H Q E h => ?_) (fun cdv Ar outer s H vs Q E hr h => ?_), hmg, hb⟩
  · exact S5.len h
  refine ⟨_, (pss_cons (ps_fld (pv 0) (pv 1) rfl)
      (pss_cons (ps_fld (pv 0) (pv 2) rfl)
      (pss_cons (ps_fld (pv 0) (pv 3) rfl)
      (pss_cons (ps_fld (pv 0) (pv 4) rfl)
      (pss_one (ps_fld (pv 0) pe_non rfl)))))), ?_⟩
  obtain ⟨_, _, _, _, _, rfl, p, dx, t, e, sd, n, rfl, rfl, rfl, rfl, rfl, hp, hq⟩ := h
  refine ⟨_, rfl, _, rfl, p, A.Memory, dx, _, rfl, hp, T.k_Memory, T.m_tick_number, (by show 0 < 1000; decide), ?_⟩
  refine ⟨_, rfl, _, rfl, p, A.Memory, dx, _, rfl, upd_same, T.k_Memory, T.m_entries, (by rw [pf_new]; show 1 < 1000; decide), ?_⟩
  refine ⟨_, rfl, _, rfl, p, A.Memory, dx, _, rfl, upd_same, T.k_Memory, T.m_side, (by rw [pf_new, pf_past (by decide +kernel)]; show 2 < 1000; decide), ?_⟩
  refine ⟨_, rfl, _, rfl, p, A.Memory, dx, _, rfl, upd_same, T.k_Memory, T.m_commit_number, (by repeat (first | rw [pf_new] | rw [pf_past (by decide +kernel)]); show 3 < 1000; decide), ?_⟩
  refine ⟨_, rfl, p, A.Memory, dx, _, rfl, upd_same, T.k_Memory, T.m_pending, (by repeat (first | rw [pf_new] | rw [pf_past (by decide +kernel)]); show 4 < 1000; decide), ?_⟩
  rw [upd_upd, upd_upd, upd_upd, upd_upd, mF_made]
  exact hq
end
end TS
namespace TS
open PySem PySem.Spec PyProof.Rows L2 Vbwsai
section
variable {P : Program} {w : World} {K : PySem.W.Frag} {mg : Str → Option Value} {base : Heap} {A : Ad}
abbrev s_Session_init : Stmt := inClass (top 82) 0
theorem sc_Session_init : FnScope ["self"] ["self"] (defScope s_Session_init) := ⟨rfl, rfl, rfl, by decide +kernel, rfl, by decide +kernel, by decide +kernel⟩
theorem ok_Session_init (T : Txt K mg A) (F : FunM K A.Session "__init__" "Session.__init__" s_Session_init ["self"]) (d_start_anew : Me P w K mg base 6 A.Session "start_anew" ["self", "tick_number", "entries"] (sp_start_anew K A)) : Me P w K mg base 7 A.Session "__init__" ["self"] (sp_Session_init K A) := by
  obtain ⟨f, fd, F, hmg, hb⟩ := F
  refine ⟨f, fd, F.ok sc_Session_init (fun vs H Q E h => ?_) (fun cdv Ar outer s H vs Q E hr h => ?_), hmg, hb⟩
  · exact S1.len h
  refine ⟨_, (pss_one (ps_expr (pe_me d_start_anew T.k_Session (pv 0) (hr.mono (by decide)) (pa_cons pe_int (pa_cons pe_dnewK pa_nil))))), ?_⟩
  obtain ⟨_, rfl, H0, p, dx, rfl, s0, p0, hp, hq⟩ := h
  refine ⟨_, rfl, p, dx, _, rfl, hp, rfl, fun d hd => ?_⟩
  have npd : p ≠ d := ne_of_none hp hd
  refine ⟨_, _, _, rfl, p, dx, [], 0, d, [], [], rfl, rfl, rfl, by rw [upd_ne npd]; exact hp, .inl rfl, upd_same, Ent.nil, by unfold Sm; omega, fun H' F ps m dm k hp2 fl hm mn => ?_⟩
  refine hq _ (ses_new (s0.up hd) p0 (fs := []) (by rw [upd_ne npd]; exact hp) upd_same (s0.free hd) Ent.nil k hp2 fl hm mn)
end
end TS
namespace TS
open PySem PySem.Spec PyProof.Rows L2 Vbwsai
section
variable {P : Program} {w : World} {K : PySem.W.Frag} {mg : Str → Option Value} {base : Heap} {A : Ad}
abbrev s_start_anew : Stmt := inClass (top 82) 1
theorem sc_start_anew : FnScope ["self", "tick_number", "entries"] ["self", "tick_number", "entries"] (defScope s_start_anew) := ⟨rfl, rfl, rfl, by decide +kernel, rfl, by decide +kernel, by decide +kernel⟩
theorem ok_start_anew (T : Txt K mg A) (F : FunM K A.Session "start_anew" "Session.start_anew" s_start_anew ["self", "tick_number", "entries"]) (d_new_files : Fn P w K mg base 5 "new_files" ["tick_number", "entries"] (sp_new_files K A)) (d_Memory : Mak P w K mg base 1 "Memory" A.Memory ["self", "tick_number", "entries", "side", "commit_number"] (sp_Memory_init K A)) : Me P w K mg base 6 A.Session "start_anew" ["self", "tick_number", "entries"] (sp_start_anew K A) := by
  obtain ⟨f, fd, F, hmg, hb⟩ := F
  refine ⟨f, fd, F.ok sc_start_anew (fun vs H Q E h => ?_) (fun cdv Ar outer s H vs Q E hr h => ?_), hmg, hb⟩
  · exact S3.len h
  refine ⟨_, (pss_cons (ps_fld (pv 0) (pe_fn d_new_files (hr.mono (by decide)) rfl (pa_cons (pv 1) (pa_cons (pv 2) pa_nil))) rfl)
      (pss_cons (ps_fld (pv 0) (pe_mk d_Memory (hr.mono (by decide)) rfl (pa_cons (pv 1) (pa_cons (pv 2) (pa_cons pe_int (pa_cons pe_int pa_nil))))) rfl)
      (pss_one (ps_fld (pv 0) (pv 1) rfl)))), ?_⟩
  obtain ⟨_, _, _, rfl, p, dx, fs, t, e, kvs, s0, rfl, rfl, rfl, hp, hfs, he, hent, hsm, hq⟩ := h
  have hfl : fs.length < 1000 := by
    rcases hfs with z | ⟨F, m, d, z⟩
    · rw [z]; decide
    · rw [z]; show 3 < 1000; decide
  refine ⟨_, rfl, _, rfl, _, _, rfl, t, e, kvs, s0, rfl, rfl, he, hent, hsm, fun H1 F ps s1 fl => ?_⟩
  refine ⟨_, rfl, p, A.Session, dx, fs, rfl, s1 _ _ hp, T.k_Session, T.s_files, hfl, ?_⟩
  have flA := fl.kind (o := .ins A.Session dx (putF "files" (.ref F) fs)) (s1 _ _ hp) (fun xs z => nomatch z)
  have kA : ∀ b o, H b = some o → b ≠ p → upd H1 p (.ins A.Session dx (putF "files" (.ref F) fs)) b = some o := fun b o hb hne => by rw [upd_ne hne]; exact s1 _ _ hb
  have dmA : Dom H (upd H1 p (.ins A.Session dx (putF "files" (.ref F) fs))) := s1.dom.up
  have hpA : upd H1 p (.ins A.Session dx (putF "files" (.ref F) fs)) p = some (.ins A.Session dx (putF "files" (.ref F) fs)) := upd_same
  generalize hGA : upd H1 p (.ins A.Session dx (putF "files" (.ref F) fs)) = GA at *
  refine ⟨_, rfl, _, rfl, fun m dm nm ndm ne => ?_⟩
  refine ⟨_, _, _, _, _, rfl, m, dm, t, e, 0, 1, rfl, rfl, rfl, rfl, rfl, upd_same, rfl, ?_⟩
  rw [upd_upd]
  have nm' : upd GA dm (.own m) m = none := by rw [upd_ne ne.symm]; exact nm
  have sB : Same GA (upd (upd GA dm (.own m)) m (.ins A.Memory dm (mF t e 0 1 .non))) := (same_upd ndm).up nm'
  have hmB : upd (upd GA dm (.own m)) m (.ins A.Memory dm (mF t e 0 1 .non)) m = some (.ins A.Memory dm (mF t e 0 1 .non)) := upd_same
  generalize hGB : upd (upd GA dm (.own m)) m (.ins A.Memory dm (mF t e 0 1 .non)) = GB at *
  have pfl : (putF "files" (.ref F) fs).length < 1000 := by
    rcases hfs with z | ⟨F', m', d, z⟩
    · rw [z]; show 1 < 1000; decide
    · rw [z, sP_files]; show 3 < 1000; decide
  have pfl2 : (putF "memory" (.ref m) (putF "files" (.ref F) fs)).length < 1000 := by
    rcases hfs with z | ⟨F', m', d, z⟩
    · rw [z, pf_new, pf_past (by decide +kernel)]; show 2 < 1000; decide
    · rw [z, sP_files, sP_mem]; show 3 < 1000; decide
  have pf3 : putF "durable_tick" (.int (t : Int)) (putF "memory" (.ref m) (putF "files" (.ref F) fs)) = sF F (.ref m) t := by
    rcases hfs with z | ⟨F', m', d, z⟩
    · rw [z, sF_made]
    · rw [z, sP_files, sP_mem, sP_dur]
  refine ⟨_, rfl, p, A.Session, dx, _, rfl, sB _ _ hpA, T.k_Session, T.s_memory, pfl, ?_⟩
  refine ⟨_, rfl, _, rfl, p, A.Session, dx, _, rfl, upd_same, T.k_Session, T.s_durable_tick, pfl2, ?_⟩
  rw [upd_upd, pf3]
  have npm : m ≠ p := (ne_of_none hpA nm).symm
  refine hq _ F ps m dm (fun b o hb hne => ?_) upd_same ((flA.same sB).kind (sB _ _ hpA) (fun xs z => nomatch z)) ?_ (dmA _ nm)
  · rw [upd_ne hne]; exact sB _ _ (kA _ _ hb hne)
  · rw [upd_ne npm]; exact hmB
end
end TS
namespace TS
open PySem PySem.Spec PyProof.Rows L2 Vbwsai
section
variable {P : Program} {w : World} {K : PySem.W.Frag} {mg : Str → Option Value} {base : Heap} {A : Ad}
abbrev s_read_file : Stmt := top 84
theorem sc_read_file : FnScope ["session", "file_number"] ["session", "file_number"] (defScope s_read_file) := ⟨rfl, rfl, rfl, by decide +kernel, rfl, by decide +kernel, by decide +kernel⟩
theorem ok_read_file (T : Txt K mg A) (F : FunAt K mg "read_file" s_read_file ["session", "file_number"]) (d_is_file : Fn P w K mg base 1 "is_file" ["number"] (sp_is_file K A)) : Fn P w K mg base 2 "read_file" ["session", "file_number"] (sp_read_file K A) := by
  obtain ⟨f, fd, F, hmg, hb⟩ := F
  refine ⟨f, fd, F.ok sc_read_file (fun vs H Q E h => ?_) (fun cdv Ar outer s H vs Q E hr h => ?_), hmg, F.kp, hb⟩
  · exact S2.len h
  refine ⟨_, (pss_cons (ps_if (pt_not (pt_val (pe_fn d_is_file (hr.mono (by decide)) rfl (pa_cons (pv 1) pa_nil)))) (pss_one (ps_ret (pe_lst (pa_cons (pe_cst T.c_BAD_ARGUMENT rfl) pa_nil))))
      pss_nil)
      (pss_one (ps_ret (pe_op op_cat (pe_lst (pa_cons pe_int pa_nil)) (pe_ix ix_list (pe_fld (pv 0) rfl) (pv 1) (fun _ _ => rfl)))))), ?_⟩
  obtain ⟨_, _, rfl, H0, p, st, k, rfl, rfl, ⟨hs, n, hn, hg⟩, hq⟩ := h
  have un : Vbwsai.step st (.readFile k) = (if inRange k 0 5 = false then Vbwsai.fail st 1 else Vbwsai.succeed st (toInts (fileAt st.disk k.toNat))) := rfl
  rw [un] at hq
  refine ⟨_, rfl, _, rfl, k, rfl, _, rfl, ifn (fun c => ?_) (fun c => ?_)⟩
  · rw [if_pos (inr_no c)] at hq
    exact ⟨(by show 1 ≤ sizeLine; decide), ans hs hq⟩
  rw [if_neg (inr_yes c)] at hq
  obtain ⟨kn, rfl⟩ : ∃ kn : Nat, k = (kn : Int) := ⟨k.toNat, by omega⟩
  rw [Int.toNat_natCast] at hq
  have hk5 : kn ≤ 5 := by omega
  have hbig := (hg.small hn _ (List.mem_of_getElem? (f_get hg.wf hk5))).2
  have key : ∀ (dx F : Addr) (ps : List (Addr × Bytes)) (mv : V) (d : Int), H p = some (.ins A.Session dx (sF F mv d)) → FilesAt H0 H F ps (files6 st.disk) → tRet (tOp rCat (tLst (tCons (tC (.int 0)) tNil)) (tOp (rIxL K) (tFld K (tVar 0) "files") (tVar 1)))
      { nx := fun _ H' => Q .non H', rt := Q } [some (.ref p), some (.int (kn : Int))] H := by
    intro dx F ps mv d hx fl
    obtain ⟨a, ha1, ha2, ha3, ha4, ha5⟩ := fl.get (f_get hg.wf hk5)
    refine ⟨(by show 1 ≤ sizeLine; decide), fun q hq1 => ?_⟩
    have t1 : Same H (upd H q (.lst [.int 0])) := same_upd hq1
    refine ⟨_, rfl, p, A.Session, dx, _, _, rfl, t1 _ _ hx, T.k_Session, T.s_files, sF_files, _, rfl, F, _, _, _, rfl, rfl, SqL.of (fl.same t1).hF, atI_nat ha2, q, a, _, _, rfl, rfl, upd_same, t1 _ _ ha3, ?_, fun q2 hq2 => ?_⟩
    · rw [vb_len]
      show 1 + (fileAt st.disk kn).length ≤ sizeLine
      rw [sizeLine_eq]
      omega
    · have e1 : ([V.int 0] ++ vb (fileAt st.disk kn) : List V) = vi (0 :: toInts (fileAt st.disk kn)) := by
        show V.int 0 :: vb (fileAt st.disk kn) = V.int 0 :: vi (toInts (fileAt st.disk kn))
        rw [vi_toInts]
      rw [e1]
      exact ans (ses_same hs t1) hq q2 hq2
  cases hp : st.powered with
  | false =>
    obtain ⟨dx, F, ps, ho⟩ := ses_off hs hp
    exact key dx F ps _ _ ho.hx ho.fl
  | true =>
    obtain ⟨dx, F, ps, m, dm, e, kvs, pd, ho⟩ := ses_on hs hp
    exact key dx F ps _ _ ho.hx ho.fl
end
end TS
namespace TS
open PySem PySem.Spec PyProof.Rows L2 Vbwsai
section
variable {P : Program} {w : World} {K : PySem.W.Frag} {mg : Str → Option Value} {base : Heap} {A : Ad}
abbrev s_corrupt_byte : Stmt := top 85
theorem sc_corrupt_byte : FnScope ["session", "file_number", "position", "byte", "data"] ["session", "file_number", "position", "byte"] (defScope s_corrupt_byte) := ⟨rfl, rfl, rfl, by decide +kernel, rfl, by decide +kernel, by decide +kernel⟩
theorem ok_corrupt_byte (T : Txt K mg A) (F : FunAt K mg "corrupt_byte" s_corrupt_byte ["session", "file_number", "position", "byte"]) (d_is_byte : Fn P w K mg base 1 "is_byte" ["number"] (sp_is_byte K A)) (d_is_file : Fn P w K mg base 1 "is_file" ["number"] (sp_is_file K A)) : Fn P w K mg base 2 "corrupt_byte" ["session", "file_number", "position", "byte"] (sp_corrupt_byte K A) := by
  obtain ⟨f, fd, F, hmg, hb⟩ := F
  refine ⟨f, fd, F.ok sc_corrupt_byte (fun vs H Q E h => ?_) (fun cdv Ar outer s H vs Q E hr h => ?_), hmg, F.kp, hb⟩
  · exact S4.len h
  refine ⟨_, (pss_cons (ps_if (PW.pt (pw_or (pt_not (pt_val (pe_fn d_is_file (hr.mono (by decide)) rfl (pa_cons (pv 1) pa_nil)))) (pw_or1 (pt_not (pt_val (pe_fn d_is_byte (hr.mono (by decide)) rfl (pa_cons (pv 3) pa_nil))))))) (pss_one (ps_ret (pe_lst (pa_cons (pe_cst T.c_BAD_ARGUMENT rfl) pa_nil))))
      pss_nil)
      (pss_cons (ps_set (i := 4) sc_corrupt_byte.nd rfl (Or.inl rfl) (pe_ix ix_list (pe_fld (pv 0) rfl) (pv 1) (fun _ _ => rfl)))
      (pss_cons (ps_if (PW.pt (pw_or (pt_cmpR op_lt (pv 2) pe_int (nomark _)) (pw_or1 (pt_cmpR op_ge (pv 2) (pe_callB call_len_seq (by rfl) T.b_len PySem.boot_len (pa_cons (pv 4) pa_nil)) (nomark _))))) (pss_one (ps_ret (pe_lst (pa_cons (pe_cst T.c_NOT_THERE rfl) pa_nil))))
      pss_nil)
      (pss_cons (ps_asg (pv 3) (pg_sub (pv 4) (pv 2) set_list))
      (pss_one (ps_ret (pe_lst (pa_cons pe_int pa_nil)))))))), ?_⟩
  obtain ⟨_, _, _, _, rfl, H0, p, st, i, j, k, rfl, rfl, rfl, rfl, ⟨hs, n, hn, hg⟩, hq⟩ := h
  have un : Vbwsai.step st (.corruptByte i j k) = (if inRange i 0 5 = false ∨ inRange k 0 255 = false then Vbwsai.fail st 1 else if j < 0 ∨ ((fileAt st.disk i.toNat).length : Int) ≤ j then Vbwsai.fail st 4 else
      Vbwsai.succeed { st with disk := setFileAt st.disk i.toNat ((fileAt st.disk i.toNat).set j.toNat k.toNat) } []) := rfl
  rw [un] at hq
  refine ⟨_, rfl, _, rfl, i, rfl, _, rfl, ifn (fun c => iteT ?_) (fun c => ?_)⟩
  · rw [if_pos (.inl (inr_no c))] at hq
    exact ⟨(by show 1 ≤ sizeLine; decide), ans hs hq⟩
  refine ⟨_, rfl, _, rfl, k, rfl, _, rfl, ifn (fun c2 => ?_) (fun c2 => ?_)⟩
  · rw [if_pos (.inr (inr_no c2))] at hq
    exact ⟨(by show 1 ≤ sizeLine; decide), ans hs hq⟩
  rw [if_neg (fun z => z.elim (inr_yes c) (inr_yes c2))] at hq
  obtain ⟨i, rfl⟩ : ∃ kn : Nat, i = (kn : Int) := ⟨i.toNat, by omega⟩
  obtain ⟨k, rfl⟩ : ∃ kn : Nat, k = (kn : Int) := ⟨k.toNat, by omega⟩
  rw [Int.toNat_natCast, Int.toNat_natCast] at hq
  have hk5 : i ≤ 5 := by omega
  have hbig := (hg.small hn _ (List.mem_of_getElem? (f_get hg.wf hk5))).2
  have key : ∀ (dx F : Addr) (ps : List (Addr × Bytes)) (mv : V) (d : Int), H p = some (.ins A.Session dx (sF F mv d)) → FilesAt H0 H F ps (files6 st.disk) →
      (∀ (a : Addr) (b' : Bytes), ps[i]? = some (a, fileAt st.disk i) → SesAt A H0 (upd H a (.lst (vb b'))) p { st with disk := setFileAt st.disk i b' }) →
      tSeq (tAsg (tOp (rIxL K) (tFld K (tVar 0) "files") (tVar 1)) (gName 4))
      (tSeq (tIfS (tOr (tTest (tOp (rI0 fun i j => .bl (decide (i < j))) (tVar 2) (tC (.int 0)))) (tTest (tOp (rI0 fun i j => .bl (decide (j ≤ i))) (tVar 2) (tCB (fun xs H Q => ∃ p ys, xs = [.ref p] ∧ (SqL K H p ys ∨ SqT K H p ys) ∧ Q (.int ys.length) H) (tCons (tVar 4) tNil))))) (tRet (tLst (tCons (tC (.int (-4))) tNil))) tNext)
      (tSeq (tAsg (tVar 3) (gSub (tVar 4) (tVar 2) rSetL)) (tRet (tLst (tCons (tC (.int 0)) tNil)))))
      { nx := fun _ H' => Q .non H', rt := Q } [some (.ref p), some (.int (i : Int)), some (.int j), some (.int (k : Int)), none] H := by
    intro dx F ps mv d hx fl hw
    obtain ⟨a, ha1, ha2, ha3, ha4, ha5⟩ := fl.get (f_get hg.wf hk5)
    refine ⟨_, rfl, p, A.Session, dx, _, _, rfl, hx, T.k_Session, T.s_files, sF_files, _, rfl, F, _, _, _, rfl, rfl, SqL.of fl.hF, atI_nat ha2, ?_⟩
    refine ⟨_, rfl, _, _, rfl, rfl, _, rfl, ifd (fun c3 => iteT ?_) (fun c3 => ⟨_, rfl, _, rfl, a, _, rfl, .inl (SqL.of ha3), _, _, rfl, rfl, _, rfl, ifd (fun c4 => ?_) (fun c4 => ?_)⟩)⟩
    · rw [if_pos (.inl c3)] at hq
      exact ⟨(by show 1 ≤ sizeLine; decide), ans hs hq⟩
    · rw [vb_len] at c4
      rw [if_pos (.inr c4)] at hq
      exact ⟨(by show 1 ≤ sizeLine; decide), ans hs hq⟩
    · rw [vb_len] at c4
      rw [if_neg (by omega)] at hq
      obtain ⟨jn, rfl⟩ : ∃ kn : Nat, j = (kn : Int) := ⟨j.toNat, by omega⟩
      rw [Int.toNat_natCast] at hq
      refine ⟨_, rfl, _, rfl, _, rfl, a, _, _, jn, rfl, rfl, ha3, ixN_nat rfl (by rw [vb_len]; omega), ?_⟩
      have e1 : (vb (fileAt st.disk i)).set jn (V.int (k : Int)) = vb ((fileAt st.disk i).set jn k) := List.map_set.symm
      rw [e1]
      exact ⟨(by show 1 ≤ sizeLine; decide), ans (hw a _ ha1) hq⟩
  cases hp : st.powered with
  | false =>
    obtain ⟨dx, F, ps, ho⟩ := ses_off hs hp
    refine key dx F ps _ _ ho.hx ho.fl fun a b' ha => by
      have h1 := ho.write (b' := b') ha
      rw [← (f_set hg.wf hk5 b').1] at h1
      exact mk_off hp h1
  | true =>
    obtain ⟨dx, F, ps, m, dm, e, kvs, pd, ho⟩ := ses_on hs hp
    refine key dx F ps _ _ ho.hx ho.fl fun a b' ha => by
      have h1 := ho.write (b' := b') ha
      rw [← (f_set hg.wf hk5 b').1] at h1
      exact mk_on hp h1
end
end TS
namespace TS
open PySem PySem.Spec PyProof.Rows L2 Vbwsai
section
variable {P : Program} {w : World} {K : PySem.W.Frag} {mg : Str → Option Value} {base : Heap} {A : Ad}
abbrev s_status : Stmt := top 86
theorem sc_status : FnScope ["session", "memory", "is_checkpointing", "pending_count", "state"] ["session"] (defScope s_status) := ⟨rfl, rfl, rfl, by decide +kernel, rfl, by decide +kernel, by decide +kernel⟩
theorem ok_status (T : Txt K mg A) (F : FunAt K mg "status" s_status ["session"])  : Fn P w K mg base 1 "status" ["session"] (sp_status K A) := by
  obtain ⟨f, fd, F, hmg, hb⟩ := F
  refine ⟨f, fd, F.ok sc_status (fun vs H Q E h => ?_) (fun cdv Ar outer s H vs Q E hr h => ?_), hmg, F.kp, hb⟩
  · exact S1.len h
  refine ⟨_, (pss_cons (ps_set (i := 1) sc_status.nd rfl (Or.inl rfl) (pe_fld (pv 0) rfl))
      (pss_cons (ps_if (pt_cmpR op_isN (pv 1) pe_non (nomark _)) (pss_one (ps_ret (pe_lst (pa_cons pe_int (pa_cons pe_int (pa_cons pe_int (pa_cons pe_int (pa_cons pe_int (pa_cons pe_int (pa_cons pe_int (pa_cons (pe_fld (pv 0) rfl) pa_nil)))))))))))
      pss_nil)
      (pss_cons (ps_set (i := 2) sc_status.nd rfl (Or.inl rfl) pe_int)
      (pss_cons (ps_set (i := 3) sc_status.nd rfl (Or.inl rfl) pe_int)
      (pss_cons (ps_if (pt_cmpR op_notN (pe_fld (pv 1) rfl) pe_non (nomark _)) (pss_cons (ps_set (i := 2) sc_status.nd rfl (Or.inl rfl) pe_int)
      (pss_one (ps_set (i := 3) sc_status.nd rfl (Or.inl rfl) (pe_callB call_len_seq (by rfl) T.b_len PySem.boot_len (pa_cons (pe_fld (pv 1) rfl) pa_nil)))))
      pss_nil)
      (pss_cons (ps_set (i := 4) sc_status.nd rfl (Or.inl rfl) (pe_lst (pa_cons (pe_fld (pv 1) rfl) (pa_cons (pe_fld (pv 1) rfl) (pa_cons (pe_fld (pv 1) rfl) (pa_cons (pv 2) (pa_cons (pv 3) pa_nil)))))))
      (pss_one (ps_ret (pe_op op_cat (pe_op op_cat (pe_lst (pa_cons pe_int (pa_cons pe_int pa_nil))) (pv 4)) (pe_lst (pa_cons (pe_fld (pv 0) rfl) pa_nil))))))))))), ?_⟩
  obtain ⟨_, rfl, H0, p, st, rfl, ⟨hs, n, hn, hg⟩, hq⟩ := h
  have un : Vbwsai.step st .status = Vbwsai.succeed st [boolToInt st.powered, (st.tick : Int), (st.side : Int), (st.commitNumber : Int), boolToInt st.checkpointing, (st.pending.length : Int), (st.durableTick : Int)] := rfl
  rw [un] at hq
  cases hp : st.powered with
  | false =>
    obtain ⟨dx, F, ps, ho⟩ := ses_off hs hp
    obtain ⟨o1, o2, o3, o4⟩ := hg.off hp
    rw [hp, o1, o2, o3, o4, hg.nch o4] at hq
    refine ⟨_, rfl, p, A.Session, dx, _, _, rfl, ho.hx, T.k_Session, T.s_memory, sF_mem, ?_⟩
    refine ⟨_, rfl, rfl, _, rfl, ifd (fun _ => ?_) (fun c => absurd rfl c)⟩
    exact ⟨_, rfl, p, A.Session, dx, _, _, rfl, ho.hx, T.k_Session, T.s_durable_tick, sF_dur, (by show 8 ≤ sizeLine; decide), ans hs hq⟩
  | true =>
    obtain ⟨dx, F, ps, m, dm, e, kvs, pd, ho⟩ := ses_on hs hp
    rw [hp] at hq
    refine ⟨_, rfl, p, A.Session, dx, _, _, rfl, ho.hx, T.k_Session, T.s_memory, sF_mem, ?_⟩
    refine ⟨_, rfl, rfl, _, rfl, ifd (fun c => nomatch c) (fun _ => ?_)⟩
    refine ⟨_, rfl, m, A.Memory, dm, _, _, rfl, ho.hm, T.k_Memory, T.m_pending, mF_pend, rfl, _, rfl, ?_⟩
    have fin : ∀ (a b : Int), [boolToInt true, (st.tick : Int), (st.side : Int), (st.commitNumber : Int), boolToInt st.checkpointing, (st.pending.length : Int), (st.durableTick : Int)] = [1, (st.tick : Int), (st.side : Int), (st.commitNumber : Int), a, b, (st.durableTick : Int)] →
        tSeq (tAsg (tLst (tCons (tFld K (tVar 1) "tick_number") (tCons (tFld K (tVar 1) "side") (tCons (tFld K (tVar 1) "commit_number") (tCons (tVar 2) (tCons (tVar 3) tNil)))))) (gName 4))
          (tRet (tOp rCat (tOp rCat (tLst (tCons (tC (.int 0)) (tCons (tC (.int 1)) tNil))) (tVar 4)) (tLst (tCons (tFld K (tVar 0) "durable_tick") tNil))))
          { nx := fun _ H' => Q .non H', rt := Q } [some (.ref p), some (.ref m), some (.int a), some (.int b), none] H := by
      intro a b eab
      rw [eab] at hq
      refine ⟨_, rfl, m, A.Memory, dm, _, _, rfl, ho.hm, T.k_Memory, T.m_tick_number, mF_tick, ?_⟩
      refine ⟨_, rfl, m, A.Memory, dm, _, _, rfl, ho.hm, T.k_Memory, T.m_side, mF_side, ?_⟩
      refine ⟨_, rfl, m, A.Memory, dm, _, _, rfl, ho.hm, T.k_Memory, T.m_commit_number, mF_num, _, rfl, _, rfl, (by show 5 ≤ sizeLine; decide), fun q1 h1 => ?_⟩
      have t1 := same_upd (o := .lst [.int (st.tick : Int), .int (st.side : Int), .int (st.commitNumber : Int), .int a, .int b]) h1
      refine ⟨(by show 2 ≤ sizeLine; decide), fun q2 h2 => ?_⟩
      have t2 := same_upd (o := .lst [.int 0, .int 1]) h2
      refine ⟨_, rfl, q2, q1, _, _, rfl, rfl, upd_same, t2 _ _ upd_same, (by show 7 ≤ sizeLine; decide), fun q3 h3 => ?_⟩
      have t3 := same_upd (o := .lst ([.int 0, .int 1] ++ [.int (st.tick : Int), .int (st.side : Int), .int (st.commitNumber : Int), .int a, .int b])) h3
      have t123 := (t1.trans t2).trans t3
      refine ⟨_, rfl, p, A.Session, dx, _, _, rfl, t123 _ _ ho.hx, T.k_Session, T.s_durable_tick, sF_dur, (by show 1 ≤ sizeLine; decide), fun q4 h4 => ?_⟩
      have t4 := same_upd (o := .lst [.int (st.durableTick : Int)]) h4
      refine ⟨q3, q4, _, _, rfl, rfl, t4 _ _ upd_same, upd_same, (by show 8 ≤ sizeLine; decide), ?_⟩
      exact ans (ses_same hs (t123.trans t4)) hq
    cases hc : st.checkpointing with
    | false =>
      rw [hc, if_neg (fun z => nomatch z)] at ho
      obtain rfl : pd = V.non := ho.pn
      exact ifn (fun c => absurd rfl c) (fun _ => fin 0 0 (by rw [hc, hg.nch hc]; rfl))
    | true =>
      rw [hc, if_pos rfl] at ho
      obtain ⟨pa, rfl, hpa, _⟩ := id ho.pn
      refine ifn (fun _ => ?_) (fun c => nomatch c)
      refine ⟨_, rfl, m, A.Memory, dm, _, _, rfl, ho.hm, T.k_Memory, T.m_pending, mF_pend, pa, _, rfl, .inl (SqL.of hpa), ?_⟩
      exact fin 1 _ (by rw [hc, vb_len]; rfl)
end
end TS
namespace TS
open PySem PySem.Spec PyProof.Rows L2 Vbwsai
section
variable {P : Program} {w : World} {K : PySem.W.Frag} {mg : Str → Option Value} {base : Heap} {A : Ad}
abbrev s_count_frames : Stmt := top 87
theorem sc_count_frames : FnScope ["data", "frames", "byte_count"] ["data"] (defScope s_count_frames) := ⟨rfl, rfl, rfl, by decide +kernel, rfl, by decide +kernel, by decide +kernel⟩
theorem ok_count_frames (T : Txt K mg A) (F : FunAt K mg "count_frames" s_count_frames ["data"]) (d_valid_frames : Fn P w K mg base 5 "valid_frames" ["data"] (sp_valid_frames K A)) : Fn P w K mg base 6 "count_frames" ["data"] (sp_count_frames K A) := by
  obtain ⟨f, fd, F, hmg, hb⟩ := F
  refine ⟨f, fd, F.ok sc_count_frames (fun vs H Q E h => ?_) (fun cdv Ar outer s H vs Q E hr h => ?_), hmg, F.kp, hb⟩
  · exact S1.len h
  refine ⟨_, (pss_cons (ps_set (i := 1) sc_count_frames.nd rfl (Or.inl rfl) (pe_fn d_valid_frames (hr.mono (by decide)) rfl (pa_cons (pv 0) pa_nil)))
      (pss_cons (ps_set (i := 2) sc_count_frames.nd rfl (Or.inl rfl) pe_int)
      (pss_cons (ps_if (pt_cmpR op_gt (pe_callB call_len_seq (by rfl) T.b_len PySem.boot_len (pa_cons (pv 1) pa_nil)) pe_int (nomark _)) (pss_one (ps_set (i := 2) sc_count_frames.nd rfl (Or.inl rfl) (pe_ix ix_tup (pe_ix ix_list (pv 1) (pe_un un_neg pe_int) (fun _ _ => rfl)) pe_int (fun _ _ => rfl))))
      pss_nil)
      (pss_one (ps_ret (pe_lst (pa_cons pe_int (pa_cons (pe_callB call_len_seq (by rfl) T.b_len PySem.boot_len (pa_cons (pv 1) pa_nil)) (pa_cons (pv 2) pa_nil))))))))), ?_⟩
  obtain ⟨_, rfl, a, d, rfl, ha, hl, hb, hq⟩ := h
  rw [readFrames_eq hb] at hq
  refine ⟨_, rfl, _, rfl, a, d, rfl, ha, hb, by omega, fun H1 p s1 n1 ⟨ts, f1, f2, f3⟩ => ?_⟩
  refine ⟨_, rfl, p, _, rfl, .inl (SqL.of f1), _, _, rfl, rfl, _, rfl, ifd (fun c => ?_) (fun c => ?_)⟩
  · rw [List.length_map] at c
    have hlt : ts.length - 1 < ts.length := by omega
    obtain ⟨t, ht⟩ : ∃ t, ts[ts.length - 1]? = some t := ⟨_, List.getElem?_eq_getElem hlt⟩
    obtain ⟨x, hx⟩ := get_len f2 ht
    obtain ⟨r, hp1, _⟩ := f3 _ t x ht hx
    have hts : ts = ts.take (ts.length - 1) ++ [t] := by
      have := take_more ht
      rw [show ts.length - 1 + 1 = ts.length by omega, List.take_length] at this
      exact this
    have hvf : vframes d = (vframes d).take (ts.length - 1) ++ [x] := by
      have := take_more hx
      rw [show ts.length - 1 + 1 = (vframes d).length by omega, List.take_length] at this
      exact this
    have hlast : lastE 0 (vframes d) = x.2 := by
      rw [hvf, lastE_snoc]
    have hat : atI (ts.map V.ref) (-1) = some (V.ref t) := by
      rw [hts, List.map_append]
      exact atI_last _ _
    refine ⟨_, rfl, _, rfl, p, _, _, _, rfl, rfl, SqL.of f1, hat, t, _, _, _, rfl, rfl, SqT.of hp1, rfl, ?_⟩
    refine ⟨_, rfl, p, _, rfl, .inl (SqL.of f1), _, rfl, (by show 3 ≤ sizeLine; decide), fun q hq1 => ?_⟩
    refine hq _ q (s1.up hq1) (s1.free hq1) ?_
    rw [upd_same]
    show some (HO.lst [V.int 0, V.int (((ts.map V.ref).length : Nat) : Int), V.int (x.2 : Int)]) = some (HO.lst [V.int 0, V.int ((((vframes d).map (·.1)).length : Nat) : Int), V.int ((lastE 0 (vframes d) : Nat) : Int)])
    rw [List.length_map, List.length_map, f2, hlast]
  · rw [List.length_map] at c
    have h0 : ts = [] := List.length_eq_zero_iff.mp (by omega)
    have hv : vframes d = [] := List.length_eq_zero_iff.mp (by rw [← f2, h0]; rfl)
    refine ⟨_, rfl, p, _, rfl, .inl (SqL.of f1), _, rfl, (by show 3 ≤ sizeLine; decide), fun q hq1 => ?_⟩
    refine hq _ q (s1.up hq1) (s1.free hq1) ?_
    rw [upd_same, h0, hv]
    rfl
end
end TS
namespace TS
open PySem PySem.Spec PyProof.Rows L2 Vbwsai
section
variable {P : Program} {w : World} {K : PySem.W.Frag} {mg : Str → Option Value} {base : Heap} {A : Ad}
abbrev s_list_ticks : Stmt := top 88
theorem sc_list_ticks : FnScope ["session", "memory", "answer", "row", "end"] ["session"] (defScope s_list_ticks) := ⟨rfl, rfl, rfl, by decide +kernel, rfl, by decide +kernel, by decide +kernel⟩
theorem ok_list_ticks (T : Txt K mg A) (F : FunAt K mg "list_ticks" s_list_ticks ["session"]) (d_valid_frames : Fn P w K mg base 5 "valid_frames" ["data"] (sp_valid_frames K A)) (d_journal_file : Fn P w K mg base 1 "journal_file" ["side"] (sp_journal_file K A)) (d_is_tick_row : Fn P w K mg base 4 "is_tick_row" ["row"] (sp_is_tick_row K A)) : Fn P w K mg base 6 "list_ticks" ["session"] (sp_list_ticks K A) := by
  obtain ⟨f, fd, F, hmg, hb⟩ := F
  refine ⟨f, fd, F.ok sc_list_ticks (fun vs H Q E h => ?_) (fun cdv Ar outer s H vs Q E hr h => ?_), hmg, F.kp, hb⟩
  · exact S1.len h
  refine ⟨_, (pss_cons (ps_set (i := 1) sc_list_ticks.nd rfl (Or.inl rfl) (pe_fld (pv 0) rfl))
      (pss_cons (ps_if (pt_cmpR op_isN (pv 1) pe_non (nomark _)) (pss_one (ps_ret (pe_lst (pa_cons (pe_cst T.c_NO_POWER rfl) pa_nil))))
      pss_nil)
      (pss_cons (ps_set (i := 2) sc_list_ticks.nd rfl (Or.inl rfl) (pe_lst (pa_cons pe_int pa_nil)))
      (pss_cons (ps_for PassesOwn.never rfl (pi_list (pe_fn d_valid_frames (hr.mono (by decide)) rfl (pa_cons (pe_ix ix_list (pe_fld (pv 0) rfl) (pe_fn d_journal_file (hr.mono (by decide)) rfl (pa_cons (pe_fld (pv 1) rfl) pa_nil)) (fun _ _ => rfl)) pa_nil))) (pg_tup rfl (pgs_cons (pg_name (i := 3) sc_list_ticks.nd rfl (Or.inl rfl)) (pgs_cons (pg_name (i := 4) sc_list_ticks.nd rfl (Or.inl rfl)) pgs_nil)))
      (pss_one (ps_if (pt_val (pe_fn d_is_tick_row (hr.mono (by decide)) rfl (pa_cons (pv 3) pa_nil))) (pss_cons (ps_expr (pe_bm PySem.F.plainAttrs_list PySem.F.slot_list_append PySem.F.type_list_append mt_append (pv 2) (pa_cons (pe_ix ix_list (pv 3) pe_int (fun _ _ => rfl)) pa_nil)))
      (pss_one (ps_expr (pe_bm PySem.F.plainAttrs_list PySem.F.slot_list_append PySem.F.type_list_append mt_append (pv 2) (pa_cons (pe_op op_fdiv (pe_op op_sub (pe_callB call_len_seq (by rfl) T.b_len PySem.boot_len (pa_cons (pv 3) pa_nil)) pe_int) pe_int) pa_nil)))))
      pss_nil)))
      (pss_one (ps_ret (pv 2))))))), ?_⟩
  obtain ⟨_, rfl, H0, p, st, rfl, ⟨hs, n, hn, hg⟩, hq⟩ := h
  have un : Vbwsai.step st .listTicks = (if st.powered = false then Vbwsai.fail st 7 else Vbwsai.succeed st ((readFrames (journalFile st.disk st.side)).1.flatMap fun l => match parseTickRow l with
      | some e => [(e.1 : Int), (e.2.length : Int)]
      | none => [])) := rfl
  rw [un] at hq
  cases hp : st.powered with
  | false =>
    obtain ⟨dx, F, ps, ho⟩ := ses_off hs hp
    rw [hp, if_pos rfl] at hq
    refine ⟨_, rfl, p, A.Session, dx, _, _, rfl, ho.hx, T.k_Session, T.s_memory, sF_mem, ?_⟩
    exact ⟨_, rfl, rfl, _, rfl, ifd (fun _ => ⟨(by show 1 ≤ sizeLine; decide), ans hs hq⟩) (fun c => absurd rfl c)⟩
  | true =>
    obtain ⟨dx, F, ps, m, dm, e, kvs, pd, ho⟩ := ses_on hs hp
    rw [hp, if_neg (fun z => nomatch z)] at hq
    obtain ⟨aj, haj1, haj2, haj3, _⟩ := ho.fl.get (j_get hg.wf hg.sd)
    obtain ⟨jb, jl⟩ := hg.byt _ (List.mem_of_getElem? (j_get hg.wf hg.sd))
    generalize hd : journalFile st.disk st.side = d at *
    rw [readFrames_eq jb] at hq
    refine ⟨_, rfl, p, A.Session, dx, _, _, rfl, ho.hx, T.k_Session, T.s_memory, sF_mem, ?_⟩
    refine ⟨_, rfl, rfl, _, rfl, ifd (fun c => nomatch c) (fun _ => ?_)⟩
    refine ⟨(by show 1 ≤ sizeLine; decide), fun q hq1 => ?_⟩
    have t1 : Same H (upd H q (.lst [.int 0])) := same_upd hq1
    have eA : upd H q (.lst [.int 0]) q = some (.lst [.int 0]) := upd_same
    generalize hHA : upd H q (.lst [.int 0]) = HA at *
    have vl := vframes_len jb
    refine ⟨_, rfl, p, A.Session, dx, _, _, rfl, t1 _ _ ho.hx, T.k_Session, T.s_files, sF_files, ?_⟩
    refine ⟨_, rfl, m, A.Memory, dm, _, _, rfl, t1 _ _ ho.hm, T.k_Memory, T.m_side, mF_side, _, rfl, _, rfl, F, _, _, _, rfl, rfl, SqL.of (t1 _ _ ho.fl.hF), atI_nat (j := 2 + st.side) haj2, ?_⟩
    refine ⟨_, rfl, aj, d, rfl, t1 _ _ haj3, jb, by omega, fun H1 p1 s1 n1 ⟨ts, f1, f2, f3⟩ => ?_⟩
    refine ⟨p1, rfl, ⟨_, SqL.of f1⟩, for_list (K := K) (a := p1) (xs := ts.map V.ref)
      (fun i σ H' => ∃ (out : List Int) (v3 v4 : Option V), σ = [some (.ref p), some (.ref m), some (.ref q), v3, v4] ∧ Same H H' ∧ H' p1 = some (.lst (ts.map V.ref)) ∧ H' q = some (.lst (vi (0 :: out))) ∧ out.length ≤ 2 * i ∧
          (∀ (j : Nat) (u : Addr) (f : List Int × Nat), ts[j]? = some u → (vframes d)[j]? = some f → PairAt HA H' u f) ∧
          (((vframes d).take i).map (·.1)).flatMap (fun l => match parseTickRow l with
            | some e => [(e.1 : Int), (e.2.length : Int)]
            | none => []) = out)
      ⟨[], none, none, rfl, t1.trans s1, f1, s1 _ _ eA, Nat.le_refl _, f3, rfl⟩ (fun i σ H' _ ⟨_, _, _, _, _, e1, _⟩ => SqL.of e1) ?_ ?_⟩
    · rintro i v σ H' hi ⟨out, v3, v4, rfl, s2, e1, e2, hol, hts, hfm⟩
      obtain ⟨u, hu, rfl⟩ := frefs_inv hi
      obtain ⟨x, hx⟩ := get_len f2 hu
      obtain ⟨r, ht', hr', hn1, hn2⟩ := id (hts i u x hu hx)
      obtain ⟨hsm, hxl⟩ := vframes_sm jb hx
      have hil := lt_of_get hx
      obtain ⟨l, e'⟩ := x
      have nqp : p1 ≠ q := fun z => by rw [z, eA] at n1; exact nomatch n1
      have hmore : (((vframes d).take (i + 1)).map (·.1)).flatMap (fun l => match parseTickRow l with
            | some e => [(e.1 : Int), (e.2.length : Int)]
            | none => []) = out ++ (match parseTickRow l with
            | some e => [(e.1 : Int), (e.2.length : Int)]
            | none => []) := by
        rw [take_more hx, List.map_append, List.flatMap_append, hfm]
        simp
      refine ⟨u, _, rfl, SqT.of ht', rfl, _, _, rfl, _, _, rfl, rfl, ?_⟩
      refine ⟨_, rfl, _, rfl, r, l, rfl, hr', by have : l.length ≤ d.length := hxl; omega, fun H2 s3 => ⟨_, rfl, ifb (fun c => ?_) (fun c => ?_)⟩⟩
      · cases e5 : parseTickRow l with
        | none => rw [e5] at c; exact nomatch c
        | some z =>
          obtain ⟨tn, cs⟩ := z
          obtain ⟨rest, rfl, hcs, htn⟩ := parseTick_cons e5
          obtain ⟨hrl, _⟩ := parse_len hcs
          rw [e5] at hmore
          have hr2 := s3 _ _ hr'
          have hlen1 : (vi (0 :: out)).length = out.length + 1 := by rw [vi_len]; rfl
          refine ⟨_, rfl, .inl ⟨rfl, _, SqL.of (s3 _ _ e2)⟩, _, rfl, r, _, _, _, rfl, rfl, SqL.of hr2, at_viI 0 rfl rfl, q, _, _, rfl, rfl, s3 _ _ e2, lim_sz (by rw [hlen1]; omega), ?_⟩
          have nrq : r ≠ q := (ne_of_none eA hn2).symm
          refine ⟨_, rfl, .inl ⟨rfl, _, SqL.of upd_same⟩, _, rfl, r, _, rfl, .inl (SqL.of (by rw [upd_ne nrq]; exact hr2)), _, _, rfl, rfl, _, _, rfl, rfl, ⟨by decide, by decide⟩, q, _, _, rfl, rfl, upd_same, lim_sz (by rw [List.length_append, hlen1]; show _ + 1 ≤ _; omega), ?_⟩
          have keep : ∀ (o1 o2 : HO) (u : Addr) (f : List Int × Nat), PairAt HA H' u f → PairAt HA (upd (upd H2 q o1) q o2) u f := fun o1 o2 u f hp3 => ((hp3.same s3).wr eA).wr eA
          have hval : (((vi ((tn : Int) :: rest)).length : Int) - 1) / 3 = (cs.length : Int) := by
            rw [vi_len, List.length_cons, hrl]
            omega
          refine ⟨out ++ [(tn : Int), (cs.length : Int)], some (V.ref r), some (V.int (e' : Int)), rfl, ((s2.trans s3).wr hq1).wr hq1, ?_, ?_, by simp; omega, fun j u f h1 h2 => keep _ _ u f (hts j u f h1 h2), hmore⟩
          · rw [upd_ne nqp, upd_ne nqp]
            exact s3 _ _ e1
          · rw [upd_same]
            show some (HO.lst (vi (0 :: out) ++ [V.int (tn : Int)] ++ [V.int ((((vi ((tn : Int) :: rest)).length : Int) - 1) / 3)])) = _
            rw [hval, List.append_assoc]
            have : vi (0 :: (out ++ [(tn : Int), (cs.length : Int)])) = vi (0 :: out) ++ vi [(tn : Int), (cs.length : Int)] := vi_app (0 :: out) _
            rw [this]
            rfl
      · cases e5 : parseTickRow l with
        | some z => rw [e5] at c; exact nomatch c
        | none =>
          rw [e5] at hmore
          refine ⟨out, some (V.ref r), some (V.int (e' : Int)), rfl, s2.trans s3, s3 _ _ e1, s3 _ _ e2, by omega, fun j u f h1 h2 => (hts j u f h1 h2).same s3, ?_⟩
          rw [hmore]
          exact List.append_nil _
    · rintro σ H' ⟨out, v3, v4, rfl, s2, e1, e2, hol, hts, hfm⟩
      rw [List.length_map, f2, List.take_length] at hfm
      rw [hfm] at hq
      refine ⟨_, rfl, hq _ q (ses_same hs s2) e2 (ho.s0.free hq1)⟩
end
end TS
namespace TS
open PySem PySem.Spec PyProof.Rows L2 Vbwsai
section
variable {P : Program} {w : World} {K : PySem.W.Frag} {mg : Str → Option Value} {base : Heap} {A : Ad}
abbrev s_show_checksum : Stmt := top 89
theorem sc_show_checksum : FnScope ["data"] ["data"] (defScope s_show_checksum) := ⟨rfl, rfl, rfl, by decide +kernel, rfl, by decide +kernel, by decide +kernel⟩
theorem ok_show_checksum (T : Txt K mg A) (F : FunAt K mg "show_checksum" s_show_checksum ["data"]) (d_checksum : Fn P w K mg base 1 "checksum" ["data"] (sp_checksum K A)) : Fn P w K mg base 2 "show_checksum" ["data"] (sp_show_checksum K A) := by
  obtain ⟨f, fd, F, hmg, hb⟩ := F
  refine ⟨f, fd, F.ok sc_show_checksum (fun vs H Q E h => ?_) (fun cdv Ar outer s H vs Q E hr h => ?_), hmg, F.kp, hb⟩
  · exact S1.len h
  refine ⟨_, (pss_one (ps_ret (pe_lst (pa_cons pe_int (pa_cons (pe_fn d_checksum (hr.mono (by decide)) rfl (pa_cons (pv 0) pa_nil)) pa_nil))))), ?_⟩
  obtain ⟨_, rfl, a, d, rfl, ha, hl, hq⟩ := h
  refine ⟨_, rfl, _, rfl, a, d, rfl, ha, by omega, fun H1 s1 => ⟨(by show 2 ≤ sizeLine; decide), fun p hp => ?_⟩⟩
  exact hq _ p (s1.up hp) (s1.free hp) upd_same
end
end TS
namespace TS
open PySem PySem.Spec PyProof.Rows L2 Vbwsai
section
variable {P : Program} {w : World} {K : PySem.W.Frag} {mg : Str → Option Value} {base : Heap} {A : Ad}
abbrev s_show_frame : Stmt := top 90
theorem sc_show_frame : FnScope ["row"] ["row"] (defScope s_show_frame) := ⟨rfl, rfl, rfl, by decide +kernel, rfl, by decide +kernel, by decide +kernel⟩
theorem ok_show_frame (T : Txt K mg A) (F : FunAt K mg "show_frame" s_show_frame ["row"]) (d_frame : Fn P w K mg base 4 "frame" ["row"] (sp_frame K A)) : Fn P w K mg base 5 "show_frame" ["row"] (sp_show_frame K A) := by
  obtain ⟨f, fd, F, hmg, hb⟩ := F
  refine ⟨f, fd, F.ok sc_show_frame (fun vs H Q E h => ?_) (fun cdv Ar outer s H vs Q E hr h => ?_), hmg, F.kp, hb⟩
  · exact S1.len h
  refine ⟨_, (pss_cons (ps_if (pt_cmpR op_gt (pe_callB call_len_seq (by rfl) T.b_len PySem.boot_len (pa_cons (pv 0) pa_nil)) (pe_cst T.c_LONGEST_ROW rfl) (nomark _)) (pss_one (ps_ret (pe_lst (pa_cons (pe_cst T.c_BAD_ARGUMENT rfl) pa_nil))))
      pss_nil)
      (pss_one (ps_ret (pe_op op_cat (pe_lst (pa_cons pe_int pa_nil)) (pe_fn d_frame (hr.mono (by decide)) rfl (pa_cons (pv 0) pa_nil)))))), ?_⟩
  obtain ⟨_, rfl, a, l, rfl, ha, hl, hsm, hq⟩ := h
  refine ⟨_, rfl, a, _, rfl, .inl (SqL.of ha), _, _, rfl, rfl, _, rfl, ifd (fun c => ?_) (fun c => ?_)⟩
  · rw [vi_len] at c
    rw [if_pos (by omega)] at hq
    exact ⟨(by show 1 ≤ sizeLine; decide), fun p hp => hq _ p (same_upd hp) hp upd_same⟩
  · rw [vi_len] at c
    rw [if_neg (by omega)] at hq
    refine ⟨(by show 1 ≤ sizeLine; decide), fun q hq1 => ?_⟩
    have t1 : Same H (upd H q (.lst [.int 0])) := same_upd hq1
    refine ⟨_, rfl, _, rfl, a, l, rfl, t1 _ _ ha, hsm, hl, fun H2 r s2 n2 e2 => ⟨q, r, _, _, rfl, rfl, s2 _ _ upd_same, e2, ?_, fun p hp => ?_⟩⟩
    · have := frame_len_le l
      rw [vb_len]
      show 1 + _ ≤ sizeLine
      rw [sizeLine_eq]
      omega
    · refine hq _ p ((t1.trans s2).up hp) ((t1.trans s2).free hp) ?_
      rw [upd_same]
      show some (HO.lst (V.int 0 :: vb (encodeFrame l))) = some (HO.lst (V.int 0 :: vi (toInts (encodeFrame l))))
      rw [vi_toInts]
end
end TS
namespace TS
open PySem PySem.Spec PyProof.Rows L2 Vbwsai
section
variable {P : Program} {w : World} {K : PySem.W.Frag} {mg : Str → Option Value} {base : Heap} {A : Ad}
abbrev s_Recovery_init : Stmt := inClass (top 92) 0
theorem sc_Recovery_init : FnScope ["self", "memory", "tick_count", "byte_count"] ["self", "memory", "tick_count", "byte_count"] (defScope s_Recovery_init) := ⟨rfl, rfl, rfl, by decide +kernel, rfl, by decide +kernel, by decide +kernel⟩
theorem ok_Recovery_init (T : Txt K mg A) (F : FunM K A.Recovery "__init__" "Recovery.__init__" s_Recovery_init ["self", "memory", "tick_count", "byte_count"])  : Me P w K mg base 1 A.Recovery "__init__" ["self", "memory", "tick_count", "byte_count"] (sp_Recovery_init K A) := by
  obtain ⟨f, fd, F, hmg, hb⟩ := F
  refine ⟨f, fd, F.ok sc_Recovery_init (fun vs H Q E h => ?_) (fun cdv Ar outer s H vs Q E hr h => ?_), hmg, hb⟩
  · exact S4.len h
  refine ⟨_, (pss_cons (ps_fld (pv 0) (pv 1) rfl)
      (pss_cons (ps_fld (pv 0) (pv 2) rfl)
      (pss_one (ps_fld (pv 0) (pv 3) rfl)))), ?_⟩
  obtain ⟨_, _, _, _, rfl, p, dx, m, tc, bc, rfl, rfl, rfl, rfl, hp, hq⟩ := h
  refine ⟨_, rfl, _, rfl, p, A.Recovery, dx, _, rfl, hp, T.k_Recovery, T.r_memory, (by show 0 < 1000; decide), ?_⟩
  refine ⟨_, rfl, _, rfl, p, A.Recovery, dx, _, rfl, upd_same, T.k_Recovery, T.r_tick_count, (by rw [pf_new]; show 1 < 1000; decide), ?_⟩
  refine ⟨_, rfl, _, rfl, p, A.Recovery, dx, _, rfl, upd_same, T.k_Recovery, T.r_byte_count, (by rw [pf_new, pf_past (by decide +kernel)]; show 2 < 1000; decide), ?_⟩
  rw [upd_upd, upd_upd, rF_made]
  exact hq
end
end TS
namespace TS
open PySem PySem.Spec PyProof.Rows L2 Vbwsai
section
variable {P : Program} {w : World} {K : PySem.W.Frag} {mg : Str → Option Value} {base : Heap} {A : Ad}
abbrev s_replayed_ticks : Stmt := top 93
theorem sc_replayed_ticks : FnScope ["journal", "checkpoint_number", "ticks", "number", "row", "end"] ["journal", "checkpoint_number"] (defScope s_replayed_ticks) := ⟨rfl, rfl, rfl, by decide +kernel, rfl, by decide +kernel, by decide +kernel⟩
theorem ok_replayed_ticks (T : Txt K mg A) (F : FunAt K mg "replayed_ticks" s_replayed_ticks ["journal", "checkpoint_number"]) (d_valid_frames : Fn P w K mg base 5 "valid_frames" ["data"] (sp_valid_frames K A)) (d_is_tick_row : Fn P w K mg base 4 "is_tick_row" ["row"] (sp_is_tick_row K A)) : Fn P w K mg base 6 "replayed_ticks" ["journal", "checkpoint_number"] (sp_replayed_ticks K A) := by
  obtain ⟨f, fd, F, hmg, hb⟩ := F
  refine ⟨f, fd, F.ok sc_replayed_ticks (fun vs H Q E h => ?_) (fun cdv Ar outer s H vs Q E hr h => ?_), hmg, F.kp, hb⟩
  · exact S2.len h
  refine ⟨_, (pss_cons (ps_set (i := 2) sc_replayed_ticks.nd rfl (Or.inl rfl) (pe_lst pa_nil))
      (pss_cons (ps_set (i := 3) sc_replayed_ticks.nd rfl (Or.inl rfl) (pv 1))
      (pss_cons (ps_for PassesOwn.never rfl (pi_list (pe_fn d_valid_frames (hr.mono (by decide)) rfl (pa_cons (pv 0) pa_nil))) (pg_tup rfl (pgs_cons (pg_name (i := 4) sc_replayed_ticks.nd rfl (Or.inl rfl)) (pgs_cons (pg_name (i := 5) sc_replayed_ticks.nd rfl (Or.inl rfl)) pgs_nil)))
      (pss_cons (ps_aug (i := 3) sc_replayed_ticks.nd rfl (Or.inl rfl) pe_int ip_add)
      (pss_cons (ps_if (PW.pt (pw_or (pt_not (pt_val (pe_fn d_is_tick_row (hr.mono (by decide)) rfl (pa_cons (pv 4) pa_nil)))) (pw_or1 (pt_cmpR op_ne (pe_ix ix_list (pv 4) pe_int (fun _ _ => rfl)) (pv 3) (nomark _))))) (pss_one (ps_ret (pv 2)))
      pss_nil)
      (pss_one (ps_expr (pe_bm PySem.F.plainAttrs_list PySem.F.slot_list_append PySem.F.type_list_append mt_append (pv 2) (pa_cons (pe_tup (pa_cons (pv 4) (pa_cons (pv 5) pa_nil))) pa_nil)))))))
      (pss_one (ps_ret (pv 2)))))), ?_⟩
  obtain ⟨_, _, rfl, a, d, t, rfl, rfl, ha, hb, hl, hq⟩ := h
  refine ⟨Nat.zero_le _, fun p hp => ?_⟩
  have sA : Same H (upd H p (.lst [])) := same_upd hp
  have eA : upd H p (.lst []) p = some (.lst []) := upd_same
  generalize hHA : upd H p (.lst []) = HA at *
  refine ⟨_, rfl, ?_⟩
  refine ⟨_, rfl, _, rfl, a, d, rfl, sA _ _ ha, hb, hl, fun H1 p1 s1 n1 ⟨ts, f1, f2, f3⟩ => ?_⟩
  have vl := vframes_len hb
  have fin : ∀ (H' : Hp) (us : List Addr) (i : Nat), Same H H' → H' p = some (.lst (us.map V.ref)) → us.length = i → (∀ (j : Nat) (u : Addr) (f : List Int × Nat), us[j]? = some u → (vframes d)[j]? = some f → PairAt HA H' u f) → i ≤ (vframes d).length →
      takeTicks t (vframes d) = (vframes d).take i → Q (.ref p) H' := fun H' us i hs hp2 hu hus hi htk => by
    refine hq H' p hs hp ⟨us, hp2, by rw [htk, List.length_take]; omega, fun j u f hj hf => ?_⟩
    rw [htk, List.getElem?_take] at hf
    split at hf
    · exact (hus j u f hj hf).older sA.dom
    · exact nomatch hf
  refine ⟨p1, rfl, ⟨_, SqL.of f1⟩, for_list (K := K) (a := p1) (xs := ts.map V.ref)
    (fun i σ H' => ∃ (us : List Addr) (v4 v5 : Option V), σ = [some (.ref a), some (.int (t : Int)), some (.ref p), some (.int ((t + i : Nat) : Int)), v4, v5] ∧ Same H H' ∧ Dom HA H' ∧ H' p1 = some (.lst (ts.map V.ref)) ∧ H' p = some (.lst (us.map V.ref)) ∧ us.length = i ∧
        (∀ (j : Nat) (u : Addr) (f : List Int × Nat), us[j]? = some u → (vframes d)[j]? = some f → PairAt HA H' u f) ∧ (∀ (j : Nat) (u : Addr) (f : List Int × Nat), ts[j]? = some u → (vframes d)[j]? = some f → PairAt HA H' u f) ∧
        takeTicks t (vframes d) = (vframes d).take i ++ takeTicks (t + i) ((vframes d).drop i))
    ⟨[], none, none, rfl, sA.trans s1, s1.dom, f1, s1 _ _ eA, rfl, fun j u f hj _ => by simp at hj, f3, rfl⟩ (fun i σ H' _ ⟨_, _, _, _, _, _, e1, _⟩ => SqL.of e1) ?_ ?_⟩
  · rintro i v σ H' hi ⟨us, v4, v5, rfl, s2, dm, e1, e2, hul, hus, hts, htk⟩
    obtain ⟨u, hu, rfl⟩ := frefs_inv hi
    obtain ⟨x, hx⟩ := get_len f2 hu
    obtain ⟨r, ht', hr', hn1, hn2⟩ := id (hts i u x hu hx)
    obtain ⟨hsm, hxl⟩ := vframes_sm hb hx
    have hil := lt_of_get hx
    obtain ⟨l, e'⟩ := x
    rw [drop_one hx] at htk
    have un : takeTicks (t + i) ((l, e') :: (vframes d).drop (i + 1)) = (match parseTickRow l with
        | none => []
        | some (n, _) => if n ≠ t + i + 1 then [] else (l, e') :: takeTicks n ((vframes d).drop (i + 1))) := rfl
    rw [un] at htk
    refine ⟨u, _, rfl, SqT.of ht', rfl, _, _, rfl, _, _, rfl, rfl, ?_⟩
    refine ⟨_, rfl, _, _, rfl, rfl, ?_⟩
    refine ⟨_, rfl, _, rfl, r, l, rfl, hr', by have : l.length ≤ d.length := hxl; omega, fun H2 s3 => ⟨_, rfl, ifnb (fun c => iteT ?_) (fun c => ?_)⟩⟩
    · refine ⟨_, rfl, fin H2 us i (s2.trans s3) (s3 _ _ e2) hul (fun j u f h1 h2 => (hus j u f h1 h2).same s3) (by omega) ?_⟩
      cases e5 : parseTickRow l with
      | none => rw [e5] at htk; rw [htk]; exact List.append_nil _
      | some z => rw [e5] at c; exact nomatch c
    · cases e5 : parseTickRow l with
      | none => rw [e5] at c; exact nomatch c
      | some z =>
        obtain ⟨n, cs⟩ := z
        obtain ⟨rest, rfl, hcs, hn⟩ := parseTick_cons e5
        rw [e5] at htk
        have htk2 : takeTicks t (vframes d) = (vframes d).take i ++ (if n ≠ t + i + 1 then [] else ((n : Int) :: rest, e') :: takeTicks n ((vframes d).drop (i + 1))) := htk
        refine ⟨_, rfl, r, _, _, _, rfl, rfl, SqL.of (s3 _ _ hr'), at_viI 0 rfl rfl, _, rfl, rfl, _, rfl, ifn (fun c2 => ?_) (fun c2 => ?_)⟩
        · refine ⟨_, rfl, fin H2 us i (s2.trans s3) (s3 _ _ e2) hul (fun j u f h1 h2 => (hus j u f h1 h2).same s3) (by omega) ?_⟩
          rw [if_pos (fun z => c2 (congrArg V.int (by show (n : Int) = ((t + i : Nat) : Int) + 1; omega)))] at htk2
          rw [htk2]; exact List.append_nil _
        · have c2' : (n : Int) = ((t + i : Nat) : Int) + 1 := V.int.inj c2
          rw [if_neg (by omega)] at htk2
          refine ⟨_, rfl, .inl ⟨rfl, _, SqL.of (s3 _ _ e2)⟩, _, rfl, _, rfl, (by show 2 ≤ sizeLine; decide), fun w hw => ?_⟩
          have e2' := (same_upd (o := .tup [.ref r, .int (e' : Int)]) hw) _ _ (s3 _ _ e2)
          refine ⟨p, _, _, rfl, rfl, e2', lim_sz (by rw [List.length_map]; omega), ?_⟩
          have s4 : Same H' (upd H2 w (.tup [.ref r, .int (e' : Int)])) := s3.up hw
          have keep : ∀ (u : Addr) (f : List Int × Nat), PairAt HA H' u f → PairAt HA (upd (upd H2 w (.tup [.ref r, .int (e' : Int)])) p (.lst (us.map V.ref ++ [V.ref w]))) u f := fun u f hp3 => (hp3.same s4).wr eA
          refine ⟨us ++ [w], some (V.ref r), some (V.int (e' : Int)), ?_, (s2.trans s4).wr hp, (dm.trans s4.dom).up, ?_, ?_, by simp [hul], ?_, fun j u f h1 h2 => keep u f (hts j u f h1 h2), ?_⟩
          · show [some (V.ref a), some (V.int (t : Int)), some (V.ref p), some (V.int (((t + i : Nat) : Int) + 1)), some (V.ref r), some (V.int (e' : Int))] = _
            rw [show (((t + i : Nat) : Int) + 1) = ((t + (i + 1) : Nat) : Int) by omega]
          · rw [upd_ne]
            · exact s4 _ _ e1
            · intro z
              rw [z] at n1
              rw [n1] at eA
              exact nomatch eA
          · rw [upd_same, List.map_append]; rfl
          · intro j u2 f h1 h2
            rcases Nat.lt_or_ge j us.length with c3 | c3
            · rw [List.getElem?_append_left c3] at h1
              exact keep u2 f (hus j u2 f h1 h2)
            · rw [List.getElem?_append_right c3] at h1
              have c4 : j - us.length = 0 := by
                have := lt_of_get h1
                simp at this; omega
              rw [c4] at h1
              obtain rfl : w = u2 := Option.some.inj h1
              rw [show j = i by omega, hx] at h2
              obtain rfl := Option.some.inj h2
              refine PairAt.wr ⟨r, upd_same, ?_, dm _ (s3.free hw), hn2⟩ eA
              exact s4 _ _ hr'
          · rw [htk2, take_more hx, List.append_assoc, show t + (i + 1) = n by omega]
            rfl
  · rintro σ H' ⟨us, v4, v5, rfl, s2, dm, e1, e2, hul, hus, hts, htk⟩
    rw [List.length_map] at hul htk
    rw [f2, List.drop_length] at htk
    refine ⟨_, rfl, fin H' us (vframes d).length s2 e2 (by rw [hul, f2]) hus (Nat.le_refl _) ?_⟩
    rw [htk]
    exact List.append_nil _
end
end TS
namespace TS
open PySem PySem.Spec PyProof.Rows L2 Vbwsai
section
variable {P : Program} {w : World} {K : PySem.W.Frag} {mg : Str → Option Value} {base : Heap} {A : Ad}
abbrev s_recovered_side : Stmt := top 94
theorem sc_recovered_side : FnScope ["files", "side", "commit_number", "checkpoint", "tick_number", "entries", "byte_count", "ticks", "row", "end"] ["files", "side", "commit_number"] (defScope s_recovered_side) := ⟨rfl, rfl, rfl, by decide +kernel, rfl, by decide +kernel, by decide +kernel⟩
theorem ok_recovered_side (T : Txt K mg A) (F : FunAt K mg "recovered_side" s_recovered_side ["files", "side", "commit_number"]) (d_read_checkpoint : Fn P w K mg base 6 "read_checkpoint" ["data"] (sp_read_checkpoint K A)) (d_checkpoint_file : Fn P w K mg base 1 "checkpoint_file" ["side"] (sp_checkpoint_file K A)) (d_checkpoint_entries : Fn P w K mg base 1 "checkpoint_entries" ["row"] (sp_checkpoint_entries K A)) (d_replayed_ticks : Fn P w K mg base 6 "replayed_ticks" ["journal", "checkpoint_number"] (sp_replayed_ticks K A)) (d_journal_file : Fn P w K mg base 1 "journal_file" ["side"] (sp_journal_file K A)) (d_changed_entries : Fn P w K mg base 1 "changed_entries" ["entries", "changes"] (sp_changed_entries K A)) (d_Recovery : Mak P w K mg base 1 "Recovery" A.Recovery ["self", "memory", "tick_count", "byte_count"] (sp_Recovery_init K A)) (d_Memory : Mak P w K mg base 1 "Memory" A.Memory ["self", "tick_number", "entries", "side", "commit_number"] (sp_Memory_init K A)) : Fn P w K mg base 7 "recovered_side" ["files", "side", "commit_number"] (sp_recovered_side K A) := by
  obtain ⟨f, fd, F, hmg, hb⟩ := F
  refine ⟨f, fd, F.ok sc_recovered_side (fun vs H Q E h => ?_) (fun cdv Ar outer s H vs Q E hr h => ?_), hmg, F.kp, hb⟩
  · exact S3.len h
  refine ⟨_, (pss_cons (ps_set (i := 3) sc_recovered_side.nd rfl (Or.inl rfl) (pe_fn d_read_checkpoint (hr.mono (by decide)) rfl (pa_cons (pe_ix ix_list (pv 0) (pe_fn d_checkpoint_file (hr.mono (by decide)) rfl (pa_cons (pv 1) pa_nil)) (fun _ _ => rfl)) pa_nil)))
      (pss_cons (ps_if (pt_cmpR op_isN (pv 3) pe_non (nomark _)) (pss_one (ps_ret pe_non))
      pss_nil)
      (pss_cons (ps_set (i := 4) sc_recovered_side.nd rfl (Or.inl rfl) (pe_ix ix_list (pv 3) pe_int (fun _ _ => rfl)))
      (pss_cons (ps_set (i := 5) sc_recovered_side.nd rfl (Or.inl rfl) (pe_fn d_checkpoint_entries (hr.mono (by decide)) rfl (pa_cons (pv 3) pa_nil)))
      (pss_cons (ps_set (i := 6) sc_recovered_side.nd rfl (Or.inl rfl) pe_int)
      (pss_cons (ps_set (i := 7) sc_recovered_side.nd rfl (Or.inl rfl) (pe_fn d_replayed_ticks (hr.mono (by decide)) rfl (pa_cons (pe_ix ix_list (pv 0) (pe_fn d_journal_file (hr.mono (by decide)) rfl (pa_cons (pv 1) pa_nil)) (fun _ _ => rfl)) (pa_cons (pv 4) pa_nil))))
      (pss_cons (ps_for PassesOwn.never rfl (pi_list (pv 7)) (pg_tup rfl (pgs_cons (pg_name (i := 8) sc_recovered_side.nd rfl (Or.inl rfl)) (pgs_cons (pg_name (i := 9) sc_recovered_side.nd rfl (Or.inl rfl)) pgs_nil)))
      (pss_cons (ps_set (i := 4) sc_recovered_side.nd rfl (Or.inl rfl) (pe_ix ix_list (pv 8) pe_int (fun _ _ => rfl)))
      (pss_cons (ps_set (i := 5) sc_recovered_side.nd rfl (Or.inl rfl) (pe_fn d_changed_entries (hr.mono (by decide)) rfl (pa_cons (pv 5) (pa_cons (pe_slice sl_list (pv 8) (po_some pe_int) po_none) pa_nil))))
      (pss_one (ps_set (i := 6) sc_recovered_side.nd rfl (Or.inl rfl) (pv 9))))))
      (pss_one (ps_ret (pe_mk d_Recovery (hr.mono (by decide)) rfl (pa_cons (pe_mk d_Memory (hr.mono (by decide)) rfl (pa_cons (pv 4) (pa_cons (pv 5) (pa_cons (pv 1) (pa_cons (pv 2) pa_nil))))) (pa_cons (pe_callB call_len_seq (by rfl) T.b_len PySem.boot_len (pa_cons (pv 7) pa_nil)) (pa_cons (pv 6) pa_nil))))))))))))), ?_⟩
  obtain ⟨_, _, _, rfl, H0, F, ps, d, sd, n, rfl, rfl, rfl, fl, hwf, hsm6, hsd, hq⟩ := h
  obtain ⟨ac, hac1, hac2, hac3, _⟩ := fl.get (ck_get hwf hsd)
  obtain ⟨aj, haj1, haj2, haj3, _⟩ := fl.get (j_get hwf hsd)
  obtain ⟨cb, cl⟩ := hsm6 _ (List.mem_of_getElem? (ck_get hwf hsd))
  obtain ⟨jb, jl⟩ := hsm6 _ (List.mem_of_getElem? (j_get hwf hsd))
  have rs : readSide d sd = (match readCheckpoint (checkpointFile d sd) with
    | none => none
    | some (t, s) => some (t, replay t s (journalFile d sd))) := rfl
  rw [rs] at hq
  refine ⟨_, rfl, _, rfl, _, rfl, (sd : Int), rfl, F, _, _, _, rfl, rfl, SqL.of fl.hF, atI_nat hac2, _, rfl, ac, _, rfl, hac3, cb, cl, fun H1 v s1 hv => ?_⟩
  cases e : readCheckpoint (checkpointFile d sd) with
  | none =>
    rw [e] at hv hq
    obtain rfl : v = V.non := hv
    exact ⟨_, rfl, rfl, _, rfl, ifd (fun _ => hq _ _ s1 rfl) (fun c => absurd rfl c)⟩
  | some y =>
    obtain ⟨t0, w0⟩ := y
    rw [e] at hv hq
    obtain ⟨r, l, rfl, hr', hpl, hll, hlsm⟩ := hv
    obtain ⟨rest, rfl, hst0⟩ := parseCk_cons hpl
    have hq1 : ∀ (H' : Hp) (v : V), Same H H' → RecAt A H H' v sd n (t0, replay t0 w0 (journalFile d sd)) → Q v H' := hq
    obtain ⟨rp, rpl⟩ := replay_eq jb t0 w0
    rw [rp] at hq1
    refine ⟨_, rfl, rfl, _, rfl, ifd (fun c => nomatch c) (fun _ => ?_)⟩
    refine ⟨_, rfl, r, _, _, _, rfl, rfl, SqL.of hr', at_viI 0 rfl rfl, ?_⟩
    refine ⟨_, rfl, _, rfl, r, _, t0, w0, rfl, hr', hll, hpl, fun H2 e2 kvs s2 n2 he2 en2 => ?_⟩
    refine ⟨_, rfl, _, rfl, _, rfl, (sd : Int), rfl, F, _, _, _, rfl, rfl, SqL.of ((fl.same s1).same s2).hF, atI_nat (j := 2 + sd) haj2, ?_⟩
    refine ⟨_, rfl, _, _, rfl, aj, journalFile d sd, t0, rfl, rfl, s2 _ _ (s1 _ _ haj3), jb, jl, fun H3 p s3 n3 ⟨ts, f1, f2, f3⟩ => ?_⟩
    have s123 : Same H H3 := (s1.trans s2).trans s3
    have hen : H e2 = none := s1.free n2
    generalize htk : takeTicks t0 (vframes (journalFile d sd)) = tk at *
    refine ⟨_, rfl, p, rfl, ⟨_, SqL.of f1⟩, for_list (K := K) (a := p) (xs := ts.map V.ref)
      (fun i σ H' => ∃ (e : Addr) (kv : List (Key × V)) (v8 v9 : Option V), σ = [some (.ref F), some (.int (sd : Int)), some (.int (n : Int)), some (.ref r), some (.int ((t0 + i : Nat) : Int)), some (.ref e), some (.int ((lastE 0 (tk.take i) : Nat) : Int)), some (.ref p), v8, v9] ∧
          Same H3 H' ∧ H' e = some (.dK kv) ∧ H e = none ∧ Ent kv ((tk.take i).foldl after w0))
      ⟨e2, kvs, none, none, rfl, Same.refl H3, s3 _ _ he2, hen, en2⟩ (fun i σ H' _ ⟨_, _, _, _, _, s4, _⟩ => SqL.of (s4 _ _ f1)) ?_ ?_⟩
    · rintro i v σ H' hi ⟨e, kv, v8, v9, rfl, s4, he, hen2, en⟩
      obtain ⟨u, hu, rfl⟩ := frefs_inv hi
      obtain ⟨x, hx⟩ := get_len f2 hu
      obtain ⟨q, hu', hq', _, _⟩ := (f3 i u x hu hx).same s4
      obtain ⟨cs, hcs⟩ := takeTicks_get (vframes (journalFile d sd)) t0 i x (by rw [htk]; exact hx)
      obtain ⟨rest2, hl2, hpc, _⟩ := parseTick_cons hcs
      have hxl : x.1.length ≤ 1000000 := by
        obtain ⟨k, hk⟩ := take_ticks_pre (vframes (journalFile d sd)) t0
        rw [htk] at hk
        have hx2 := hx
        rw [hk, List.getElem?_take] at hx2
        split at hx2
        · have := (vframes_sm jb hx2).2
          omega
        · exact nomatch hx2
      obtain ⟨l2, e3⟩ := x
      have hl2' : l2 = ((t0 + i + 1 : Nat) : Int) :: rest2 := hl2
      subst hl2'
      refine ⟨u, _, rfl, SqT.of hu', rfl, _, _, rfl, _, _, rfl, rfl, ?_⟩
      refine ⟨_, rfl, q, _, _, _, rfl, rfl, SqL.of hq', at_viI 0 rfl rfl, ?_⟩
      refine ⟨_, rfl, _, rfl, _, rfl, q, _, rfl, SqL.of hq', fun c hc => ?_⟩
      have ec : cutV (vi (((t0 + i + 1 : Nat) : Int) :: rest2)) (some 1) none = vi rest2 := cut_lo _ 1
      rw [ec]
      have t5 : Same H' (upd H' c (.lst (vi rest2))) := same_upd hc
      refine ⟨_, _, rfl, e, c, kv, _, rest2, cs, rfl, rfl, t5 _ _ he, en, upd_same, by simp at hxl; omega, hpc, fun H6 p6 kv6 s6 n6 e6 en6 => ?_⟩
      refine ⟨_, rfl, ?_⟩
      refine ⟨p6, kv6, some (V.ref q), some (V.int (e3 : Int)), ?_, (s4.trans t5).trans s6, e6, (s123.trans (s4.trans t5)).free n6, ?_⟩
      · rw [take_more hx, lastE_snoc]
        rfl
      · rw [take_more hx, List.foldl_append]
        have ea : after ((tk.take i).foldl after w0) (((t0 + i + 1 : Nat) : Int) :: rest2, e3) = applyChanges ((tk.take i).foldl after w0) cs := by
          unfold after
          rw [hcs]
        show Ent kv6 (after ((tk.take i).foldl after w0) (((t0 + i + 1 : Nat) : Int) :: rest2, e3))
        rw [ea]
        exact en6
    · rintro σ H' ⟨e, kv, v8, v9, rfl, s4, he, hen2, en⟩
      rw [List.length_map, f2, List.take_length] at en ⊢
      have sH' := s123.trans s4
      refine ⟨_, rfl, _, rfl, _, rfl, _, rfl, fun m dm nm ndm ne => ?_⟩
      refine ⟨_, _, _, _, _, rfl, m, dm, _, e, _, _, rfl, rfl, rfl, rfl, rfl, upd_same, rfl, ?_⟩
      rw [upd_upd]
      have nm' : upd H' dm (.own m) m = none := by rw [upd_ne ne.symm]; exact nm
      have s5 : Same H' (upd (upd H' dm (.own m)) m (.ins A.Memory dm (mF ((t0 + tk.length : Nat) : Int) e sd n .non))) := (same_upd ndm).up nm'
      have hm5 : upd (upd H' dm (.own m)) m (.ins A.Memory dm (mF ((t0 + tk.length : Nat) : Int) e sd n .non)) m = some (.ins A.Memory dm (mF ((t0 + tk.length : Nat) : Int) e sd n .non)) := upd_same
      refine ⟨_, rfl, p, _, rfl, .inl (SqL.of (s5 _ _ (s4 _ _ f1))), _, rfl, ?_⟩
      generalize hG : upd (upd H' dm (.own m)) m (.ins A.Memory dm (mF ((t0 + tk.length : Nat) : Int) e sd n .non)) = G at *
      intro x dx nx ndx nex
      refine ⟨_, _, _, _, rfl, x, dx, m, _, _, rfl, rfl, rfl, rfl, upd_same, rfl, ?_⟩
      rw [upd_upd]
      have nx' : upd G dx (.own x) x = none := by rw [upd_ne nex.symm]; exact nx
      have s6 : Same G (upd (upd G dx (.own x)) x (.ins A.Recovery dx (rF m ((ts.map V.ref).length : Nat) ((lastE 0 tk : Nat) : Int)))) := (same_upd ndx).up nx'
      refine hq1 _ _ ((sH'.trans s5).trans s6) ⟨x, dx, m, dm, e, kv, rfl, ?_, s6 _ _ hm5, s6 _ _ (s5 _ _ he), en, (sH').free nm, hen2⟩
      rw [upd_same]
      show some (HO.ins A.Recovery dx (rF m ((ts.map V.ref).length : Nat) ((lastE 0 tk : Nat) : Int))) = some (HO.ins A.Recovery dx (rF m ((tk.length : Nat) : Int) ((lastE 0 tk : Nat) : Int)))
      rw [List.length_map, f2]
end
end TS
namespace TS
open PySem PySem.Spec PyProof.Rows L2 Vbwsai
section
variable {P : Program} {w : World} {K : PySem.W.Frag} {mg : Str → Option Value} {base : Heap} {A : Ad}
abbrev s_commits_in_order : Stmt := top 95
theorem sc_commits_in_order : FnScope ["files", "even", "odd"] ["files"] (defScope s_commits_in_order) := ⟨rfl, rfl, rfl, by decide +kernel, rfl, by decide +kernel, by decide +kernel⟩
theorem ok_commits_in_order (T : Txt K mg A) (F : FunAt K mg "commits_in_order" s_commits_in_order ["files"]) (d_read_commit : Fn P w K mg base 6 "read_commit" ["data"] (sp_read_commit K A)) (d_commit_file : Fn P w K mg base 1 "commit_file" ["number"] (sp_commit_file K A)) : Fn P w K mg base 7 "commits_in_order" ["files"] (sp_commits_in_order K A) := by
  obtain ⟨f, fd, F, hmg, hb⟩ := F
  refine ⟨f, fd, F.ok sc_commits_in_order (fun vs H Q E h => ?_) (fun cdv Ar outer s H vs Q E hr h => ?_), hmg, F.kp, hb⟩
  · exact S1.len h
  refine ⟨_, (pss_cons (ps_set (i := 1) sc_commits_in_order.nd rfl (Or.inl rfl) (pe_fn d_read_commit (hr.mono (by decide)) rfl (pa_cons (pe_ix ix_list (pv 0) (pe_fn d_commit_file (hr.mono (by decide)) rfl (pa_cons pe_int pa_nil)) (fun _ _ => rfl)) pa_nil)))
      (pss_cons (ps_set (i := 2) sc_commits_in_order.nd rfl (Or.inl rfl) (pe_fn d_read_commit (hr.mono (by decide)) rfl (pa_cons (pe_ix ix_list (pv 0) (pe_fn d_commit_file (hr.mono (by decide)) rfl (pa_cons pe_int pa_nil)) (fun _ _ => rfl)) pa_nil)))
      (pss_cons (ps_if (PW.pt (pw_and (pt_cmpR op_isN (pv 1) pe_non (nomark _)) (pw_and1 (pt_cmpR op_isN (pv 2) pe_non (nomark _))))) (pss_one (ps_ret (pe_lst pa_nil)))
      pss_nil)
      (pss_cons (ps_if (pt_cmpR op_isN (pv 2) pe_non (nomark _)) (pss_one (ps_ret (pe_lst (pa_cons (pv 1) pa_nil))))
      pss_nil)
      (pss_cons (ps_if (pt_cmpR op_isN (pv 1) pe_non (nomark _)) (pss_one (ps_ret (pe_lst (pa_cons (pv 2) pa_nil))))
      pss_nil)
      (pss_cons (ps_if (pt_cmpR op_gt (pe_ix ix_list (pv 2) pe_int (fun _ _ => rfl)) (pe_ix ix_list (pv 1) pe_int (fun _ _ => rfl)) (nomark _)) (pss_one (ps_ret (pe_lst (pa_cons (pv 2) (pa_cons (pv 1) pa_nil)))))
      pss_nil)
      (pss_one (ps_ret (pe_lst (pa_cons (pv 1) (pa_cons (pv 2) pa_nil))))))))))), ?_⟩
  obtain ⟨_, rfl, H0, F, ps, d, rfl, fl, hwf, hsm6, hq⟩ := h
  obtain ⟨a4, _, ha42, ha43, _⟩ := fl.get (m_get hwf (i := 0) (by decide))
  obtain ⟨a5, _, ha52, ha53, _⟩ := fl.get (m_get hwf (i := 1) (by decide))
  obtain ⟨b4, l4⟩ := hsm6 _ (List.mem_of_getElem? (m_get hwf (i := 0) (by decide)))
  obtain ⟨b5, l5⟩ := hsm6 _ (List.mem_of_getElem? (m_get hwf (i := 1) (by decide)))
  have vc : validCommits d = (match readCommit (commitFile d 0), readCommit (commitFile d 1) with
    | some a, some b => if a.1 < b.1 then [b, a] else [a, b]
    | some a, none => [a]
    | none, some b => [b]
    | none, none => []) := rfl
  rw [vc] at hq
  refine ⟨_, rfl, _, rfl, 0, rfl, F, _, _, _, rfl, rfl, SqL.of fl.hF, atI_nat (j := 4) ha42, _, rfl, a4, _, rfl, ha43, b4, l4, fun H1 v1 s1 hv1 => ?_⟩
  refine ⟨_, rfl, _, rfl, 1, rfl, F, _, _, _, rfl, rfl, SqL.of (fl.same s1).hF, atI_nat (j := 5) ha52, _, rfl, a5, _, rfl, s1 _ _ ha53, b5, l5, fun H2 v2 s2 hv2 => ?_⟩
  have s12 := s1.trans s2
  cases e0 : readCommit (commitFile d 0) with
  | none =>
    rw [e0] at hv1 hq
    obtain rfl : v1 = V.non := hv1
    cases e1 : readCommit (commitFile d 1) with
    | none =>
      rw [e1] at hv2 hq
      obtain rfl : v2 = V.non := hv2
      refine ⟨_, rfl, rfl, _, rfl, ifd (fun _ => ⟨_, rfl, rfl, _, rfl, ifd (fun _ => ⟨Nat.zero_le _, fun p hp => ?_⟩) (fun c => absurd rfl c)⟩) (fun c => absurd rfl c)⟩
      exact hq _ p (s12.up hp) (s12.free hp) ⟨[], upd_same, rfl, fun y hy => by simp at hy⟩
    | some y1 =>
      rw [e1] at hv2 hq
      obtain ⟨r1, rfl, hr1, hsm1, hl1⟩ := hv2
      refine ⟨_, rfl, rfl, _, rfl, ifd (fun _ => ⟨_, rfl, rfl, _, rfl, ifd (fun c => nomatch c) (fun _ => ?_)⟩) (fun c => absurd rfl c)⟩
      refine ⟨_, rfl, rfl, _, rfl, ifd (fun c => nomatch c) (fun _ => ?_)⟩
      refine ⟨_, rfl, rfl, _, rfl, ifd (fun _ => ?_) (fun c => absurd rfl c)⟩
      refine ⟨_, rfl, (by show 1 ≤ sizeLine; decide), fun p hp => ?_⟩
      refine hq _ p (s12.up hp) (s12.free hp) ⟨[(r1, y1)], upd_same, rfl, fun y hy => ?_⟩
      rw [List.mem_singleton.mp hy]
      exact ⟨by rw [upd_ne (ne_of_none hr1 hp)]; exact hr1, hsm1, hl1⟩
  | some y0 =>
    rw [e0] at hv1 hq
    obtain ⟨r0, rfl, hr0, hsm0, hl0⟩ := hv1
    cases e1 : readCommit (commitFile d 1) with
    | none =>
      rw [e1] at hv2 hq
      obtain rfl : v2 = V.non := hv2
      refine ⟨_, rfl, rfl, _, rfl, ifd (fun c => nomatch c) (fun _ => iteF ?_)⟩
      refine ⟨_, rfl, rfl, _, rfl, ifd (fun _ => ?_) (fun c => absurd rfl c)⟩
      refine ⟨_, rfl, (by show 1 ≤ sizeLine; decide), fun p hp => ?_⟩
      refine hq _ p (s12.up hp) (s12.free hp) ⟨[(r0, y0)], upd_same, rfl, fun y hy => ?_⟩
      rw [List.mem_singleton.mp hy]
      exact ⟨by rw [upd_ne (ne_of_none (s2 _ _ hr0) hp)]; exact s2 _ _ hr0, hsm0, hl0⟩
    | some y1 =>
      rw [e1] at hv2 hq
      obtain ⟨r1, rfl, hr1, hsm1, hl1⟩ := hv2
      have hq2 : ∀ (H' : Hp) (p : Addr), Same H H' → H p = none → CommitsAt H' p (if y0.1 < y1.1 then [y1, y0] else [y0, y1]) → Q (.ref p) H' := hq
      refine ⟨_, rfl, rfl, _, rfl, ifd (fun c => nomatch c) (fun _ => iteF ?_)⟩
      refine ⟨_, rfl, rfl, _, rfl, ifd (fun c => nomatch c) (fun _ => ?_)⟩
      refine ⟨_, rfl, rfl, _, rfl, ifd (fun c => nomatch c) (fun _ => ?_)⟩
      refine ⟨_, rfl, r1, _, _, _, rfl, rfl, SqL.of hr1, rfl, _, rfl, r0, _, _, _, rfl, rfl, SqL.of (s2 _ _ hr0), rfl, _, _, rfl, rfl, _, rfl, ifd (fun c => ?_) (fun c => ?_)⟩
      · refine ⟨_, rfl, _, rfl, (by show 2 ≤ sizeLine; decide), fun p hp => ?_⟩
        rw [if_pos (by omega)] at hq2
        refine hq2 _ p (s12.up hp) (s12.free hp) ⟨[(r1, y1), (r0, y0)], upd_same, rfl, fun y hy => ?_⟩
        rcases List.mem_cons.mp hy with w | w
        · rw [w]; exact ⟨by rw [upd_ne (ne_of_none hr1 hp)]; exact hr1, hsm1, hl1⟩
        · rw [List.mem_singleton.mp w]
          exact ⟨by rw [upd_ne (ne_of_none (s2 _ _ hr0) hp)]; exact s2 _ _ hr0, hsm0, hl0⟩
      · refine ⟨_, rfl, _, rfl, (by show 2 ≤ sizeLine; decide), fun p hp => ?_⟩
        rw [if_neg (by omega)] at hq2
        refine hq2 _ p (s12.up hp) (s12.free hp) ⟨[(r0, y0), (r1, y1)], upd_same, rfl, fun y hy => ?_⟩
        rcases List.mem_cons.mp hy with w | w
        · rw [w]; exact ⟨by rw [upd_ne (ne_of_none (s2 _ _ hr0) hp)]; exact s2 _ _ hr0, hsm0, hl0⟩
        · rw [List.mem_singleton.mp w]
          exact ⟨by rw [upd_ne (ne_of_none hr1 hp)]; exact hr1, hsm1, hl1⟩
end
end TS
namespace TS
open PySem PySem.Spec PyProof.Rows L2 Vbwsai
section
variable {P : Program} {w : World} {K : PySem.W.Frag} {mg : Str → Option Value} {base : Heap} {A : Ad}
abbrev s_recovered : Stmt := top 96
theorem sc_recovered : FnScope ["files", "commit", "found"] ["files"] (defScope s_recovered) := ⟨rfl, rfl, rfl, by decide +kernel, rfl, by decide +kernel, by decide +kernel⟩
theorem ok_recovered (T : Txt K mg A) (F : FunAt K mg "recovered" s_recovered ["files"]) (d_commits_in_order : Fn P w K mg base 7 "commits_in_order" ["files"] (sp_commits_in_order K A)) (d_recovered_side : Fn P w K mg base 7 "recovered_side" ["files", "side", "commit_number"] (sp_recovered_side K A)) : Fn P w K mg base 8 "recovered" ["files"] (sp_recovered K A) := by
  obtain ⟨f, fd, F, hmg, hb⟩ := F
  refine ⟨f, fd, F.ok sc_recovered (fun vs H Q E h => ?_) (fun cdv Ar outer s H vs Q E hr h => ?_), hmg, F.kp, hb⟩
  · exact S1.len h
  refine ⟨_, (pss_cons (ps_for PassesOwn.never rfl (pi_list (pe_fn d_commits_in_order (hr.mono (by decide)) rfl (pa_cons (pv 0) pa_nil))) (pg_name (i := 1) sc_recovered.nd rfl (Or.inl rfl))
      (pss_cons (ps_set (i := 2) sc_recovered.nd rfl (Or.inl rfl) (pe_fn d_recovered_side (hr.mono (by decide)) rfl (pa_cons (pv 0) (pa_cons (pe_ix ix_list (pv 1) pe_int (fun _ _ => rfl)) (pa_cons (pe_ix ix_list (pv 1) pe_int (fun _ _ => rfl)) pa_nil)))))
      (pss_one (ps_if (pt_cmpR op_notN (pv 2) pe_non (nomark _)) (pss_one (ps_ret (pv 2)))
      pss_nil))))
      (pss_one (ps_ret pe_non))), ?_⟩
  obtain ⟨_, rfl, H0, F, ps, d, rfl, fl, hwf, hsm6, hq⟩ := h
  refine ⟨_, rfl, _, rfl, H0, F, ps, d, rfl, fl, hwf, hsm6, fun H1 p s1 n1 ⟨rs, f1, f2, f3⟩ => ?_⟩
  have rd : recoverDisk d = (validCommits d).findSome? fun m => (readSide d m.2).map fun x => (m, x) := rfl
  rw [rd, ← f2] at hq
  refine ⟨p, rfl, ⟨_, SqL.of f1⟩, for_list (K := K) (a := p) (xs := rs.map fun y => V.ref y.1)
    (fun i σ H' => ∃ v1 v2, σ = [some (.ref F), v1, v2] ∧ Same H1 H' ∧ ((rs.map (·.2)).findSome? fun m => (readSide d m.2).map fun x => (m, x)) = (((rs.drop i).map (·.2)).findSome? fun m => (readSide d m.2).map fun x => (m, x)))
    ⟨none, none, rfl, Same.refl H1, rfl⟩ (fun i σ H' _ ⟨_, _, _, s2, _⟩ => SqL.of (s2 _ _ f1)) ?_ ?_⟩
  · rintro i v σ H' hi ⟨v1, v2, rfl, s2, hf⟩
    rw [List.getElem?_map] at hi
    cases hy : rs[i]? with
    | none => rw [hy] at hi; exact nomatch hi
    | some y =>
      rw [hy] at hi
      obtain rfl := (Option.some.inj hi).symm
      obtain ⟨g1, g2, g3⟩ := f3 y (List.mem_of_getElem? hy)
      have g1' := s2 _ _ g1
      have s12 := s1.trans s2
      rw [drop_one hy, List.map_cons, List.findSome?_cons] at hf
      refine ⟨_, rfl, _, rfl, y.1, _, _, _, rfl, rfl, SqL.of g1', rfl, _, rfl, y.1, _, _, _, rfl, rfl, SqL.of g1', rfl, _, _, _, rfl, H0, F, ps, d, y.2.2, y.2.1, rfl, rfl, rfl, fl.same s12, hwf, hsm6, g3, fun H2 v s3 hv => ?_⟩
      cases e : readSide d y.2.2 with
      | none =>
        rw [e] at hv hf
        obtain rfl : v = V.non := hv
        refine ⟨_, rfl, rfl, _, rfl, ifn (fun c => absurd rfl c) (fun _ => ?_)⟩
        exact ⟨some (V.ref y.1), some V.non, rfl, s2.trans s3, hf⟩
      | some r =>
        rw [e] at hv hf
        have hv' : RecAt A H' H2 v y.2.2 y.2.1 r := hv
        obtain ⟨x, dx, m, dm, e', kvs, rfl, k1, k2, k3, k4, k5, k6⟩ := hv'
        refine ⟨_, rfl, rfl, _, rfl, ifn (fun _ => ?_) (fun c => nomatch c)⟩
        refine ⟨_, rfl, hq _ _ (s12.trans s3) ?_⟩
        have hf' : ((rs.map (·.2)).findSome? fun m => (readSide d m.2).map fun x => (m, x)) = some (y.2, r) := hf
        rw [hf']
        exact ⟨⟨x, dx, m, dm, e', kvs, rfl, k1, k2, k3, k4, s12.free k5, s12.free k6⟩, g3, g2⟩
  · rintro σ H' ⟨v1, v2, rfl, s2, hf⟩
    rw [List.length_map, List.drop_length] at hf
    refine hq _ _ (s1.trans s2) ?_
    rw [hf]
    exact rfl
end
end TS
namespace TS
open PySem PySem.Spec PyProof.Rows L2 Vbwsai
section
variable {P : Program} {w : World} {K : PySem.W.Frag} {mg : Str → Option Value} {base : Heap} {A : Ad}
abbrev s_writable_count : Stmt := top 98
theorem sc_writable_count : FnScope ["power", "byte_count"] ["power", "byte_count"] (defScope s_writable_count) := ⟨rfl, rfl, rfl, by decide +kernel, rfl, by decide +kernel, by decide +kernel⟩
theorem ok_writable_count (T : Txt K mg A) (F : FunAt K mg "writable_count" s_writable_count ["power", "byte_count"])  : Fn P w K mg base 1 "writable_count" ["power", "byte_count"] (sp_writable_count K A) := by
  obtain ⟨f, fd, F, hmg, hb⟩ := F
  refine ⟨f, fd, F.ok sc_writable_count (fun vs H Q E h => ?_) (fun cdv Ar outer s H vs Q E hr h => ?_), hmg, F.kp, hb⟩
  · exact S2.len h
  refine ⟨_, (pss_cons (ps_if (pt_cmpR op_eq (pv 0) (pe_cst T.c_UNLIMITED rfl) (nomark _)) (pss_one (ps_ret (pv 1)))
      pss_nil)
      (pss_one (ps_ret (pe_callB (call_min2 rfl) (by rfl) T.b_min (by decide +kernel) (pa_cons (pv 0) (pa_cons (pv 1) pa_nil)))))), ?_⟩
  obtain ⟨_, _, rfl, pw, k, rfl, rfl, hpw, hq⟩ := h
  refine ⟨_, rfl, rfl, _, rfl, ifd (fun c => ⟨_, rfl, ?_⟩) (fun c => ⟨_, rfl, _, rfl, pw, k, rfl, ?_⟩)⟩
  · have c' : pw = -1 := V.int.inj c
    rw [if_pos (by omega)] at hq
    exact hq
  · have c' : ¬ pw = -1 := fun z => c (congrArg V.int z)
    rw [if_neg (by omega)] at hq
    have e1 : (if (k : Int) < pw then (k : Int) else pw) = ((min pw.toNat k : Nat) : Int) := by
      split <;> omega
    show Q (.int (if (k : Int) < pw then (k : Int) else pw)) H
    rw [e1]
    exact hq
end
end TS
namespace TS
open PySem PySem.Spec PyProof.Rows L2 Vbwsai
section
variable {P : Program} {w : World} {K : PySem.W.Frag} {mg : Str → Option Value} {base : Heap} {A : Ad}
abbrev s_reset : Stmt := top 99
theorem sc_reset : FnScope ["session"] ["session"] (defScope s_reset) := ⟨rfl, rfl, rfl, by decide +kernel, rfl, by decide +kernel, by decide +kernel⟩
theorem ok_reset (T : Txt K mg A) (F : FunAt K mg "reset" s_reset ["session"]) (d_start_anew : Me P w K mg base 6 A.Session "start_anew" ["self", "tick_number", "entries"] (sp_start_anew K A)) : Fn P w K mg base 7 "reset" ["session"] (sp_reset K A) := by
  obtain ⟨f, fd, F, hmg, hb⟩ := F
  refine ⟨f, fd, F.ok sc_reset (fun vs H Q E h => ?_) (fun cdv Ar outer s H vs Q E hr h => ?_), hmg, F.kp, hb⟩
  · exact S1.len h
  refine ⟨_, (pss_cons (ps_expr (pe_me d_start_anew T.k_Session (pv 0) (hr.mono (by decide)) (pa_cons pe_int (pa_cons pe_dnewK pa_nil))))
      (pss_one (ps_ret (pe_lst (pa_cons pe_int pa_nil))))), ?_⟩
  obtain ⟨_, rfl, H0, p, st, rfl, ⟨hs, _⟩, hq⟩ := h
  obtain ⟨dx, F0, mv, d0, hp, s0, p0⟩ := ses_ins hs
  refine ⟨_, rfl, p, dx, _, rfl, hp, sF_no (by decide +kernel) (by decide +kernel) (by decide +kernel), fun d hd => ?_⟩
  have npd : p ≠ d := ne_of_none hp hd
  refine ⟨_, _, _, rfl, p, dx, _, 0, d, [], [], rfl, rfl, rfl, by rw [upd_ne npd]; exact hp, .inr ⟨F0, mv, d0, rfl⟩, upd_same, Ent.nil, by unfold Sm; omega, fun H' F ps m dm k hp2 fl hm mn => ?_⟩
  have hses := ses_new (s0.up hd) p0 (by rw [upd_ne npd]; exact hp) upd_same (s0.free hd) Ent.nil k hp2 fl hm mn
  refine ⟨(by show 1 ≤ sizeLine; decide), fun q hq2 => ?_⟩
  exact hq _ q (ses_same hses (same_upd hq2)) upd_same ((ses_ins hses).choose_spec.choose_spec.choose_spec.choose_spec.2.1.free hq2)
end
end TS
namespace TS
open PySem PySem.Spec PyProof.Rows L2 Vbwsai
section
variable {P : Program} {w : World} {K : PySem.W.Frag} {mg : Str → Option Value} {base : Heap} {A : Ad}
abbrev s_written_journals : Stmt := top 100
theorem sc_written_journals : FnScope ["memory"] ["memory"] (defScope s_written_journals) := ⟨rfl, rfl, rfl, by decide +kernel, rfl, by decide +kernel, by decide +kernel⟩
theorem ok_written_journals (T : Txt K mg A) (F : FunAt K mg "written_journals" s_written_journals ["memory"]) (d_journal_file : Fn P w K mg base 1 "journal_file" ["side"] (sp_journal_file K A)) : Fn P w K mg base 2 "written_journals" ["memory"] (sp_written_journals K A) := by
  obtain ⟨f, fd, F, hmg, hb⟩ := F
  refine ⟨f, fd, F.ok sc_written_journals (fun vs H Q E h => ?_) (fun cdv Ar outer s H vs Q E hr h => ?_), hmg, F.kp, hb⟩
  · exact S1.len h
  refine ⟨_, (pss_cons (ps_if (pt_cmpR op_isN (pe_fld (pv 0) rfl) pe_non (nomark _)) (pss_one (ps_ret (pe_lst (pa_cons (pe_fn d_journal_file (hr.mono (by decide)) rfl (pa_cons (pe_fld (pv 0) rfl) pa_nil)) pa_nil))))
      pss_nil)
      (pss_one (ps_ret (pe_lst (pa_cons (pe_fn d_journal_file (hr.mono (by decide)) rfl (pa_cons (pe_fld (pv 0) rfl) pa_nil)) (pa_cons (pe_fn d_journal_file (hr.mono (by decide)) rfl (pa_cons (pe_op op_sub pe_int (pe_fld (pv 0) rfl)) pa_nil)) pa_nil)))))), ?_⟩
  obtain ⟨_, rfl, m, dm, e, t, n, sd, pd, rfl, hm, hsd, hq⟩ := h
  refine ⟨_, rfl, m, A.Memory, dm, _, _, rfl, hm, T.k_Memory, T.m_pending, mF_pend, rfl, _, rfl, ifd (fun c => ?_) (fun c => ?_)⟩
  · rw [if_pos c] at hq
    refine ⟨_, rfl, m, A.Memory, dm, _, _, rfl, hm, T.k_Memory, T.m_side, mF_side, _, rfl, (sd : Int), rfl, (by show 1 ≤ sizeLine; decide), fun p hp => ?_⟩
    exact hq _ p (same_upd hp) hp upd_same
  · rw [if_neg c] at hq
    refine ⟨_, rfl, m, A.Memory, dm, _, _, rfl, hm, T.k_Memory, T.m_side, mF_side, _, rfl, (sd : Int), rfl, ?_⟩
    refine ⟨_, rfl, m, A.Memory, dm, _, _, rfl, hm, T.k_Memory, T.m_side, mF_side, _, _, rfl, rfl, _, rfl, 1 - (sd : Int), rfl, (by show 2 ≤ sizeLine; decide), fun p hp => ?_⟩
    exact hq _ p (same_upd hp) hp upd_same
end
end TS
namespace TS
open PySem PySem.Spec PyProof.Rows L2 Vbwsai
section
variable {P : Program} {w : World} {K : PySem.W.Frag} {mg : Str → Option Value} {base : Heap} {A : Ad}
abbrev s_append_to_journals : Stmt := top 101
theorem sc_append_to_journals : FnScope ["files", "journals", "data", "byte_count", "left", "journal", "part"] ["files", "journals", "data", "byte_count"] (defScope s_append_to_journals) := ⟨rfl, rfl, rfl, by decide +kernel, rfl, by decide +kernel, by decide +kernel⟩
theorem ok_append_to_journals (T : Txt K mg A) (F : FunAt K mg "append_to_journals" s_append_to_journals ["files", "journals", "data", "byte_count"])  : Fn P w K mg base 1 "append_to_journals" ["files", "journals", "data", "byte_count"] (sp_append_to_journals K A) := by
  obtain ⟨f, fd, F, hmg, hb⟩ := F
  refine ⟨f, fd, F.ok sc_append_to_journals (fun vs H Q E h => ?_) (fun cdv Ar outer s H vs Q E hr h => ?_), hmg, F.kp, hb⟩
  · exact S4.len h
  refine ⟨_, (pss_cons (ps_set (i := 4) sc_append_to_journals.nd rfl (Or.inl rfl) (pv 3))
      (pss_one (ps_for PassesOwn.never rfl (pi_list (pv 1)) (pg_name (i := 5) sc_append_to_journals.nd rfl (Or.inl rfl))
      (pss_cons (ps_set (i := 6) sc_append_to_journals.nd rfl (Or.inl rfl) (pe_slice sl_list (pv 2) po_none (po_some (pv 4))))
      (pss_cons (ps_expr (pe_bm PySem.F.plainAttrs_list PySem.F.slot_list_extend PySem.F.type_list_extend mt_extend (pe_ix ix_list (pv 0) (pv 5) (fun _ _ => rfl)) (pa_cons (pv 6) pa_nil)))
      (pss_one (ps_aug (i := 4) sc_append_to_journals.nd rfl (Or.inl rfl) (pe_callB call_len_seq (by rfl) T.b_len PySem.boot_len (pa_cons (pv 6) pa_nil)) ip_sub))))))), ?_⟩
  obtain ⟨_, _, _, _, rfl, H0, p, dx, F, ps, m, dm, e, kvs, pd, bs, t, c, sd, n, po, dur, J, D, js, w0, k, rfl, rfl, rfl, rfl, hpow, hJ, hD, hjs, hjl, hwl, hbl, hq⟩ := h
  refine ⟨_, rfl, ?_⟩
  refine ⟨_, rfl, J, rfl, ⟨_, SqL.of (hpow.s0 _ _ hJ)⟩, for_list (K := K) (a := J) (xs := vb js)
    (fun i σ H' => ∃ (ps' : List (Addr × Bytes)) (v5 v6 : Option V) (left : Nat) (bs' : List Bytes), σ = [some (.ref F), some (.ref J), some (.ref D), some (.int (k : Int)), some (.int (left : Int)), v5, v6] ∧
        Pow A H0 H' p dx F ps' m dm e kvs pd bs' t c sd n po dur ∧ appendAll js w0 k bs = appendAll (js.drop i) w0 left bs' ∧ bs'.length = bs.length ∧ ∀ b ∈ bs', b.length ≤ 600000 + 2000 * i)
    ⟨ps, none, none, k, bs, rfl, hpow, rfl, rfl, hbl⟩ (fun i σ H' _ ⟨_, _, _, _, _, _, h1, _⟩ => SqL.of (h1.s0 _ _ hJ)) ?_ ?_⟩
  · rintro i y σ H' hi ⟨ps', v5, v6, left, bs', rfl, hp1, happ, hbl1, hbs1⟩
    obtain ⟨j, hj, rfl⟩ := vb_inv hi
    have hjm := hjs j (List.mem_of_getElem? hj)
    have hij := lt_of_get hj
    have hbj : bs'[j]? = some (bs'[j]'(by omega)) := List.getElem?_eq_getElem (by omega)
    obtain ⟨a, ha1, ha2, ha3, ha4, ha5⟩ := hp1.fl.get hbj
    have hbn := hbs1 _ (List.mem_of_getElem? hbj)
    refine ⟨_, rfl, _, rfl, _, rfl, D, _, rfl, SqL.of (hp1.s0 _ _ hD), fun q hq1 => ?_⟩
    have ec : cutV (vb w0) none (some (left : Int)) = vb (w0.take left) := by rw [cut_hi, vb_take]
    rw [ec]
    have tq : Same H' (upd H' q (.lst (vb (w0.take left)))) := same_upd hq1
    have hp2 := hp1.same tq
    have nqa : a ≠ q := ne_of_none ha3 hq1
    have htl := List.length_take_le' left w0
    refine ⟨_, rfl, _, rfl, F, _, _, _, rfl, rfl, SqL.of hp2.fl.hF, atI_nat ha2, .inl ⟨rfl, _, SqL.of (tq _ _ ha3)⟩, _, rfl, a, q, _, _, rfl, rfl, tq _ _ ha3, upd_same, ?_, ?_⟩
    · rw [vb_len, vb_len]
      exact lim_sz' (by omega)
    · rw [← vb_app]
      have hp3 := hp2.write (b' := bs'[j]'(by omega) ++ w0.take left) ha1
      refine ⟨_, rfl, _, rfl, q, _, rfl, .inl (SqL.of (by rw [upd_ne nqa.symm]; exact upd_same)), _, _, rfl, rfl, ?_⟩
      refine ⟨_, some (V.int (j : Int)), some (V.ref q), left - (w0.take left).length, _, ?_, hp3, ?_, by rw [List.length_set]; exact hbl1, fun b hb => ?_⟩
      · show [some (V.ref F), some (V.ref J), some (V.ref D), some (V.int (k : Int)), some (V.int ((left : Int) - ((vb (w0.take left)).length : Int))), some (V.int (j : Int)), some (V.ref q)] = _
        have e1 : (left : Int) - ((vb (w0.take left)).length : Int) = ((left - (w0.take left).length : Nat) : Int) := by
          rw [vb_len, List.length_take]; omega
        rw [e1]
      · rw [happ, drop_one hj]
        show appendAll (js.drop (i + 1)) w0 (left - (w0.take left).length) (bs'.set j ((bs'[j]?.getD []) ++ w0.take left)) = _
        rw [hbj]
        rfl
      · obtain ⟨i2, hi2⟩ := List.getElem?_of_mem hb
        by_cases c2 : j = i2
        · subst c2
          rw [List.getElem?_set_self (by omega)] at hi2
          obtain rfl := Option.some.inj hi2
          rw [List.length_append]
          omega
        · rw [List.getElem?_set_ne c2] at hi2
          have := hbs1 _ (List.mem_of_getElem? hi2)
          omega
  · rintro σ H' ⟨ps', v5, v6, left, bs', rfl, hp1, happ, hbl1, hbs1⟩
    rw [vb_len, List.drop_length] at happ
    refine hq _ ps' ?_
    rw [happ]
    exact hp1
end
end TS
namespace TS
open PySem PySem.Spec PyProof.Rows L2 Vbwsai
section
variable {P : Program} {w : World} {K : PySem.W.Frag} {mg : Str → Option Value} {base : Heap} {A : Ad}
abbrev s_is_tick_list : Stmt := top 102
theorem sc_is_tick_list : FnScope ["changes"] ["changes"] (defScope s_is_tick_list) := ⟨rfl, rfl, rfl, by decide +kernel, rfl, by decide +kernel, by decide +kernel⟩
theorem ok_is_tick_list (T : Txt K mg A) (F : FunAt K mg "is_tick_list" s_is_tick_list ["changes"]) (d_are_changes : Fn P w K mg base 3 "are_changes" ["numbers"] (sp_are_changes K A)) : Fn P w K mg base 4 "is_tick_list" ["changes"] (sp_is_tick_list K A) := by
  obtain ⟨f, fd, F, hmg, hb⟩ := F
  refine ⟨f, fd, F.ok sc_is_tick_list (fun vs H Q E h => ?_) (fun cdv Ar outer s H vs Q E hr h => ?_), hmg, F.kp, hb⟩
  · exact S1.len h
  refine ⟨_, (pss_one (ps_ret (pe_and (pe_cmpR op_le (pe_callB call_len_seq (by rfl) T.b_len PySem.boot_len (pa_cons (pv 0) pa_nil)) (pe_op op_mul pe_int (pe_cst T.c_CHANGES_OF_A_TICK rfl)) (nomark _)) (pe_one (pe_fn d_are_changes (hr.mono (by decide)) rfl (pa_cons (pv 0) pa_nil)))))), ?_⟩
  obtain ⟨_, rfl, a, l, rfl, ha, hl, hq⟩ := h
  refine ⟨_, rfl, a, _, rfl, .inl (SqL.of ha), _, _, rfl, rfl, .inl ⟨by decide, by decide⟩, _, _, rfl, rfl, _, rfl, ifd (fun c => ?_) (fun c => ?_)⟩
  · have c' : ((vi l).length : Int) ≤ 3 * 16 := c
    rw [vi_len] at c'
    refine ⟨_, rfl, _, rfl, a, l, rfl, ha, hl, ?_⟩
    rw [decide_eq_true (show l.length ≤ 48 by omega), Bool.true_and] at hq
    exact hq
  · have c' : ¬ ((vi l).length : Int) ≤ 3 * 16 := c
    rw [vi_len] at c'
    rw [decide_eq_false (show ¬ l.length ≤ 48 by omega), Bool.false_and] at hq
    exact hq
end
end TS
namespace TS
open PySem PySem.Spec PyProof.Rows L2 Vbwsai
section
variable {P : Program} {w : World} {K : PySem.W.Frag} {mg : Str → Option Value} {base : Heap} {A : Ad}
abbrev s_tick : Stmt := top 103
theorem sc_tick : FnScope ["session", "power", "changes", "memory", "number", "data", "journals", "needed", "byte_count"] ["session", "power", "changes"] (defScope s_tick) := ⟨rfl, rfl, rfl, by decide +kernel, rfl, by decide +kernel, by decide +kernel⟩
theorem ok_tick (T : Txt K mg A) (F : FunAt K mg "tick" s_tick ["session", "power", "changes"]) (d_is_tick_list : Fn P w K mg base 4 "is_tick_list" ["changes"] (sp_is_tick_list K A)) (d_is_power : Fn P w K mg base 1 "is_power" ["number"] (sp_is_power K A)) (d_frame : Fn P w K mg base 4 "frame" ["row"] (sp_frame K A)) (d_tick_row : Fn P w K mg base 1 "tick_row" ["number", "changes"] (sp_tick_row K A)) (d_written_journals : Fn P w K mg base 2 "written_journals" ["memory"] (sp_written_journals K A)) (d_writable_count : Fn P w K mg base 1 "writable_count" ["power", "byte_count"] (sp_writable_count K A)) (d_append_to_journals : Fn P w K mg base 1 "append_to_journals" ["files", "journals", "data", "byte_count"] (sp_append_to_journals K A)) (d_changed_entries : Fn P w K mg base 1 "changed_entries" ["entries", "changes"] (sp_changed_entries K A)) : Fn P w K mg base 5 "tick" ["session", "power", "changes"] (sp_tick K A) := by
  obtain ⟨f, fd, F, hmg, hb⟩ := F
  refine ⟨f, fd, F.ok sc_tick (fun vs H Q E h => ?_) (fun cdv Ar outer s H vs Q E hr h => ?_), hmg, F.kp, hb⟩
  · exact S3.len h
  refine ⟨_, (pss_cons (ps_if (PW.pt (pw_or (pt_not (pt_val (pe_fn d_is_power (hr.mono (by decide)) rfl (pa_cons (pv 1) pa_nil)))) (pw_or1 (pt_not (pt_val (pe_fn d_is_tick_list (hr.mono (by decide)) rfl (pa_cons (pv 2) pa_nil))))))) (pss_one (ps_ret (pe_lst (pa_cons (pe_cst T.c_BAD_ARGUMENT rfl) pa_nil))))
      pss_nil)
      (pss_cons (ps_set (i := 3) sc_tick.nd rfl (Or.inl rfl) (pe_fld (pv 0) rfl))
      (pss_cons (ps_if (pt_cmpR op_isN (pv 3) pe_non (nomark _)) (pss_one (ps_ret (pe_lst (pa_cons (pe_cst T.c_NO_POWER rfl) pa_nil))))
      pss_nil)
      (pss_cons (ps_if (pt_cmpR op_ge (pe_fld (pv 3) rfl) (pe_cst T.c_LARGEST rfl) (nomark _)) (pss_one (ps_ret (pe_lst (pa_cons (pe_cst T.c_TOO_LARGE rfl) pa_nil))))
      pss_nil)
      (pss_cons (ps_set (i := 4) sc_tick.nd rfl (Or.inl rfl) (pe_op op_add (pe_fld (pv 3) rfl) pe_int))
      (pss_cons (ps_set (i := 5) sc_tick.nd rfl (Or.inl rfl) (pe_fn d_frame (hr.mono (by decide)) rfl (pa_cons (pe_fn d_tick_row (hr.mono (by decide)) rfl (pa_cons (pv 4) (pa_cons (pv 2) pa_nil))) pa_nil)))
      (pss_cons (ps_set (i := 6) sc_tick.nd rfl (Or.inl rfl) (pe_fn d_written_journals (hr.mono (by decide)) rfl (pa_cons (pv 3) pa_nil)))
      (pss_cons (ps_set (i := 7) sc_tick.nd rfl (Or.inl rfl) (pe_op op_mul (pe_callB call_len_seq (by rfl) T.b_len PySem.boot_len (pa_cons (pv 5) pa_nil)) (pe_callB call_len_seq (by rfl) T.b_len PySem.boot_len (pa_cons (pv 6) pa_nil))))
      (pss_cons (ps_set (i := 8) sc_tick.nd rfl (Or.inl rfl) (pe_fn d_writable_count (hr.mono (by decide)) rfl (pa_cons (pv 1) (pa_cons (pv 7) pa_nil))))
      (pss_cons (ps_expr (pe_fn d_append_to_journals (hr.mono (by decide)) rfl (pa_cons (pe_fld (pv 0) rfl) (pa_cons (pv 6) (pa_cons (pv 5) (pa_cons (pv 8) pa_nil))))))
      (pss_cons (ps_if (pt_cmpR op_lt (pv 8) (pv 7) (nomark _)) (pss_cons (ps_fld (pv 0) pe_non rfl)
      (pss_one (ps_ret (pe_lst (pa_cons pe_int (pa_cons (pe_un un_neg pe_int) (pa_cons (pv 7) pa_nil)))))))
      pss_nil)
      (pss_cons (ps_fld (pv 3) (pv 4) rfl)
      (pss_cons (ps_fld (pv 3) (pe_fn d_changed_entries (hr.mono (by decide)) rfl (pa_cons (pe_fld (pv 3) rfl) (pa_cons (pv 2) pa_nil))) rfl)
      (pss_cons (ps_fld (pv 0) (pv 4) rfl)
      (pss_one (ps_ret (pe_lst (pa_cons pe_int (pa_cons (pv 4) (pa_cons (pv 7) pa_nil)))))))))))))))))))), ?_⟩
  obtain ⟨_, _, _, rfl, H0, p, st, pw, a, l, rfl, rfl, rfl, ⟨hs, n, hn, hg⟩, ha, hl, ha0, hq⟩ := h
  rw [step_tick] at hq
  refine ⟨_, rfl, _, rfl, pw, rfl, _, rfl, ifn (fun c => iteT ?_) (fun c => ⟨_, rfl, _, rfl, a, l, rfl, ha, by omega, _, rfl, ifnb (fun c2 => ?_) (fun c2 => ?_)⟩)⟩
  · rw [if_pos (inr_no c)] at hq
    exact ⟨(by show 1 ≤ sizeLine; decide), ans hs hq⟩
  · rw [if_neg (inr_yes c)] at hq
    cases h5 : parseChanges l with
    | none =>
      rw [h5] at hq
      exact ⟨(by show 1 ≤ sizeLine; decide), ans hs hq⟩
    | some cs =>
      rw [h5] at hq c2
      have h6 := (parse_len h5).1
      have h7 : 16 < cs.length := by
        simp at c2
        omega
      dsimp only at hq
      rw [if_pos h7] at hq
      exact ⟨(by show 1 ≤ sizeLine; decide), ans hs hq⟩
  rw [if_neg (inr_yes c)] at hq
  cases h5 : parseChanges l with
  | none => rw [h5] at c2; simp at c2
  | some cs =>
  rw [h5] at hq c2
  obtain ⟨h6, hok⟩ := parse_len h5
  have h7 : ¬ 16 < cs.length := by
    simp at c2
    omega
  dsimp only at hq
  rw [if_neg h7] at hq
  cases hp : st.powered with
  | false =>
    obtain ⟨dx, F, ps, ho⟩ := ses_off hs hp
    rw [hp, if_pos rfl] at hq
    refine ⟨_, rfl, p, A.Session, dx, _, _, rfl, ho.hx, T.k_Session, T.s_memory, sF_mem, ?_⟩
    exact ⟨_, rfl, rfl, _, rfl, ifd (fun _ => ⟨(by show 1 ≤ sizeLine; decide), ans hs hq⟩) (fun c => absurd rfl c)⟩
  | true =>
    obtain ⟨dx, F, ps, m, dm, e, kvs, pd, ho⟩ := ses_on hs hp
    rw [if_neg (show ¬ st.powered = false by rw [hp]; exact fun z => nomatch z)] at hq
    refine ⟨_, rfl, p, A.Session, dx, _, _, rfl, ho.hx, T.k_Session, T.s_memory, sF_mem, ?_⟩
    refine ⟨_, rfl, rfl, _, rfl, ifd (fun c => nomatch c) (fun _ => ?_)⟩
    refine ⟨_, rfl, m, A.Memory, dm, _, _, rfl, ho.hm, T.k_Memory, T.m_tick_number, mF_tick, _, _, rfl, rfl, _, rfl, ifd (fun c3 => ?_) (fun c3 => ?_)⟩
    · rw [if_pos (by omega)] at hq
      exact ⟨(by show 1 ≤ sizeLine; decide), ans hs hq⟩
    rw [if_neg (by omega)] at hq
    have hsm : ∀ z ∈ tickRow (st.tick + 1) cs, Sm z := fun z hz => by
      rw [tickRow_eq] at hz
      rcases List.mem_cons.mp hz with w | w
      · rw [w]; unfold Sm; omega
      · exact flatC_sm hok z w
    have hrl : (tickRow (st.tick + 1) cs).length ≤ 49 := by
      rw [tickRow_eq, List.length_cons, flatC_len]
      omega
    generalize hW : encodeFrame (tickRow (st.tick + 1) cs) = w0 at hq
    have hwl : w0.length ≤ 600 := by
      rw [← hW]
      have := frame_len_le (tickRow (st.tick + 1) cs)
      omega
    obtain ⟨td, tw⟩ := tick_disk hg.wf hg.sd w0 pw c.1
    refine ⟨_, rfl, m, A.Memory, dm, _, _, rfl, ho.hm, T.k_Memory, T.m_tick_number, mF_tick, _, _, rfl, rfl, ?_⟩
    refine ⟨_, rfl, _, rfl, _, _, rfl, st.tick + 1, a, l, cs, rfl, rfl, ha, by omega, h5, fun H1 p1 s1 n1 e1 => ?_⟩
    refine ⟨_, rfl, p1, _, rfl, e1, hsm, by omega, fun H2 p2 s2 n2 e2 => ?_⟩
    rw [hW] at e2
    have hoB := (ho.same s1).add s2 n2 e2
    refine ⟨_, rfl, _, rfl, m, dm, e, _, _, st.side, pd, rfl, hoB.hm, hg.sd, fun H3 p3 s3 n3 e3 => ?_⟩
    have ejs : vi (if pd = .non then [(2 : Int) + st.side] else [(2 : Int) + st.side, 2 + (1 - st.side)]) = vb (jsOf st) := by
      unfold jsOf
      have := hg.sd
      cases hc : st.checkpointing with
      | false =>
        rw [hc, if_neg (fun z => nomatch z)] at ho
        obtain rfl : pd = V.non := ho.pn
        rw [if_pos rfl, if_neg (fun z => nomatch z)]
        rfl
      | true =>
        rw [hc, if_pos rfl] at ho
        obtain ⟨pa, rfl, _⟩ := ho.pn
        rw [if_neg (fun z => nomatch z), if_pos rfl]
        show [V.int ((2 : Int) + st.side), V.int (2 + (1 - (st.side : Int)))] = [V.int ((2 + st.side : Nat) : Int), V.int ((2 + (1 - st.side) : Nat) : Int)]
        rw [show ((2 + (1 - st.side) : Nat) : Int) = 2 + (1 - (st.side : Int)) by omega]
        rfl
    rw [ejs] at e3
    have hoC := hoB.add s3 n3 e3
    have n23 : p2 ≠ p3 := ne_of_none e2 n3
    have hjl : (jsOf st).length ≤ 2 := by unfold jsOf; split <;> simp
    have hmul : ((vb w0).length : Int) * ((vb (jsOf st)).length : Int) = ((bytesToWrite st w0 : Nat) : Int) := by
      rw [vb_len, vb_len, bytes_eq, Int.natCast_mul]
    refine ⟨_, rfl, p2, _, rfl, .inl (SqL.of (s3 _ _ e2)), _, rfl, p3, _, rfl, .inl (SqL.of e3), _, _, rfl, rfl, .inr ⟨by omega, by rw [vb_len]; omega⟩, ?_⟩
    show gName 7 (V.int (((vb w0).length : Int) * ((vb (jsOf st)).length : Int))) _ _ _
    rw [hmul]
    have hbl : bytesToWrite st w0 ≤ 1200 := by unfold bytesToWrite; split <;> omega
    have hbw := hg.small hn
    refine ⟨_, rfl, _, rfl, _, _, rfl, pw, bytesToWrite st w0, rfl, rfl, c.1, ?_⟩
    generalize hK : (if pw < 0 then bytesToWrite st w0 else min pw.toNat (bytesToWrite st w0)) = kc at td ⊢
    have hJ : upd (upd H0 p2 (.lst (vb w0))) p3 (.lst (vb (jsOf st))) p3 = some (.lst (vb (jsOf st))) := upd_same
    have hD : upd (upd H0 p2 (.lst (vb w0))) p3 (.lst (vb (jsOf st))) p2 = some (.lst (vb w0)) := by rw [upd_ne n23, upd_same]
    have hlen6 : (files6 st.disk).length = 6 := hg.wf.len
    refine ⟨_, rfl, p, A.Session, dx, _, _, rfl, hoC.hx, T.k_Session, T.s_files, sF_files, _, rfl, _, rfl, _, rfl, _, _, _, _, rfl, _, p, dx, F, ps, m, dm, e, kvs, pd, _, _, _, _, _, _, _, p3, p2, jsOf st, w0, kc, rfl, rfl, rfl, rfl, hoC, hJ, hD, ?_, hjl, by omega, ?_, fun H4 ps' ho4 => ?_⟩
    · intro j hj
      have := hg.sd
      rw [hlen6]
      unfold jsOf at hj
      split at hj <;> simp at hj <;> omega
    · intro b hb
      obtain ⟨_, h9⟩ := hg.byt b hb
      omega
    have h0p2 : H0 p2 = none := (ho.s0.trans s1).free n2
    have h0p3 : upd H0 p2 (.lst (vb w0)) p3 = none := hoB.s0.free n3
    have ho5 := ho4.older ((same_upd h0p2).trans (same_upd h0p3))
    rw [← td] at ho5
    have ha4 : H4 a = some (.lst (vi l)) := ho5.s0 _ _ ha0
    refine ⟨_, rfl, _, rfl, _, _, rfl, rfl, _, rfl, ifd (fun c8 => ?_) (fun c8 => ?_)⟩
    · rw [if_neg (by split at hK <;> omega)] at hq
      refine ⟨_, rfl, p, A.Session, dx, _, rfl, ho5.hx, T.k_Session, T.s_memory, (by show 3 < 1000; decide), ?_⟩
      rw [sP_mem]
      exact ⟨_, rfl, _, rfl, (by show 3 ≤ sizeLine; decide), ans (s := powerDown st (writeTick st w0 pw)) (mk_off rfl ho5.off) hq⟩
    · rw [if_pos (by split at hK <;> omega)] at hq
      refine ⟨_, rfl, _, rfl, m, A.Memory, dm, _, rfl, ho5.hm, T.k_Memory, T.m_tick_number, (by show 5 < 1000; decide), ?_⟩
      have ecn : ((st.tick : Int) + 1) = ((st.tick + 1 : Nat) : Int) := by omega
      rw [mP_tick, ecn]
      have ho6 := ho5.setMem (t' := st.tick + 1) (sd' := st.side) (n' := st.commitNumber)
      have ha6 : upd H4 m (.ins A.Memory dm (mF ((st.tick + 1 : Nat) : Int) e st.side st.commitNumber pd)) a = some (.lst (vi l)) := ho6.s0 _ _ ha0
      generalize hG6 : upd H4 m (.ins A.Memory dm (mF ((st.tick + 1 : Nat) : Int) e st.side st.commitNumber pd)) = G6 at *
      refine ⟨_, rfl, m, A.Memory, dm, _, _, rfl, ho6.hm, T.k_Memory, T.m_entries, mF_ents, _, rfl, _, _, rfl, e, a, kvs, st.contents, l, cs, rfl, rfl, ho6.he, ho6.en, ha6, by omega, h5, fun H7 e7 kv7 s7 n7 h7 en7 => ?_⟩
      refine ⟨_, rfl, m, A.Memory, dm, _, rfl, (ho6.same s7).hm, T.k_Memory, T.m_entries, (by show 5 < 1000; decide), ?_⟩
      rw [mP_ents]
      have ho7 := (ho6.same s7).setEnts h7 (ho6.s0.free n7) en7
      refine ⟨_, rfl, _, rfl, p, A.Session, dx, _, rfl, ho7.hx, T.k_Session, T.s_durable_tick, (by show 3 < 1000; decide), ?_⟩
      rw [sP_dur, ecn]
      have ho8 := ho7.setDur (d' := st.tick + 1)
      exact ⟨_, rfl, _, rfl, (by show 3 ≤ sizeLine; decide), ans (s := { st with disk := writeTick st w0 pw, tick := st.tick + 1, contents := applyChanges st.contents cs, durableTick := st.tick + 1 }) (mk_on hp ho8) hq⟩
end
end TS
namespace TS
open PySem PySem.Spec PyProof.Rows L2 Vbwsai
section
variable {P : Program} {w : World} {K : PySem.W.Frag} {mg : Str → Option Value} {base : Heap} {A : Ad}
abbrev s_begin_checkpoint : Stmt := top 104
theorem sc_begin_checkpoint : FnScope ["session", "memory", "other", "files"] ["session"] (defScope s_begin_checkpoint) := ⟨rfl, rfl, rfl, by decide +kernel, rfl, by decide +kernel, by decide +kernel⟩
theorem ok_begin_checkpoint (T : Txt K mg A) (F : FunAt K mg "begin_checkpoint" s_begin_checkpoint ["session"]) (d_checkpoint_file : Fn P w K mg base 1 "checkpoint_file" ["side"] (sp_checkpoint_file K A)) (d_journal_file : Fn P w K mg base 1 "journal_file" ["side"] (sp_journal_file K A)) (d_frame : Fn P w K mg base 4 "frame" ["row"] (sp_frame K A)) (d_checkpoint_row : Fn P w K mg base 2 "checkpoint_row" ["number", "entries"] (sp_checkpoint_row K A)) : Fn P w K mg base 5 "begin_checkpoint" ["session"] (sp_begin_checkpoint K A) := by
  obtain ⟨f, fd, F, hmg, hb⟩ := F
  refine ⟨f, fd, F.ok sc_begin_checkpoint (fun vs H Q E h => ?_) (fun cdv Ar outer s H vs Q E hr h => ?_), hmg, F.kp, hb⟩
  · exact S1.len h
  refine ⟨_, (pss_cons (ps_set (i := 1) sc_begin_checkpoint.nd rfl (Or.inl rfl) (pe_fld (pv 0) rfl))
      (pss_cons (ps_if (pt_cmpR op_isN (pv 1) pe_non (nomark _)) (pss_one (ps_ret (pe_lst (pa_cons (pe_cst T.c_NO_POWER rfl) pa_nil))))
      pss_nil)
      (pss_cons (ps_if (pt_cmpR op_notN (pe_fld (pv 1) rfl) pe_non (nomark _)) (pss_one (ps_ret (pe_lst (pa_cons (pe_cst T.c_NOT_NOW rfl) pa_nil))))
      pss_nil)
      (pss_cons (ps_set (i := 2) sc_begin_checkpoint.nd rfl (Or.inl rfl) (pe_op op_sub pe_int (pe_fld (pv 1) rfl)))
      (pss_cons (ps_set (i := 3) sc_begin_checkpoint.nd rfl (Or.inl rfl) (pe_fld (pv 0) rfl))
      (pss_cons (ps_asg (pe_lst pa_nil) (pg_sub (pv 3) (pe_fn d_checkpoint_file (hr.mono (by decide)) rfl (pa_cons (pv 2) pa_nil)) set_list))
      (pss_cons (ps_asg (pe_lst pa_nil) (pg_sub (pv 3) (pe_fn d_journal_file (hr.mono (by decide)) rfl (pa_cons (pv 2) pa_nil)) set_list))
      (pss_cons (ps_fld (pv 1) (pe_fn d_frame (hr.mono (by decide)) rfl (pa_cons (pe_fn d_checkpoint_row (hr.mono (by decide)) rfl (pa_cons (pe_fld (pv 1) rfl) (pa_cons (pe_fld (pv 1) rfl) pa_nil))) pa_nil)) rfl)
      (pss_one (ps_ret (pe_lst (pa_cons pe_int (pa_cons (pe_callB call_len_seq (by rfl) T.b_len PySem.boot_len (pa_cons (pe_fld (pv 1) rfl) pa_nil)) pa_nil))))))))))))), ?_⟩
  obtain ⟨_, rfl, H0, p, st, rfl, ⟨hs, n, hn, hg⟩, hq⟩ := h
  have un : Vbwsai.step st .beginCheckpoint = (if st.powered = false then Vbwsai.fail st 7 else if st.checkpointing = true then Vbwsai.fail st 3 else
      Vbwsai.succeed { st with disk := { st.disk with checkpoints := setElement st.disk.checkpoints (1 - st.side) [], journals := setElement st.disk.journals (1 - st.side) [] }, checkpointing := true, pending := encodeFrame (checkpointRow st.tick st.contents) } [((encodeFrame (checkpointRow st.tick st.contents)).length : Int)]) := rfl
  rw [un] at hq
  cases hp : st.powered with
  | false =>
    obtain ⟨dx, F, ps, ho⟩ := ses_off hs hp
    rw [hp, if_pos rfl] at hq
    refine ⟨_, rfl, p, A.Session, dx, _, _, rfl, ho.hx, T.k_Session, T.s_memory, sF_mem, ?_⟩
    exact ⟨_, rfl, rfl, _, rfl, ifd (fun _ => ⟨(by show 1 ≤ sizeLine; decide), ans hs hq⟩) (fun c => absurd rfl c)⟩
  | true =>
    obtain ⟨dx, F, ps, m, dm, e, kvs, pd, ho⟩ := ses_on hs hp
    rw [hp, if_neg (fun z => nomatch z)] at hq
    refine ⟨_, rfl, p, A.Session, dx, _, _, rfl, ho.hx, T.k_Session, T.s_memory, sF_mem, ?_⟩
    refine ⟨_, rfl, rfl, _, rfl, ifd (fun c => nomatch c) (fun _ => ?_)⟩
    refine ⟨_, rfl, m, A.Memory, dm, _, _, rfl, ho.hm, T.k_Memory, T.m_pending, mF_pend, rfl, _, rfl, ?_⟩
    cases hc : st.checkpointing with
    | true =>
      rw [hc, if_pos rfl] at hq
      rw [hc, if_pos rfl] at ho
      obtain ⟨pa, rfl, hpa⟩ := ho.pn
      exact ifn (fun _ => ⟨(by show 1 ≤ sizeLine; decide), ans hs hq⟩) (fun c => nomatch c)
    | false =>
      rw [hc, if_neg (fun z => nomatch z)] at hq
      rw [hc, if_neg (fun z => nomatch z)] at ho
      obtain rfl : pd = V.non := ho.pn
      refine ifn (fun c => absurd rfl c) (fun _ => ?_)
      have hsd := hg.sd
      have hsd' : 1 - st.side ≤ 1 := by omega
      have esd : (1 : Int) - (st.side : Int) = ((1 - st.side : Nat) : Int) := by omega
      have len6 : ps.length = 6 := by
        have := congrArg List.length ho.fl.bs_
        rw [List.length_map, hg.wf.len] at this
        exact this
      obtain ⟨d1e, d1w⟩ := ck_set hg.wf hsd' []
      obtain ⟨d2e, d2w⟩ := j_set d1w hsd' []
      refine ⟨_, rfl, m, A.Memory, dm, _, _, rfl, ho.hm, T.k_Memory, T.m_side, mF_side, _, _, rfl, rfl, ?_⟩
      refine ⟨_, rfl, p, A.Session, dx, _, _, rfl, ho.hx, T.k_Session, T.s_files, sF_files, ?_⟩
      refine ⟨Nat.zero_le _, fun q hq1 => ?_⟩
      have t1 : Same H (upd H q (.lst [])) := same_upd hq1
      have ho1 := ho.same t1
      refine ⟨_, rfl, _, rfl, _, rfl, _, rfl, F, _, _, 1 - st.side, rfl, rfl, ho1.fl.hF, ixN_nat esd (by rw [List.length_map]; omega), ?_⟩
      have ho2 := ho1.put (i := 1 - st.side) (b' := []) (by omega) upd_same (ho.s0.free hq1) (ne_of_none ho.fl.hF hq1).symm (fun j y hj => ne_of_none (ho.fl.at_ j y hj).1 hq1) (fun r hr => nomatch hr)
      have f2 : H F = some _ := ho.fl.hF
      generalize hG : upd (upd H q (.lst [])) F (.lst ((ps.map fun y => V.ref y.1).set (1 - st.side) (.ref q))) = G at *
      refine ⟨Nat.zero_le _, fun q2 hq2 => ?_⟩
      have t2 : Same G (upd G q2 (.lst [])) := same_upd hq2
      have ho3 := ho2.same t2
      refine ⟨_, rfl, _, rfl, _, rfl, _, rfl, F, _, _, 2 + (1 - st.side), rfl, rfl, ho3.fl.hF, ixN_nat (by show (2 : Int) + (1 - (st.side : Int)) = _; omega) (by rw [List.length_map, List.length_set]; omega), ?_⟩
      have ho4 := ho3.put (i := 2 + (1 - st.side)) (b' := []) (by rw [List.length_set]; omega) upd_same (ho2.s0.free hq2) (ne_of_none ho2.fl.hF hq2).symm (fun j y hj => ne_of_none (ho2.fl.at_ j y hj).1 hq2) (fun r hr => nomatch hr)
      rw [← d1e, ← d2e] at ho4
      generalize hG4 : upd (upd G q2 (.lst [])) F (.lst ((((ps.set (1 - st.side) (q, [])).map fun y => V.ref y.1)).set (2 + (1 - st.side)) (.ref q2))) = G4 at *
      have hcs : ∀ z ∈ checkpointRow st.tick st.contents, Sm z := fun z hz => by
        rw [ckRow_eq] at hz
        rcases List.mem_cons.mp hz with w | w
        · rw [w]; exact hg.tk
        · exact flatS_sm hg.st z w
      have hcl : (checkpointRow st.tick st.contents).length ≤ 1000 := by
        have := ho.en.len
        rw [ckRow_eq, List.length_cons, flatS_len]
        omega
      refine ⟨_, rfl, m, A.Memory, dm, _, _, rfl, ho4.hm, T.k_Memory, T.m_tick_number, mF_tick, _, rfl, m, A.Memory, dm, _, _, rfl, ho4.hm, T.k_Memory, T.m_entries, mF_ents, _, _, rfl, st.tick, e, kvs, st.contents, rfl, rfl, ho4.he, ho4.en, fun H5 p5 s5 n5 e5 => ?_⟩
      refine ⟨_, rfl, p5, _, rfl, e5, hcs, hcl, fun H6 p6 s6 n6 e6 => ?_⟩
      have ho6 := (ho4.same s5).same s6
      refine ⟨_, rfl, m, A.Memory, dm, _, rfl, ho6.hm, T.k_Memory, T.m_pending, (by show 5 < 1000; decide), ?_⟩
      rw [mP_pend]
      have ho5 := ho4.same s5
      have hpn : PendAt H0 H6 F ((ps.set (1 - st.side) (q, [])).set (2 + (1 - st.side)) (q2, [])) (.ref p6) (some (encodeFrame (checkpointRow st.tick st.contents))) :=
        ⟨p6, rfl, e6, ho5.s0.free n6, (ne_of_none ho5.fl.hF n6).symm, fun j y hj => ne_of_none (ho5.fl.at_ j y hj).1 n6⟩
      have ho7 := ho6.setPend hpn
      obtain ⟨p7, hp7, e7, _⟩ := ho7.pn
      obtain rfl := V.ref.inj hp7
      refine ⟨_, rfl, m, A.Memory, dm, _, _, rfl, ho7.hm, T.k_Memory, T.m_pending, mF_pend, p6, _, rfl, .inl (SqL.of e7), (by show 2 ≤ sizeLine; decide), ?_⟩
      rw [vb_len]
      exact ans (s := { st with disk := { st.disk with checkpoints := setElement st.disk.checkpoints (1 - st.side) [], journals := setElement st.disk.journals (1 - st.side) [] }, powered := true, checkpointing := true, pending := encodeFrame (checkpointRow st.tick st.contents) }) (mk_on rfl ho7) hq
end
end TS
namespace TS
open PySem PySem.Spec PyProof.Rows L2 Vbwsai
section
variable {P : Program} {w : World} {K : PySem.W.Frag} {mg : Str → Option Value} {base : Heap} {A : Ad}
abbrev s_write_checkpoint : Stmt := top 105
theorem sc_write_checkpoint : FnScope ["session", "count", "memory", "place", "files"] ["session", "count"] (defScope s_write_checkpoint) := ⟨rfl, rfl, rfl, by decide +kernel, rfl, by decide +kernel, by decide +kernel⟩
theorem ok_write_checkpoint (T : Txt K mg A) (F : FunAt K mg "write_checkpoint" s_write_checkpoint ["session", "count"]) (d_is_count : Fn P w K mg base 1 "is_count" ["number"] (sp_is_count K A)) (d_checkpoint_file : Fn P w K mg base 1 "checkpoint_file" ["side"] (sp_checkpoint_file K A)) : Fn P w K mg base 2 "write_checkpoint" ["session", "count"] (sp_write_checkpoint K A) := by
  obtain ⟨f, fd, F, hmg, hb⟩ := F
  refine ⟨f, fd, F.ok sc_write_checkpoint (fun vs H Q E h => ?_) (fun cdv Ar outer s H vs Q E hr h => ?_), hmg, F.kp, hb⟩
  · exact S2.len h
  refine ⟨_, (pss_cons (ps_if (pt_not (pt_val (pe_fn d_is_count (hr.mono (by decide)) rfl (pa_cons (pv 1) pa_nil)))) (pss_one (ps_ret (pe_lst (pa_cons (pe_cst T.c_BAD_ARGUMENT rfl) pa_nil))))
      pss_nil)
      (pss_cons (ps_set (i := 2) sc_write_checkpoint.nd rfl (Or.inl rfl) (pe_fld (pv 0) rfl))
      (pss_cons (ps_if (pt_cmpR op_isN (pv 2) pe_non (nomark _)) (pss_one (ps_ret (pe_lst (pa_cons (pe_cst T.c_NO_POWER rfl) pa_nil))))
      pss_nil)
      (pss_cons (ps_if (pt_cmpR op_isN (pe_fld (pv 2) rfl) pe_non (nomark _)) (pss_one (ps_ret (pe_lst (pa_cons (pe_cst T.c_NOT_NOW rfl) pa_nil))))
      pss_nil)
      (pss_cons (ps_set (i := 3) sc_write_checkpoint.nd rfl (Or.inl rfl) (pe_fn d_checkpoint_file (hr.mono (by decide)) rfl (pa_cons (pe_op op_sub pe_int (pe_fld (pv 2) rfl)) pa_nil)))
      (pss_cons (ps_set (i := 4) sc_write_checkpoint.nd rfl (Or.inl rfl) (pe_fld (pv 0) rfl))
      (pss_cons (ps_expr (pe_bm PySem.F.plainAttrs_list PySem.F.slot_list_extend PySem.F.type_list_extend mt_extend (pe_ix ix_list (pv 4) (pv 3) (fun _ _ => rfl)) (pa_cons (pe_slice sl_list (pe_fld (pv 2) rfl) po_none (po_some (pv 1))) pa_nil)))
      (pss_cons (ps_fld (pv 2) (pe_slice sl_list (pe_fld (pv 2) rfl) (po_some (pv 1)) po_none) rfl)
      (pss_one (ps_ret (pe_lst (pa_cons pe_int (pa_cons (pe_callB call_len_seq (by rfl) T.b_len PySem.boot_len (pa_cons (pe_fld (pv 2) rfl) pa_nil)) pa_nil))))))))))))), ?_⟩
  obtain ⟨_, _, rfl, H0, p, st, k, rfl, rfl, ⟨hs, n, hn, hg⟩, hq⟩ := h
  have un : Vbwsai.step st (.writeCheckpoint k) = (if inRange k 1 100000 = false then Vbwsai.fail st 1 else if st.powered = false then Vbwsai.fail st 7 else if st.checkpointing = false then Vbwsai.fail st 3 else
      Vbwsai.succeed { st with disk := { st.disk with checkpoints := setElement st.disk.checkpoints (1 - st.side) (checkpointFile st.disk (1 - st.side) ++ st.pending.take k.toNat) }, pending := st.pending.drop k.toNat } [((st.pending.drop k.toNat).length : Int)]) := rfl
  rw [un] at hq
  refine ⟨_, rfl, _, rfl, k, rfl, _, rfl, ifn (fun c => ?_) (fun c => ?_)⟩
  · rw [if_pos (inr_no c)] at hq
    exact ⟨(by show 1 ≤ sizeLine; decide), ans hs hq⟩
  rw [if_neg (inr_yes c)] at hq
  cases hp : st.powered with
  | false =>
    obtain ⟨dx, F, ps, ho⟩ := ses_off hs hp
    rw [hp, if_pos rfl] at hq
    refine ⟨_, rfl, p, A.Session, dx, _, _, rfl, ho.hx, T.k_Session, T.s_memory, sF_mem, ?_⟩
    exact ⟨_, rfl, rfl, _, rfl, ifd (fun _ => ⟨(by show 1 ≤ sizeLine; decide), ans hs hq⟩) (fun c => absurd rfl c)⟩
  | true =>
    obtain ⟨dx, F, ps, m, dm, e, kvs, pd, ho⟩ := ses_on hs hp
    rw [hp, if_neg (fun z => nomatch z)] at hq
    refine ⟨_, rfl, p, A.Session, dx, _, _, rfl, ho.hx, T.k_Session, T.s_memory, sF_mem, ?_⟩
    refine ⟨_, rfl, rfl, _, rfl, ifd (fun c => nomatch c) (fun _ => ?_)⟩
    refine ⟨_, rfl, m, A.Memory, dm, _, _, rfl, ho.hm, T.k_Memory, T.m_pending, mF_pend, rfl, _, rfl, ?_⟩
    cases hc : st.checkpointing with
    | false =>
      rw [hc, if_pos rfl] at hq
      rw [hc, if_neg (fun z => nomatch z)] at ho
      obtain rfl : pd = V.non := ho.pn
      exact ifd (fun _ => ⟨(by show 1 ≤ sizeLine; decide), ans hs hq⟩) (fun c => absurd rfl c)
    | true =>
      rw [hc, if_neg (fun z => nomatch z)] at hq
      rw [hc, if_pos rfl] at ho
      obtain ⟨pa, rfl, hpa, hpa0, hpaF, hpan⟩ := id ho.pn
      refine ifd (fun c => nomatch c) (fun _ => ?_)
      obtain ⟨kn, rfl⟩ : ∃ kn : Nat, k = (kn : Int) := ⟨k.toNat, by omega⟩
      rw [Int.toNat_natCast] at hq
      have hsd := hg.sd
      have hsd' : 1 - st.side ≤ 1 := by omega
      have esd : (1 : Int) - (st.side : Int) = ((1 - st.side : Nat) : Int) := by omega
      obtain ⟨ac, hac1, hac2, hac3, hac4, hac5⟩ := ho.fl.get (ck_get hg.wf hsd')
      obtain ⟨d1e, d1w⟩ := ck_set hg.wf hsd' (checkpointFile st.disk (1 - st.side) ++ st.pending.take kn)
      have hbc := (hg.small hn _ (List.mem_of_getElem? (ck_get hg.wf hsd'))).2
      have hpb := hg.pby.2
      refine ⟨_, rfl, m, A.Memory, dm, _, _, rfl, ho.hm, T.k_Memory, T.m_side, mF_side, _, _, rfl, rfl, _, rfl, _, rfl, ?_⟩
      refine ⟨_, rfl, p, A.Session, dx, _, _, rfl, ho.hx, T.k_Session, T.s_files, sF_files, ?_⟩
      refine ⟨_, rfl, _, rfl, F, _, _, V.ref ac, rfl, rfl, SqL.of ho.fl.hF, (by show atI _ ((1 : Int) - (st.side : Int)) = _; rw [esd]; exact atI_nat hac2), .inl ⟨rfl, _, SqL.of hac3⟩, ?_⟩
      refine ⟨_, rfl, m, A.Memory, dm, _, _, rfl, ho.hm, T.k_Memory, T.m_pending, mF_pend, _, rfl, _, rfl, pa, _, rfl, SqL.of hpa, fun q hq1 => ?_⟩
      have ec : cutV (vb st.pending) none (some (kn : Int)) = vb (st.pending.take kn) := by rw [cut_hi, vb_take]
      rw [ec]
      have t1 : Same H (upd H q (.lst (vb (st.pending.take kn)))) := same_upd hq1
      have ho1 := ho.same t1
      have htl := List.length_take_le' kn st.pending
      refine ⟨ac, q, _, _, rfl, rfl, t1 _ _ hac3, upd_same, ?_, ?_⟩
      · rw [vb_len, vb_len]
        exact Nat.le_of_lt (Nat.lt_of_le_of_lt (Nat.add_le_add hbc (Nat.le_trans htl hpb)) (by rw [sizeLine_eq]; omega))
      · rw [← vb_app]
        have ho2 := ho1.write (b' := checkpointFile st.disk (1 - st.side) ++ st.pending.take kn) hac1
        rw [← d1e] at ho2
        obtain ⟨pa2, hpa21, hpa22, hpa23, hpa24, hpa25⟩ := id ho2.pn
        obtain rfl := V.ref.inj hpa21
        generalize hG : upd (upd H q (.lst (vb (st.pending.take kn)))) ac (.lst (vb (checkpointFile st.disk (1 - st.side) ++ st.pending.take kn))) = G at *
        refine ⟨_, rfl, m, A.Memory, dm, _, _, rfl, ho2.hm, T.k_Memory, T.m_pending, mF_pend, _, rfl, _, rfl, pa, _, rfl, SqL.of hpa22, fun q2 hq2 => ?_⟩
        have ec2 : cutV (vb st.pending) (some (kn : Int)) none = vb (st.pending.drop kn) := by rw [cut_lo, vb_drop]
        rw [ec2]
        have t2 : Same G (upd G q2 (.lst (vb (st.pending.drop kn)))) := same_upd hq2
        have ho3 := ho2.same t2
        refine ⟨_, rfl, m, A.Memory, dm, _, rfl, ho3.hm, T.k_Memory, T.m_pending, (by show 5 < 1000; decide), ?_⟩
        rw [mP_pend]
        have ho4 := ho3.setPend (pd' := .ref q2) (po' := some (st.pending.drop kn)) ⟨q2, rfl, upd_same, ho2.s0.free hq2, (ne_of_none ho2.fl.hF hq2).symm, fun j y hj => ne_of_none (ho2.fl.at_ j y hj).1 hq2⟩
        obtain ⟨p7, hp7, e7, _⟩ := ho4.pn
        obtain rfl := V.ref.inj hp7
        refine ⟨_, rfl, m, A.Memory, dm, _, _, rfl, ho4.hm, T.k_Memory, T.m_pending, mF_pend, q2, _, rfl, .inl (SqL.of e7), (by show 2 ≤ sizeLine; decide), ?_⟩
        rw [vb_len]
        exact ans (s := { st with disk := { st.disk with checkpoints := setElement st.disk.checkpoints (1 - st.side) (checkpointFile st.disk (1 - st.side) ++ st.pending.take kn) }, powered := true, checkpointing := true, pending := st.pending.drop kn }) (mk_on rfl ho4) hq
end
end TS
namespace TS
open PySem PySem.Spec PyProof.Rows L2 Vbwsai
section
variable {P : Program} {w : World} {K : PySem.W.Frag} {mg : Str → Option Value} {base : Heap} {A : Ad}
abbrev s_commit_checkpoint : Stmt := top 106
theorem sc_commit_checkpoint : FnScope ["session", "power", "memory", "number", "other", "data", "byte_count", "files"] ["session", "power"] (defScope s_commit_checkpoint) := ⟨rfl, rfl, rfl, by decide +kernel, rfl, by decide +kernel, by decide +kernel⟩
theorem ok_commit_checkpoint (T : Txt K mg A) (F : FunAt K mg "commit_checkpoint" s_commit_checkpoint ["session", "power"]) (d_is_power : Fn P w K mg base 1 "is_power" ["number"] (sp_is_power K A)) (d_frame : Fn P w K mg base 4 "frame" ["row"] (sp_frame K A)) (d_writable_count : Fn P w K mg base 1 "writable_count" ["power", "byte_count"] (sp_writable_count K A)) (d_commit_file : Fn P w K mg base 1 "commit_file" ["number"] (sp_commit_file K A)) : Fn P w K mg base 5 "commit_checkpoint" ["session", "power"] (sp_commit_checkpoint K A) := by
  obtain ⟨f, fd, F, hmg, hb⟩ := F
  refine ⟨f, fd, F.ok sc_commit_checkpoint (fun vs H Q E h => ?_) (fun cdv Ar outer s H vs Q E hr h => ?_), hmg, F.kp, hb⟩
  · exact S2.len h
  refine ⟨_, (pss_cons (ps_if (pt_not (pt_val (pe_fn d_is_power (hr.mono (by decide)) rfl (pa_cons (pv 1) pa_nil)))) (pss_one (ps_ret (pe_lst (pa_cons (pe_cst T.c_BAD_ARGUMENT rfl) pa_nil))))
      pss_nil)
      (pss_cons (ps_set (i := 2) sc_commit_checkpoint.nd rfl (Or.inl rfl) (pe_fld (pv 0) rfl))
      (pss_cons (ps_if (pt_cmpR op_isN (pv 2) pe_non (nomark _)) (pss_one (ps_ret (pe_lst (pa_cons (pe_cst T.c_NO_POWER rfl) pa_nil))))
      pss_nil)
      (pss_cons (ps_if (PW.pt (pw_or (pt_cmpR op_isN (pe_fld (pv 2) rfl) pe_non (nomark _)) (pw_or1 (pt_cmpR op_gt (pe_callB call_len_seq (by rfl) T.b_len PySem.boot_len (pa_cons (pe_fld (pv 2) rfl) pa_nil)) pe_int (nomark _))))) (pss_one (ps_ret (pe_lst (pa_cons (pe_cst T.c_NOT_NOW rfl) pa_nil))))
      pss_nil)
      (pss_cons (ps_if (pt_cmpR op_ge (pe_fld (pv 2) rfl) (pe_cst T.c_LARGEST rfl) (nomark _)) (pss_one (ps_ret (pe_lst (pa_cons (pe_cst T.c_TOO_LARGE rfl) pa_nil))))
      pss_nil)
      (pss_cons (ps_set (i := 3) sc_commit_checkpoint.nd rfl (Or.inl rfl) (pe_op op_add (pe_fld (pv 2) rfl) pe_int))
      (pss_cons (ps_set (i := 4) sc_commit_checkpoint.nd rfl (Or.inl rfl) (pe_op op_sub pe_int (pe_fld (pv 2) rfl)))
      (pss_cons (ps_set (i := 5) sc_commit_checkpoint.nd rfl (Or.inl rfl) (pe_fn d_frame (hr.mono (by decide)) rfl (pa_cons (pe_lst (pa_cons (pv 3) (pa_cons (pv 4) pa_nil))) pa_nil)))
      (pss_cons (ps_set (i := 6) sc_commit_checkpoint.nd rfl (Or.inl rfl) (pe_fn d_writable_count (hr.mono (by decide)) rfl (pa_cons (pv 1) (pa_cons (pe_callB call_len_seq (by rfl) T.b_len PySem.boot_len (pa_cons (pv 5) pa_nil)) pa_nil))))
      (pss_cons (ps_set (i := 7) sc_commit_checkpoint.nd rfl (Or.inl rfl) (pe_fld (pv 0) rfl))
      (pss_cons (ps_asg (pe_slice sl_list (pv 5) po_none (po_some (pv 6))) (pg_sub (pv 7) (pe_fn d_commit_file (hr.mono (by decide)) rfl (pa_cons (pv 3) pa_nil)) set_list))
      (pss_cons (ps_if (pt_cmpR op_lt (pv 6) (pe_callB call_len_seq (by rfl) T.b_len PySem.boot_len (pa_cons (pv 5) pa_nil)) (nomark _)) (pss_cons (ps_fld (pv 0) pe_non rfl)
      (pss_one (ps_ret (pe_lst (pa_cons pe_int (pa_cons (pe_un un_neg pe_int) (pa_cons (pe_callB call_len_seq (by rfl) T.b_len PySem.boot_len (pa_cons (pv 5) pa_nil)) pa_nil)))))))
      pss_nil)
      (pss_cons (ps_fld (pv 2) (pv 4) rfl)
      (pss_cons (ps_fld (pv 2) (pv 3) rfl)
      (pss_cons (ps_fld (pv 2) pe_non rfl)
      (pss_one (ps_ret (pe_lst (pa_cons pe_int (pa_cons (pv 4) (pa_cons (pv 3) pa_nil))))))))))))))))))))), ?_⟩
  obtain ⟨_, _, rfl, H0, p, st, k, rfl, rfl, ⟨hs, n, hn, hg⟩, hq⟩ := h
  have un : Vbwsai.step st (.commitCheckpoint k) = (if inRange k (-1) 100000 = false then Vbwsai.fail st 1 else if st.powered = false then Vbwsai.fail st 7 else if st.checkpointing = false ∨ st.pending ≠ [] then Vbwsai.fail st 3 else if 1000000000000000000 < (st.commitNumber : Int) + 1 then Vbwsai.fail st 5 else
      if isFullyWritten (encodeFrame (commitRow (st.commitNumber + 1) (1 - st.side))) k = true then Vbwsai.succeed { st with disk := { st.disk with commits := setElement st.disk.commits ((st.commitNumber + 1) % 2) (appendWithPower [] (encodeFrame (commitRow (st.commitNumber + 1) (1 - st.side))) k) }, side := 1 - st.side, commitNumber := st.commitNumber + 1, checkpointing := false } [((1 - st.side : Nat) : Int), (st.commitNumber : Int) + 1]
      else Vbwsai.succeed (powerDown st { st.disk with commits := setElement st.disk.commits ((st.commitNumber + 1) % 2) (appendWithPower [] (encodeFrame (commitRow (st.commitNumber + 1) (1 - st.side))) k) }) [-1, ((encodeFrame (commitRow (st.commitNumber + 1) (1 - st.side))).length : Int)]) := rfl
  rw [un] at hq
  refine ⟨_, rfl, _, rfl, k, rfl, _, rfl, ifn (fun c => ?_) (fun c => ?_)⟩
  · rw [if_pos (inr_no c)] at hq
    exact ⟨(by show 1 ≤ sizeLine; decide), ans hs hq⟩
  rw [if_neg (inr_yes c)] at hq
  cases hp : st.powered with
  | false =>
    obtain ⟨dx, F, ps, ho⟩ := ses_off hs hp
    rw [hp, if_pos rfl] at hq
    refine ⟨_, rfl, p, A.Session, dx, _, _, rfl, ho.hx, T.k_Session, T.s_memory, sF_mem, ?_⟩
    exact ⟨_, rfl, rfl, _, rfl, ifd (fun _ => ⟨(by show 1 ≤ sizeLine; decide), ans hs hq⟩) (fun c => absurd rfl c)⟩
  | true =>
    obtain ⟨dx, F, ps, m, dm, e, kvs, pd, ho⟩ := ses_on hs hp
    rw [if_neg (show ¬ st.powered = false by rw [hp]; exact fun z => nomatch z)] at hq
    refine ⟨_, rfl, p, A.Session, dx, _, _, rfl, ho.hx, T.k_Session, T.s_memory, sF_mem, ?_⟩
    refine ⟨_, rfl, rfl, _, rfl, ifd (fun c => nomatch c) (fun _ => ?_)⟩
    refine ⟨_, rfl, m, A.Memory, dm, _, _, rfl, ho.hm, T.k_Memory, T.m_pending, mF_pend, rfl, _, rfl, ?_⟩
    cases hc : st.checkpointing with
    | false =>
      rw [if_pos (.inl hc)] at hq
      rw [hc, if_neg (fun z => nomatch z)] at ho
      obtain rfl : pd = V.non := ho.pn
      exact ifd (fun _ => iteT ⟨(by show 1 ≤ sizeLine; decide), ans hs hq⟩) (fun c => absurd rfl c)
    | true =>
      rw [hc, if_pos rfl] at ho
      obtain ⟨pa, rfl, hpa, hpa0, hpaF, hpan⟩ := id ho.pn
      refine ifd (fun c => nomatch c) (fun _ => ?_)
      refine ⟨_, rfl, m, A.Memory, dm, _, _, rfl, ho.hm, T.k_Memory, T.m_pending, mF_pend, pa, _, rfl, .inl (SqL.of hpa), _, _, rfl, rfl, _, rfl, ifd (fun c2 => ?_) (fun c2 => ?_)⟩
      · rw [vb_len] at c2
        rw [if_pos (.inr fun z => by rw [z] at c2; exact absurd c2 (by decide))] at hq
        exact ⟨(by show 1 ≤ sizeLine; decide), ans hs hq⟩
      rw [vb_len] at c2
      have hpe : st.pending = [] := List.length_eq_zero_iff.mp (by omega)
      rw [if_neg (by rintro (z | z); · rw [hc] at z; exact nomatch z
                     · exact z hpe)] at hq
      refine ⟨_, rfl, m, A.Memory, dm, _, _, rfl, ho.hm, T.k_Memory, T.m_commit_number, mF_num, _, _, rfl, rfl, _, rfl, ifd (fun c3 => ?_) (fun c3 => ?_)⟩
      · rw [if_pos (by omega)] at hq
        exact ⟨(by show 1 ≤ sizeLine; decide), ans hs hq⟩
      rw [if_neg (by omega)] at hq
      have hsd := hg.sd
      have hsd' : 1 - st.side ≤ 1 := by omega
      have esd : (1 : Int) - (st.side : Int) = ((1 - st.side : Nat) : Int) := by omega
      have epar : ((st.commitNumber : Int) + 1) % 2 = (((st.commitNumber + 1) % 2 : Nat) : Int) := by omega
      have hpar : (st.commitNumber + 1) % 2 ≤ 1 := by omega
      have len6 : ps.length = 6 := by
        have := congrArg List.length ho.fl.bs_
        rw [List.length_map, hg.wf.len] at this
        exact this
      obtain ⟨d1e, d1w⟩ := m_set hg.wf hpar (appendWithPower [] (encodeFrame (commitRow (st.commitNumber + 1) (1 - st.side))) k)
      have erow : [(st.commitNumber : Int) + 1, (1 : Int) - (st.side : Int)] = commitRow (st.commitNumber + 1) (1 - st.side) := by
        unfold commitRow
        rw [esd]
        rfl
      refine ⟨_, rfl, m, A.Memory, dm, _, _, rfl, ho.hm, T.k_Memory, T.m_commit_number, mF_num, _, _, rfl, rfl, ?_⟩
      refine ⟨_, rfl, m, A.Memory, dm, _, _, rfl, ho.hm, T.k_Memory, T.m_side, mF_side, _, _, rfl, rfl, ?_⟩
      generalize hW : encodeFrame (commitRow (st.commitNumber + 1) (1 - st.side)) = w0 at hq d1e
      have hwl : w0.length ≤ 31 := by
        rw [← hW]
        have := frame_len_le (commitRow (st.commitNumber + 1) (1 - st.side))
        have h2 : (commitRow (st.commitNumber + 1) (1 - st.side)).length = 2 := rfl
        omega
      have hkc : w0.take (if k < 0 then w0.length else min k.toNat w0.length) = appendWithPower [] w0 k := by
        unfold appendWithPower
        rw [List.nil_append]
        split
        · exact List.take_length
        · by_cases c5 : k.toNat ≤ w0.length
          · rw [Nat.min_eq_left c5]
          · rw [Nat.min_eq_right (by omega), List.take_length, List.take_of_length_le (by omega)]
      refine ⟨_, rfl, _, rfl, (by show 2 ≤ sizeLine; decide), fun q1 hq1 => ⟨_, rfl, q1, commitRow (st.commitNumber + 1) (1 - st.side), rfl, ?_, ?_, by show 2 ≤ 1000; decide, fun H2 q2 s2 n2 e2 => ?_⟩⟩
      · rw [upd_same]
        exact congrArg (fun l => some (HO.lst (vi l))) erow
      · intro z hz
        unfold commitRow at hz
        unfold Sm
        simp at hz
        omega
      rw [hW] at e2
      have ho1 := ho.same (same_upd (o := .lst [.int ((st.commitNumber : Int) + 1), .int (1 - (st.side : Int))]) hq1)
      have ho2 := ho1.same s2
      refine ⟨_, rfl, _, rfl, q2, _, rfl, .inl (SqL.of e2), _, _, rfl, k, w0.length, rfl, by rw [vb_len], c.1, ?_⟩
      generalize hK : (if k < 0 then w0.length else min k.toNat w0.length) = kc at hkc ⊢
      refine ⟨_, rfl, p, A.Session, dx, _, _, rfl, ho2.hx, T.k_Session, T.s_files, sF_files, ?_⟩
      refine ⟨_, rfl, _, rfl, _, rfl, q2, _, rfl, SqL.of e2, fun q3 hq3 => ?_⟩
      have ec : cutV (vb w0) none (some (kc : Int)) = vb (appendWithPower [] w0 k) := by rw [cut_hi, vb_take, hkc]
      rw [ec]
      have t3 : Same H2 (upd H2 q3 (.lst (vb (appendWithPower [] w0 k)))) := same_upd hq3
      have ho3 := ho2.same t3
      refine ⟨_, rfl, _, rfl, _, rfl, _, rfl, F, _, _, 4 + (st.commitNumber + 1) % 2, rfl, rfl, ho3.fl.hF, ixN_nat (by show (4 : Int) + ((st.commitNumber : Int) + 1) % 2 = _; omega) (by rw [List.length_map]; omega), ?_⟩
      have pdn : ∀ r, V.ref pa = .ref r → q3 ≠ r := fun r hr => by
        obtain rfl := V.ref.inj hr
        obtain ⟨r2, hr2, hr3, _⟩ := ho2.pn
        obtain rfl := V.ref.inj hr2
        exact (ne_of_none hr3 hq3).symm
      have ho4 := ho3.put (i := 4 + (st.commitNumber + 1) % 2) (b' := appendWithPower [] w0 k) (by omega) upd_same (ho2.s0.free hq3) (ne_of_none ho2.fl.hF hq3).symm (fun j y hj => ne_of_none (ho2.fl.at_ j y hj).1 hq3) pdn
      rw [← d1e] at ho4
      have q2F : q2 ≠ F := fun z => by rw [z] at n2; rw [ho1.fl.hF] at n2; exact nomatch n2
      have e4 : upd (upd H2 q3 (.lst (vb (appendWithPower [] w0 k)))) F (.lst ((ps.map fun y => V.ref y.1).set (4 + (st.commitNumber + 1) % 2) (.ref q3))) q2 = some (.lst (vb w0)) := by
        rw [upd_ne q2F]; exact t3 _ _ e2
      generalize hG : upd (upd H2 q3 (.lst (vb (appendWithPower [] w0 k)))) F (.lst ((ps.map fun y => V.ref y.1).set (4 + (st.commitNumber + 1) % 2) (.ref q3))) = G at *
      refine ⟨_, rfl, _, rfl, q2, _, rfl, .inl (SqL.of e4), _, _, rfl, rfl, _, rfl, ifd (fun c6 => ?_) (fun c6 => ?_)⟩
      · rw [vb_len] at c6
        have hfw : ¬ isFullyWritten w0 k = true := by
          unfold isFullyWritten
          rw [Bool.or_eq_true, decide_eq_true_iff, decide_eq_true_iff]
          split at hK <;> omega
        rw [if_neg hfw] at hq
        refine ⟨_, rfl, p, A.Session, dx, _, rfl, ho4.hx, T.k_Session, T.s_memory, (by show 3 < 1000; decide), ?_⟩
        rw [sP_mem]
        have q2p : q2 ≠ p := fun z => by rw [z, ho4.hx] at e4; exact nomatch (Option.some.inj e4)
        refine ⟨_, rfl, _, rfl, q2, _, rfl, .inl (SqL.of (by rw [upd_ne q2p]; exact e4)), (by show 3 ≤ sizeLine; decide), ?_⟩
        rw [vb_len]
        exact ans (s := powerDown st { st.disk with commits := setElement st.disk.commits ((st.commitNumber + 1) % 2) (appendWithPower [] w0 k) }) (mk_off rfl ho4.off) hq
      · rw [vb_len] at c6
        have hfw : isFullyWritten w0 k = true := by
          unfold isFullyWritten
          rw [Bool.or_eq_true, decide_eq_true_iff, decide_eq_true_iff]
          split at hK <;> omega
        rw [if_pos hfw] at hq
        refine ⟨_, rfl, _, rfl, m, A.Memory, dm, _, rfl, ho4.hm, T.k_Memory, T.m_side, (by show 5 < 1000; decide), ?_⟩
        rw [mP_side]
        refine ⟨_, rfl, _, rfl, m, A.Memory, dm, _, rfl, upd_same, T.k_Memory, T.m_commit_number, (by show 5 < 1000; decide), ?_⟩
        rw [mP_num, upd_upd]
        have ecn : ((st.commitNumber : Int) + 1) = ((st.commitNumber + 1 : Nat) : Int) := by omega
        rw [esd, ecn]
        have ho5 := ho4.setMem (t' := st.tick) (sd' := 1 - st.side) (n' := st.commitNumber + 1)
        refine ⟨_, rfl, m, A.Memory, dm, _, rfl, ho5.hm, T.k_Memory, T.m_pending, (by show 5 < 1000; decide), ?_⟩
        rw [mP_pend]
        have ho6 := ho5.setPend (pd' := .non) (po' := none) rfl
        refine ⟨_, rfl, _, rfl, (by show 3 ≤ sizeLine; decide), ?_⟩
        show ∀ q5, _ = none → Q (.ref q5) (upd _ q5 (.lst [.int 0, .int ((1 : Int) - (st.side : Int)), .int ((st.commitNumber : Int) + 1)]))
        rw [esd]
        exact ans (s := { st with disk := { st.disk with commits := setElement st.disk.commits ((st.commitNumber + 1) % 2) (appendWithPower [] w0 k) }, side := 1 - st.side, commitNumber := st.commitNumber + 1, checkpointing := false }) (mk_on hp ho6) hq
end
end TS
namespace TS
open PySem PySem.Spec PyProof.Rows L2 Vbwsai
section
variable {P : Program} {w : World} {K : PySem.W.Frag} {mg : Str → Option Value} {base : Heap} {A : Ad}
abbrev s_cut_power : Stmt := top 107
theorem sc_cut_power : FnScope ["session"] ["session"] (defScope s_cut_power) := ⟨rfl, rfl, rfl, by decide +kernel, rfl, by decide +kernel, by decide +kernel⟩
theorem ok_cut_power (T : Txt K mg A) (F : FunAt K mg "cut_power" s_cut_power ["session"])  : Fn P w K mg base 1 "cut_power" ["session"] (sp_cut_power K A) := by
  obtain ⟨f, fd, F, hmg, hb⟩ := F
  refine ⟨f, fd, F.ok sc_cut_power (fun vs H Q E h => ?_) (fun cdv Ar outer s H vs Q E hr h => ?_), hmg, F.kp, hb⟩
  · exact S1.len h
  refine ⟨_, (pss_cons (ps_if (pt_cmpR op_isN (pe_fld (pv 0) rfl) pe_non (nomark _)) (pss_one (ps_ret (pe_lst (pa_cons (pe_cst T.c_NO_POWER rfl) pa_nil))))
      pss_nil)
      (pss_cons (ps_fld (pv 0) pe_non rfl)
      (pss_one (ps_ret (pe_lst (pa_cons pe_int pa_nil)))))), ?_⟩
  obtain ⟨_, rfl, H0, p, st, rfl, ⟨hs, n, hn, hg⟩, hq⟩ := h
  have un : Vbwsai.step st .cutPower = (if st.powered = false then Vbwsai.fail st 7 else Vbwsai.succeed (powerDown st st.disk) []) := rfl
  rw [un] at hq
  cases hp : st.powered with
  | false =>
    obtain ⟨dx, F, ps, ho⟩ := ses_off hs hp
    rw [hp, if_pos rfl] at hq
    refine ⟨_, rfl, p, A.Session, dx, _, _, rfl, ho.hx, T.k_Session, T.s_memory, sF_mem, ?_⟩
    exact ⟨rfl, _, rfl, ifd (fun _ => ⟨(by show 1 ≤ sizeLine; decide), ans hs hq⟩) (fun c => absurd rfl c)⟩
  | true =>
    obtain ⟨dx, F, ps, m, dm, e, kvs, pd, ho⟩ := ses_on hs hp
    rw [hp, if_neg (fun z => nomatch z)] at hq
    refine ⟨_, rfl, p, A.Session, dx, _, _, rfl, ho.hx, T.k_Session, T.s_memory, sF_mem, ?_⟩
    refine ⟨rfl, _, rfl, ifd (fun c => nomatch c) (fun _ => ?_)⟩
    refine ⟨_, rfl, p, A.Session, dx, _, rfl, ho.hx, T.k_Session, T.s_memory, (by show 3 < 1000; decide), ?_⟩
    rw [sP_mem]
    exact ⟨(by show 1 ≤ sizeLine; decide), ans (s := powerDown st st.disk) (mk_off rfl ho.off) hq⟩
end
end TS
namespace TS
open PySem PySem.Spec PyProof.Rows L2 Vbwsai
section
variable {P : Program} {w : World} {K : PySem.W.Frag} {mg : Str → Option Value} {base : Heap} {A : Ad}
abbrev s_recover : Stmt := top 108
theorem sc_recover : FnScope ["session", "found", "memory", "files", "place", "dropped_count"] ["session"] (defScope s_recover) := ⟨rfl, rfl, rfl, by decide +kernel, rfl, by decide +kernel, by decide +kernel⟩
theorem ok_recover (T : Txt K mg A) (F : FunAt K mg "recover" s_recover ["session"]) (d_recovered : Fn P w K mg base 8 "recovered" ["files"] (sp_recovered K A)) (d_journal_file : Fn P w K mg base 1 "journal_file" ["side"] (sp_journal_file K A)) : Fn P w K mg base 9 "recover" ["session"] (sp_recover K A) := by
  obtain ⟨f, fd, F, hmg, hb⟩ := F
  refine ⟨f, fd, F.ok sc_recover (fun vs H Q E h => ?_) (fun cdv Ar outer s H vs Q E hr h => ?_), hmg, F.kp, hb⟩
  · exact S1.len h
  refine ⟨_, (pss_cons (ps_if (pt_cmpR op_notN (pe_fld (pv 0) rfl) pe_non (nomark _)) (pss_one (ps_ret (pe_lst (pa_cons (pe_cst T.c_NOT_NOW rfl) pa_nil))))
      pss_nil)
      (pss_cons (ps_set (i := 1) sc_recover.nd rfl (Or.inl rfl) (pe_fn d_recovered (hr.mono (by decide)) rfl (pa_cons (pe_fld (pv 0) rfl) pa_nil)))
      (pss_cons (ps_if (pt_cmpR op_isN (pv 1) pe_non (nomark _)) (pss_one (ps_ret (pe_lst (pa_cons (pe_cst T.c_NOTHING_TO_RECOVER rfl) pa_nil))))
      pss_nil)
      (pss_cons (ps_set (i := 2) sc_recover.nd rfl (Or.inl rfl) (pe_fld (pv 1) rfl))
      (pss_cons (ps_set (i := 3) sc_recover.nd rfl (Or.inl rfl) (pe_fld (pv 0) rfl))
      (pss_cons (ps_set (i := 4) sc_recover.nd rfl (Or.inl rfl) (pe_fn d_journal_file (hr.mono (by decide)) rfl (pa_cons (pe_fld (pv 2) rfl) pa_nil)))
      (pss_cons (ps_set (i := 5) sc_recover.nd rfl (Or.inl rfl) (pe_op op_sub (pe_callB call_len_seq (by rfl) T.b_len PySem.boot_len (pa_cons (pe_ix ix_list (pv 3) (pv 4) (fun _ _ => rfl)) pa_nil)) (pe_fld (pv 1) rfl)))
      (pss_cons (ps_asg (pe_slice sl_list (pe_ix ix_list (pv 3) (pv 4) (fun _ _ => rfl)) po_none (po_some (pe_fld (pv 1) rfl))) (pg_sub (pv 3) (pv 4) set_list))
      (pss_cons (ps_fld (pv 0) (pv 2) rfl)
      (pss_cons (ps_fld (pv 0) (pe_fld (pv 2) rfl) rfl)
      (pss_one (ps_ret (pe_lst (pa_cons pe_int (pa_cons (pe_fld (pv 2) rfl) (pa_cons (pe_fld (pv 2) rfl) (pa_cons (pe_fld (pv 1) rfl) (pa_cons (pv 5) pa_nil)))))))))))))))))), ?_⟩
  obtain ⟨_, rfl, H0, p, st, rfl, ⟨hs, n, hn, hg⟩, hq⟩ := h
  have un : Vbwsai.step st .recover = (if st.powered = true then Vbwsai.fail st 3 else match recoverDisk st.disk with
      | none => Vbwsai.fail st 6
      | some (m, t, n, w, k) => Vbwsai.succeed { st with disk := { st.disk with journals := setElement st.disk.journals m.2 ((journalFile st.disk m.2).take k) }, powered := true, tick := t + n, contents := w, side := m.2, commitNumber := m.1, checkpointing := false, pending := [], durableTick := t + n } [(m.2 : Int), ((t + n : Nat) : Int), (n : Int), (((journalFile st.disk m.2).length - k : Nat) : Int)]) := rfl
  rw [un] at hq
  cases hp : st.powered with
  | true =>
    obtain ⟨dx, F, ps, m, dm, e, kvs, pd, ho⟩ := ses_on hs hp
    rw [hp, if_pos rfl] at hq
    refine ⟨_, rfl, p, A.Session, dx, _, _, rfl, ho.hx, T.k_Session, T.s_memory, sF_mem, ?_⟩
    exact ⟨rfl, _, rfl, ifn (fun _ => ⟨(by show 1 ≤ sizeLine; decide), ans hs hq⟩) (fun c => nomatch c)⟩
  | false =>
    obtain ⟨dx, F, ps, ho⟩ := ses_off hs hp
    rw [hp, if_neg (fun z => nomatch z)] at hq
    refine ⟨_, rfl, p, A.Session, dx, _, _, rfl, ho.hx, T.k_Session, T.s_memory, sF_mem, ?_⟩
    refine ⟨rfl, _, rfl, ifn (fun c => absurd rfl c) (fun _ => ?_)⟩
    refine ⟨_, rfl, p, A.Session, dx, _, _, rfl, ho.hx, T.k_Session, T.s_files, sF_files, _, rfl, H0, F, ps, st.disk, rfl, ho.fl, hg.wf, hg.small hn, fun H1 v s1 hv => ?_⟩
    have ho1 := ho.same s1
    cases hr : recoverDisk st.disk with
    | none =>
      rw [hr] at hv hq
      obtain rfl : v = V.non := hv
      exact ⟨_, rfl, rfl, _, rfl, ifd (fun _ => ⟨(by show 1 ≤ sizeLine; decide), ans (mk_off hp ho1) hq⟩) (fun c => absurd rfl c)⟩
    | some r =>
      obtain ⟨cm, t, k, w0, bc⟩ := r
      rw [hr] at hv hq
      obtain ⟨⟨x, rdx, m, dm, e, kvs, rfl, k1, k2, k3, k4, k5, k6⟩, hsd, _⟩ := hv
      have hsd' : cm.2 ≤ 1 := hsd
      have hle : bc ≤ (journalFile st.disk cm.2).length := recover_le (hg.small hn) hg.wf hsd' hr
      obtain ⟨aj, haj1, haj2, haj3, haj4, haj5⟩ := ho1.fl.get (j_get hg.wf hsd')
      obtain ⟨d1e, d1w⟩ := j_set hg.wf hsd' ((journalFile st.disk cm.2).take bc)
      have len6 : ps.length = 6 := by
        have := congrArg List.length ho.fl.bs_
        rw [List.length_map, hg.wf.len] at this
        exact this
      refine ⟨_, rfl, rfl, _, rfl, ifd (fun c => nomatch c) (fun _ => ?_)⟩
      refine ⟨_, rfl, x, A.Recovery, rdx, _, _, rfl, k1, T.k_Recovery, T.r_memory, rF_mem, ?_⟩
      refine ⟨_, rfl, p, A.Session, dx, _, _, rfl, ho1.hx, T.k_Session, T.s_files, sF_files, ?_⟩
      refine ⟨_, rfl, m, A.Memory, dm, _, _, rfl, k2, T.k_Memory, T.m_side, mF_side, _, rfl, _, rfl, ?_⟩
      refine ⟨_, rfl, _, rfl, F, _, _, _, rfl, rfl, SqL.of ho1.fl.hF, atI_nat (j := 2 + cm.2) haj2, aj, _, rfl, .inl (SqL.of haj3), ?_⟩
      refine ⟨_, rfl, x, A.Recovery, rdx, _, _, rfl, k1, T.k_Recovery, T.r_byte_count, rF_bc, _, _, rfl, rfl, ?_⟩
      refine ⟨_, rfl, _, rfl, F, _, _, _, rfl, rfl, SqL.of ho1.fl.hF, atI_nat (j := 2 + cm.2) haj2, ?_⟩
      refine ⟨_, rfl, x, A.Recovery, rdx, _, _, rfl, k1, T.k_Recovery, T.r_byte_count, rF_bc, _, rfl, aj, _, rfl, SqL.of haj3, fun q hq1 => ?_⟩
      have ec : cutV (vb (journalFile st.disk cm.2)) none (some (bc : Int)) = vb ((journalFile st.disk cm.2).take bc) := by rw [cut_hi, vb_take]
      have t1 : Same H1 (upd H1 q (.lst (cutV (vb (journalFile st.disk cm.2)) none (some (bc : Int))))) := same_upd hq1
      have ho2 := ho1.same t1
      have eq1 : upd H1 q (.lst (cutV (vb (journalFile st.disk cm.2)) none (some (bc : Int)))) q = some (.lst (vb ((journalFile st.disk cm.2).take bc))) := by rw [upd_same, ec]
      refine ⟨_, rfl, _, rfl, F, _, _, 2 + cm.2, rfl, rfl, ho2.fl.hF, ixN_nat (by show (2 : Int) + (cm.2 : Int) = _; omega) (by rw [List.length_map]; omega), ?_⟩
      have ho3 := ho2.put (i := 2 + cm.2) (by omega) eq1 (ho1.s0.free hq1) (ne_of_none ho1.fl.hF hq1).symm (fun j y hj => ne_of_none (ho1.fl.at_ j y hj).1 hq1)
      rw [← d1e] at ho3
      have nF : ∀ (b : Addr) (o : HO), H1 b = some o → (∀ xs, o ≠ .lst xs) → upd (upd H1 q (.lst (cutV (vb (journalFile st.disk cm.2)) none (some (bc : Int))))) F (.lst ((ps.map fun y => V.ref y.1).set (2 + cm.2) (.ref q))) b = some o := fun b o hb hk => by
        rw [upd_ne]
        · exact t1 _ _ hb
        · intro z
          rw [z, ho1.fl.hF] at hb
          exact hk _ (Option.some.inj hb).symm
      have m3 := nF _ _ k2 (fun xs z => nomatch z)
      have e3 := nF _ _ k3 (fun xs z => nomatch z)
      have x3 := nF _ _ k1 (fun xs z => nomatch z)
      generalize hG : upd (upd H1 q (.lst (cutV (vb (journalFile st.disk cm.2)) none (some (bc : Int))))) F (.lst ((ps.map fun y => V.ref y.1).set (2 + cm.2) (.ref q))) = G at *
      refine ⟨_, rfl, _, rfl, p, A.Session, dx, _, rfl, ho3.hx, T.k_Session, T.s_memory, (by show 3 < 1000; decide), ?_⟩
      rw [sP_mem]
      have ho4 := ho3.on m3 (ho.s0.free k5) e3 (ho.s0.free k6) k4
      refine ⟨_, rfl, m, A.Memory, dm, _, _, rfl, ho4.hm, T.k_Memory, T.m_tick_number, mF_tick, _, rfl, p, A.Session, dx, _, rfl, ho4.hx, T.k_Session, T.s_durable_tick, (by show 3 < 1000; decide), ?_⟩
      rw [sP_dur]
      have ho5 := ho4.setDur (d' := t + k)
      have xp : x ≠ p := fun z => by
        rw [z] at k1
        rw [ho1.hx] at k1
        injection (Option.some.inj k1) with _ _ z2
        have := (List.cons.inj z2).1
        have this2 : ("memory" : Str) = "files" ∨ ("files" : Str) = "memory" := by first | exact .inl (congrArg Prod.fst this) | exact .inr (congrArg Prod.fst this)
        exact absurd this2 (by decide +kernel)
      refine ⟨_, rfl, m, A.Memory, dm, _, _, rfl, ho5.hm, T.k_Memory, T.m_side, mF_side, _, rfl, m, A.Memory, dm, _, _, rfl, ho5.hm, T.k_Memory, T.m_tick_number, mF_tick, ?_⟩
      refine ⟨_, rfl, x, A.Recovery, rdx, _, _, rfl, by rw [upd_ne xp, upd_ne xp]; exact x3, T.k_Recovery, T.r_tick_count, rF_tc, _, rfl, (by show 5 ≤ sizeLine; decide), ?_⟩
      have hv2 : ((vb (journalFile st.disk cm.2)).length : Int) - (bc : Int) = (((journalFile st.disk cm.2).length - bc : Nat) : Int) := by rw [vb_len]; omega
      show ∀ q2, _ = none → Q (.ref q2) (upd _ q2 (.lst [.int 0, .int (cm.2 : Int), .int ((t + k : Nat) : Int), .int (k : Int), .int (((vb (journalFile st.disk cm.2)).length : Int) - (bc : Int))]))
      rw [hv2]
      exact ans (s := { st with disk := { st.disk with journals := setElement st.disk.journals cm.2 ((journalFile st.disk cm.2).take bc) }, powered := true, tick := t + k, contents := w0, side := cm.2, commitNumber := cm.1, checkpointing := false, pending := [], durableTick := t + k }) (mk_on rfl ho5) hq
end
end TS
namespace TS
open PySem PySem.Spec PyProof.Rows L2 Vbwsai
section
variable {P : Program} {w : World} {K : PySem.W.Frag} {mg : Str → Option Value} {base : Heap} {A : Ad}
abbrev s_get_value : Stmt := top 109
theorem sc_get_value : FnScope ["session", "key", "memory"] ["session", "key"] (defScope s_get_value) := ⟨rfl, rfl, rfl, by decide +kernel, rfl, by decide +kernel, by decide +kernel⟩
theorem ok_get_value (T : Txt K mg A) (F : FunAt K mg "get_value" s_get_value ["session", "key"])  : Fn P w K mg base 1 "get_value" ["session", "key"] (sp_get_value K A) := by
  obtain ⟨f, fd, F, hmg, hb⟩ := F
  refine ⟨f, fd, F.ok sc_get_value (fun vs H Q E h => ?_) (fun cdv Ar outer s H vs Q E hr h => ?_), hmg, F.kp, hb⟩
  · exact S2.len h
  refine ⟨_, (pss_cons (ps_if (pt_cmpR op_lt (pv 1) pe_int (nomark _)) (pss_one (ps_ret (pe_lst (pa_cons (pe_cst T.c_BAD_ARGUMENT rfl) pa_nil))))
      pss_nil)
      (pss_cons (ps_set (i := 2) sc_get_value.nd rfl (Or.inl rfl) (pe_fld (pv 0) rfl))
      (pss_cons (ps_if (pt_cmpR op_isN (pv 2) pe_non (nomark _)) (pss_one (ps_ret (pe_lst (pa_cons (pe_cst T.c_NO_POWER rfl) pa_nil))))
      pss_nil)
      (pss_cons (ps_if (pt_cmp (pc_dnotin (hu_of hr) (pv 1) (pe_fld (pv 2) rfl))) (pss_one (ps_ret (pe_lst (pa_cons (pe_cst T.c_NOT_THERE rfl) pa_nil))))
      pss_nil)
      (pss_one (ps_ret (pe_lst (pa_cons pe_int (pa_cons (pe_dget (hu_of hr) (pe_fld (pv 2) rfl) (pv 1) (fun _ _ => rfl)) pa_nil))))))))), ?_⟩
  obtain ⟨_, _, rfl, H0, p, st, k, rfl, rfl, ⟨hs, n, hn, hg⟩, hq⟩ := h
  have un : Vbwsai.step st (.get k) = (if k < 0 then Vbwsai.fail st 1 else if st.powered = false then Vbwsai.fail st 7 else match lookupKey k.toNat st.contents with
      | none => Vbwsai.fail st 4
      | some v => Vbwsai.succeed st [v]) := rfl
  rw [un] at hq
  refine ⟨_, rfl, _, _, rfl, rfl, _, rfl, ifd (fun c => ?_) (fun c => ?_)⟩
  · rw [if_pos c] at hq
    exact ⟨(by show 1 ≤ sizeLine; decide), ans hs hq⟩
  rw [if_neg c] at hq
  cases hp : st.powered with
  | false =>
    obtain ⟨dx, F, ps, ho⟩ := ses_off hs hp
    rw [hp, if_pos rfl] at hq
    refine ⟨_, rfl, p, A.Session, dx, _, _, rfl, ho.hx, T.k_Session, T.s_memory, sF_mem, ?_⟩
    exact ⟨_, rfl, rfl, _, rfl, ifd (fun _ => ⟨(by show 1 ≤ sizeLine; decide), ans hs hq⟩) (fun c => absurd rfl c)⟩
  | true =>
    obtain ⟨dx, F, ps, m, dm, e, kvs, pd, ho⟩ := ses_on hs hp
    rw [hp, if_neg (fun z => nomatch z)] at hq
    refine ⟨_, rfl, p, A.Session, dx, _, _, rfl, ho.hx, T.k_Session, T.s_memory, sF_mem, ?_⟩
    refine ⟨_, rfl, rfl, _, rfl, ifd (fun c => nomatch c) (fun _ => ?_)⟩
    obtain ⟨kn, rfl⟩ : ∃ kn : Nat, k = (kn : Int) := ⟨k.toNat, by omega⟩
    rw [Int.toNat_natCast] at hq
    have dg := DGet.k (k := Sum.inl (kn : Int)) ho.he
    rw [ho.en.look] at dg
    refine ⟨_, rfl, _, rfl, m, A.Memory, dm, _, _, rfl, ho.hm, T.k_Memory, T.m_entries, mF_ents, e, _, rfl, dg, _, rfl, ?_⟩
    cases h6 : lookupKey kn st.contents with
    | none =>
      rw [h6] at hq
      exact iteT ⟨(by show 1 ≤ sizeLine; decide), ans hs hq⟩
    | some v =>
      rw [h6] at hq dg
      refine iteF ?_
      exact ⟨_, rfl, m, A.Memory, dm, _, _, rfl, ho.hm, T.k_Memory, T.m_entries, mF_ents, _, rfl, e, _, rfl, dg, (by show 2 ≤ sizeLine; decide), ans hs hq⟩
end
end TS
namespace TS
open PySem PySem.Spec PyProof.Rows L2 Vbwsai
section
variable {P : Program} {w : World} {K : PySem.W.Frag} {mg : Str → Option Value} {base : Heap} {A : Ad}
abbrev s_contents : Stmt := top 110
theorem sc_contents : FnScope ["session", "memory"] ["session"] (defScope s_contents) := ⟨rfl, rfl, rfl, by decide +kernel, rfl, by decide +kernel, by decide +kernel⟩
theorem ok_contents (T : Txt K mg A) (F : FunAt K mg "contents" s_contents ["session"]) (d_entry_numbers : Fn P w K mg base 1 "entry_numbers" ["entries"] (sp_entry_numbers K A)) : Fn P w K mg base 2 "contents" ["session"] (sp_contents K A) := by
  obtain ⟨f, fd, F, hmg, hb⟩ := F
  refine ⟨f, fd, F.ok sc_contents (fun vs H Q E h => ?_) (fun cdv Ar outer s H vs Q E hr h => ?_), hmg, F.kp, hb⟩
  · exact S1.len h
  refine ⟨_, (pss_cons (ps_set (i := 1) sc_contents.nd rfl (Or.inl rfl) (pe_fld (pv 0) rfl))
      (pss_cons (ps_if (pt_cmpR op_isN (pv 1) pe_non (nomark _)) (pss_one (ps_ret (pe_lst (pa_cons (pe_cst T.c_NO_POWER rfl) pa_nil))))
      pss_nil)
      (pss_one (ps_ret (pe_op op_cat (pe_lst (pa_cons pe_int (pa_cons (pe_fld (pv 1) rfl) pa_nil))) (pe_fn d_entry_numbers (hr.mono (by decide)) rfl (pa_cons (pe_fld (pv 1) rfl) pa_nil))))))), ?_⟩
  obtain ⟨_, rfl, H0, p, st, rfl, ⟨hs, n, hn, hg⟩, hq⟩ := h
  have un : Vbwsai.step st .contents = (if st.powered = false then Vbwsai.fail st 7 else Vbwsai.succeed st ((st.tick : Int) :: flatS st.contents)) := rfl
  rw [un] at hq
  cases hp : st.powered with
  | false =>
    obtain ⟨dx, F, ps, ho⟩ := ses_off hs hp
    rw [hp, if_pos rfl] at hq
    refine ⟨_, rfl, p, A.Session, dx, _, _, rfl, ho.hx, T.k_Session, T.s_memory, sF_mem, ?_⟩
    exact ⟨_, rfl, rfl, _, rfl, ifd (fun _ => ⟨(by show 1 ≤ sizeLine; decide), ans hs hq⟩) (fun c => absurd rfl c)⟩
  | true =>
    obtain ⟨dx, F, ps, m, dm, e, kvs, pd, ho⟩ := ses_on hs hp
    rw [hp, if_neg (fun z => nomatch z)] at hq
    refine ⟨_, rfl, p, A.Session, dx, _, _, rfl, ho.hx, T.k_Session, T.s_memory, sF_mem, ?_⟩
    refine ⟨_, rfl, rfl, _, rfl, ifd (fun c => nomatch c) (fun _ => ?_)⟩
    refine ⟨_, rfl, m, A.Memory, dm, _, _, rfl, ho.hm, T.k_Memory, T.m_tick_number, mF_tick, (by show 2 ≤ sizeLine; decide), fun q hq1 => ?_⟩
    have t1 : Same H (upd H q (.lst [.int 0, .int (st.tick : Int)])) := same_upd hq1
    refine ⟨_, rfl, m, A.Memory, dm, _, _, rfl, t1 _ _ ho.hm, T.k_Memory, T.m_entries, mF_ents, _, rfl, e, kvs, st.contents, rfl, t1 _ _ ho.he, ho.en, fun H2 r s2 n2 e2 => ?_⟩
    refine ⟨q, r, _, _, rfl, rfl, s2 _ _ upd_same, e2, ?_, fun r2 hr2 => ?_⟩
    · have := ho.en.len
      rw [vi_len, flatS_len]
      exact lim_sz' (by show 2 + _ ≤ _; omega)
    · exact ans (ses_same hs (t1.trans s2)) hq r2 hr2
end
end TS
namespace TS
open PySem PySem.Spec PyProof.Rows L2 Vbwsai
section
variable {P : Program} {w : World} {K : PySem.W.Frag} {mg : Str → Option Value} {base : Heap} {A : Ad}
abbrev s_Reader_init : Stmt := inClass (top 115) 0
theorem sc_Reader_init : FnScope ["self", "calls"] ["self", "calls"] (defScope s_Reader_init) := ⟨rfl, rfl, rfl, by decide +kernel, rfl, by decide +kernel, by decide +kernel⟩
theorem ok_Reader_init (T : Txt K mg A) (F : FunM K A.Reader "__init__" "Reader.__init__" s_Reader_init ["self", "calls"])  : Me P w K mg base 1 A.Reader "__init__" ["self", "calls"] (sp_Reader_init K A) := by
  obtain ⟨f, fd, F, hmg, hb⟩ := F
  refine ⟨f, fd, F.ok sc_Reader_init (fun vs H Q E h => ?_) (fun cdv Ar outer s H vs Q E hr h => ?_), hmg, hb⟩
  · exact S2.len h
  refine ⟨_, (pss_cons (ps_fld (pv 0) (pv 1) rfl)
      (pss_one (ps_fld (pv 0) pe_int rfl))), ?_⟩
  obtain ⟨_, _, rfl, p, dx, cl, rfl, rfl, hp, hq⟩ := h
  refine ⟨_, rfl, _, rfl, p, A.Reader, dx, _, rfl, hp, T.k_Reader, T.d_calls, (by show 0 < 1000; decide), ?_⟩
  refine ⟨_, rfl, p, A.Reader, dx, _, rfl, upd_same, T.k_Reader, T.d_place, (by show 1 < 1000; decide), ?_⟩
  rw [upd_upd]
  have e : putF "place" (.int 0) (putF "calls" (.ref cl) []) = dF cl 0 := dF_made
  rw [e]
  exact hq
end
end TS
namespace TS
open PySem PySem.Spec PyProof.Rows L2 Vbwsai
section
variable {P : Program} {w : World} {K : PySem.W.Frag} {mg : Str → Option Value} {base : Heap} {A : Ad}
abbrev s_has_more : Stmt := inClass (top 115) 1
theorem sc_has_more : FnScope ["self"] ["self"] (defScope s_has_more) := ⟨rfl, rfl, rfl, by decide +kernel, rfl, by decide +kernel, by decide +kernel⟩
theorem ok_has_more (T : Txt K mg A) (F : FunM K A.Reader "has_more" "Reader.has_more" s_has_more ["self"])  : Me P w K mg base 1 A.Reader "has_more" ["self"] (sp_has_more K A) := by
  obtain ⟨f, fd, F, hmg, hb⟩ := F
  refine ⟨f, fd, F.ok sc_has_more (fun vs H Q E h => ?_) (fun cdv Ar outer s H vs Q E hr h => ?_), hmg, hb⟩
  · exact S1.len h
  refine ⟨_, (pss_one (ps_ret (pe_cmpR op_lt (pe_fld (pv 0) rfl) (pe_callB call_len_seq (by rfl) T.b_len PySem.boot_len (pa_cons (pe_fld (pv 0) rfl) pa_nil)) (nomark _)))), ?_⟩
  obtain ⟨_, rfl, r, dx, cl, l, i, rfl, hr0, sq, hq⟩ := h
  refine ⟨_, rfl, r, A.Reader, dx, _, _, rfl, hr0, T.k_Reader, T.d_place, dF_place, ?_⟩
  refine ⟨_, rfl, r, A.Reader, dx, _, _, rfl, hr0, T.k_Reader, T.d_calls, dF_calls, cl, _, rfl, .inl sq, _, _, rfl, rfl, bl_iff ?_ hq⟩
  rw [vi_len]
  omega
end
end TS
namespace TS
open PySem PySem.Spec PyProof.Rows L2 Vbwsai
section
variable {P : Program} {w : World} {K : PySem.W.Frag} {mg : Str → Option Value} {base : Heap} {A : Ad}
abbrev s_take_number : Stmt := inClass (top 115) 2
theorem sc_take_number : FnScope ["self", "number"] ["self"] (defScope s_take_number) := ⟨rfl, rfl, rfl, by decide +kernel, rfl, by decide +kernel, by decide +kernel⟩
theorem ok_take_number (T : Txt K mg A) (F : FunM K A.Reader "take_number" "Reader.take_number" s_take_number ["self"])  : Me P w K mg base 1 A.Reader "take_number" ["self"] (sp_take_number K A) := by
  obtain ⟨f, fd, F, hmg, hb⟩ := F
  refine ⟨f, fd, F.ok sc_take_number (fun vs H Q E h => ?_) (fun cdv Ar outer s H vs Q E hr h => ?_), hmg, hb⟩
  · exact S1.len h
  refine ⟨_, (pss_cons (ps_set (i := 1) sc_take_number.nd rfl (Or.inl rfl) (pe_ix ix_list (pe_fld (pv 0) rfl) (pe_fld (pv 0) rfl) (fun _ _ => rfl)))
      (pss_cons (ps_fldaug (pv 0) pe_int in_add)
      (pss_one (ps_ret (pv 1))))), ?_⟩
  obtain ⟨_, rfl, r, dx, cl, l, i, n, rfl, hr0, sq, hn, hq⟩ := h
  refine ⟨_, rfl, r, A.Reader, dx, _, _, rfl, hr0, T.k_Reader, T.d_calls, dF_calls, ?_⟩
  refine ⟨_, rfl, r, A.Reader, dx, _, _, rfl, hr0, T.k_Reader, T.d_place, dF_place, cl, _, _, _, rfl, rfl, sq, at_vi hn, ?_⟩
  refine ⟨_, rfl, r, A.Reader, dx, _, _, rfl, hr0, T.k_Reader, T.d_place, dF_place, _, _, rfl, rfl, dx, _, hr0, (by show 2 < 1000; decide), ?_⟩
  rw [dP_place, show ((i : Int) + 1) = ((i + 1 : Nat) : Int) by omega]
  exact ⟨_, rfl, hq⟩
end
end TS
namespace TS
open PySem PySem.Spec PyProof.Rows L2 Vbwsai
section
variable {P : Program} {w : World} {K : PySem.W.Frag} {mg : Str → Option Value} {base : Heap} {A : Ad}
abbrev s_take_row : Stmt := inClass (top 115) 3
theorem sc_take_row : FnScope ["self", "length", "start"] ["self"] (defScope s_take_row) := ⟨rfl, rfl, rfl, by decide +kernel, rfl, by decide +kernel, by decide +kernel⟩
theorem ok_take_row (T : Txt K mg A) (F : FunM K A.Reader "take_row" "Reader.take_row" s_take_row ["self"]) (d_take_number : Me P w K mg base 1 A.Reader "take_number" ["self"] (sp_take_number K A)) : Me P w K mg base 2 A.Reader "take_row" ["self"] (sp_take_row K A) := by
  obtain ⟨f, fd, F, hmg, hb⟩ := F
  refine ⟨f, fd, F.ok sc_take_row (fun vs H Q E h => ?_) (fun cdv Ar outer s H vs Q E hr h => ?_), hmg, hb⟩
  · exact S1.len h
  refine ⟨_, (pss_cons (ps_set (i := 1) sc_take_row.nd rfl (Or.inl rfl) (pe_me0 d_take_number T.k_Reader (pv 0) (hr.mono (by decide))))
      (pss_cons (ps_set (i := 2) sc_take_row.nd rfl (Or.inl rfl) (pe_fld (pv 0) rfl))
      (pss_cons (ps_fld (pv 0) (pe_op op_add (pv 2) (pv 1)) rfl)
      (pss_one (ps_ret (pe_slice sl_list (pe_fld (pv 0) rfl) (po_some (pv 2)) (po_some (pe_fld (pv 0) rfl)))))))), ?_⟩
  obtain ⟨_, rfl, r, dx, cl, l, row, i, j, rfl, hr0, sq, tk, hq⟩ := h
  refine ⟨_, rfl, r, dx, _, rfl, hr0, dF_no (by decide +kernel) (by decide +kernel), _, rfl, r, dx, cl, l, i, (row.length : Int), rfl, hr0, sq, tk.get, ?_⟩
  have s1 := sq_ins (o := RdO A dx cl (i + 1)) sq hr0
  refine ⟨_, rfl, r, A.Reader, dx, _, _, rfl, upd_same, T.k_Reader, T.d_place, dF_place, ?_⟩
  refine ⟨_, rfl, _, rfl, _, _, rfl, rfl, _, rfl, r, A.Reader, dx, _, rfl, upd_same, T.k_Reader, T.d_place, (by show 2 < 1000; decide), ?_⟩
  rw [dP_place, upd_upd, show (((i + 1 : Nat) : Int) + (row.length : Int)) = (j : Int) by have := tk.j_; omega]
  have s2 := sq_ins (o := RdO A dx cl j) sq hr0
  refine ⟨_, rfl, r, A.Reader, dx, _, _, rfl, upd_same, T.k_Reader, T.d_calls, dF_calls, _, rfl, _, rfl, ?_⟩
  refine ⟨_, rfl, r, A.Reader, dx, _, _, rfl, upd_same, T.k_Reader, T.d_place, dF_place, _, rfl, cl, _, rfl, s2, fun p hp => ?_⟩
  have hj := tk.j_
  rw [cut_both _ _ _ (by omega) (by rw [vi_len]; exact tk.le), vi_drop, vi_take, show j - (i + 1) = row.length by omega, tk.eq]
  exact hq p hp
end
end TS
namespace TS
open PySem PySem.Spec PyProof.Rows L2 Vbwsai
section
variable {P : Program} {w : World} {K : PySem.W.Frag} {mg : Str → Option Value} {base : Heap} {A : Ad}
abbrev s_store_answer : Stmt := top 116
theorem sc_store_answer : FnScope ["session", "operation", "reader", "power"] ["session", "operation", "reader"] (defScope s_store_answer) := ⟨rfl, rfl, rfl, by decide +kernel, rfl, by decide +kernel, by decide +kernel⟩
theorem ok_store_answer (T : Txt K mg A) (F : FunAt K mg "store_answer" s_store_answer ["session", "operation", "reader"]) (d_reset : Fn P w K mg base 7 "reset" ["session"] (sp_reset K A)) (d_take_number : Me P w K mg base 1 A.Reader "take_number" ["self"] (sp_take_number K A)) (d_tick : Fn P w K mg base 5 "tick" ["session", "power", "changes"] (sp_tick K A)) (d_take_row : Me P w K mg base 2 A.Reader "take_row" ["self"] (sp_take_row K A)) (d_begin_checkpoint : Fn P w K mg base 5 "begin_checkpoint" ["session"] (sp_begin_checkpoint K A)) (d_write_checkpoint : Fn P w K mg base 2 "write_checkpoint" ["session", "count"] (sp_write_checkpoint K A)) (d_commit_checkpoint : Fn P w K mg base 5 "commit_checkpoint" ["session", "power"] (sp_commit_checkpoint K A)) (d_cut_power : Fn P w K mg base 1 "cut_power" ["session"] (sp_cut_power K A)) (d_recover : Fn P w K mg base 9 "recover" ["session"] (sp_recover K A)) (d_get_value : Fn P w K mg base 1 "get_value" ["session", "key"] (sp_get_value K A)) (d_contents : Fn P w K mg base 2 "contents" ["session"] (sp_contents K A)) : Fn P w K mg base 10 "store_answer" ["session", "operation", "reader"] (sp_store_answer K A) := by
  obtain ⟨f, fd, F, hmg, hb⟩ := F
  refine ⟨f, fd, F.ok sc_store_answer (fun vs H Q E h => ?_) (fun cdv Ar outer s H vs Q E hr h => ?_), hmg, F.kp, hb⟩
  · exact S3.len h
  refine ⟨_, (pss_cons (ps_if (pt_cmpR op_eq (pv 1) pe_int (nomark _)) (pss_one (ps_ret (pe_fn d_reset (hr.mono (by decide)) rfl (pa_cons (pv 0) pa_nil))))
      pss_nil)
      (pss_cons (ps_if (pt_cmpR op_eq (pv 1) pe_int (nomark _)) (pss_cons (ps_set (i := 3) sc_store_answer.nd rfl (Or.inl rfl) (pe_me0 d_take_number T.k_Reader (pv 2) (hr.mono (by decide))))
      (pss_one (ps_ret (pe_fn d_tick (hr.mono (by decide)) rfl (pa_cons (pv 0) (pa_cons (pv 3) (pa_cons (pe_me0 d_take_row T.k_Reader (pv 2) (hr.mono (by decide))) pa_nil)))))))
      pss_nil)
      (pss_cons (ps_if (pt_cmpR op_eq (pv 1) pe_int (nomark _)) (pss_one (ps_ret (pe_fn d_begin_checkpoint (hr.mono (by decide)) rfl (pa_cons (pv 0) pa_nil))))
      pss_nil)
      (pss_cons (ps_if (pt_cmpR op_eq (pv 1) pe_int (nomark _)) (pss_one (ps_ret (pe_fn d_write_checkpoint (hr.mono (by decide)) rfl (pa_cons (pv 0) (pa_cons (pe_me0 d_take_number T.k_Reader (pv 2) (hr.mono (by decide))) pa_nil)))))
      pss_nil)
      (pss_cons (ps_if (pt_cmpR op_eq (pv 1) pe_int (nomark _)) (pss_one (ps_ret (pe_fn d_commit_checkpoint (hr.mono (by decide)) rfl (pa_cons (pv 0) (pa_cons (pe_me0 d_take_number T.k_Reader (pv 2) (hr.mono (by decide))) pa_nil)))))
      pss_nil)
      (pss_cons (ps_if (pt_cmpR op_eq (pv 1) pe_int (nomark _)) (pss_one (ps_ret (pe_fn d_cut_power (hr.mono (by decide)) rfl (pa_cons (pv 0) pa_nil))))
      pss_nil)
      (pss_cons (ps_if (pt_cmpR op_eq (pv 1) pe_int (nomark _)) (pss_one (ps_ret (pe_fn d_recover (hr.mono (by decide)) rfl (pa_cons (pv 0) pa_nil))))
      pss_nil)
      (pss_cons (ps_if (pt_cmpR op_eq (pv 1) pe_int (nomark _)) (pss_one (ps_ret (pe_fn d_get_value (hr.mono (by decide)) rfl (pa_cons (pv 0) (pa_cons (pe_me0 d_take_number T.k_Reader (pv 2) (hr.mono (by decide))) pa_nil)))))
      pss_nil)
      (pss_one (ps_ret (pe_fn d_contents (hr.mono (by decide)) rfl (pa_cons (pv 0) pa_nil)))))))))))), ?_⟩
  obtain ⟨_, _, _, rfl, H0, p, st, op, r, dx, cl, l, i, j, c, rfl, rfl, rfl, hs, hr0, sq0, par, hop, hq⟩ := h
  have s0 := ses_s0 hs.1
  have hrH := s0 _ _ hr0
  have sq := s0.seq sq0
  have no : ∀ {k : Str} {z : Int}, (k == ("calls" : Str)) = false → (k == ("place" : Str)) = false → (dF cl z).lookup k = none := fun a b => dF_no a b
  have sg := sesg_chg (o := RdO A dx cl j) hs hr0
  cases par with
  | c0 => exact ⟨_, rfl, rfl, _, rfl, if_eq ⟨_, rfl, _, rfl, H0, p, st, rfl, hs, opq_self hq hr0⟩⟩
  | @c1 pw row _ h1 tk hl =>
    refine ⟨_, rfl, rfl, _, rfl, if_ne (by decide) ⟨_, rfl, rfl, _, rfl, if_eq ?_⟩⟩
    refine ⟨_, rfl, r, dx, _, rfl, hrH, no (by decide +kernel) (by decide +kernel), _, rfl, r, dx, cl, l, i, pw, rfl, hrH, sq, h1, ?_⟩
    have sq2 := sq_ins (o := RdO A dx cl (i + 1)) sq hrH
    refine ⟨_, rfl, _, rfl, _, rfl, r, dx, _, rfl, upd_same, no (by decide +kernel) (by decide +kernel), _, rfl, r, dx, cl, l, row, i + 1, j, rfl, upd_same, sq2, tk, ?_⟩
    rw [upd_upd]
    intro a ha
    have n0 := (ses_s0 sg.1).free ha
    exact ⟨_, _, _, rfl, _, p, st, pw, a, row, rfl, rfl, rfl, sesg_add sg (same_upd ha) ha upd_same, upd_same, by omega, upd_same, opq_older hq (same_upd n0)⟩
  | c2 => exact ⟨_, rfl, rfl, _, rfl, if_ne (by decide) ⟨_, rfl, rfl, _, rfl, if_ne (by decide) ⟨_, rfl, rfl, _, rfl, if_eq ⟨_, rfl, _, rfl, H0, p, st, rfl, hs, opq_self hq hr0⟩⟩⟩⟩
  | @c3 n h1 =>
    refine ⟨_, rfl, rfl, _, rfl, if_ne (by decide) ⟨_, rfl, rfl, _, rfl, if_ne (by decide) ⟨_, rfl, rfl, _, rfl, if_ne (by decide) ⟨_, rfl, rfl, _, rfl, if_eq ?_⟩⟩⟩⟩
    exact ⟨_, rfl, _, rfl, r, dx, _, rfl, hrH, no (by decide +kernel) (by decide +kernel), _, rfl, r, dx, cl, l, i, n, rfl, hrH, sq, h1, _, _, rfl, _, p, st, n, rfl, rfl, sg, hq⟩
  | @c4 n h1 =>
    refine ⟨_, rfl, rfl, _, rfl, if_ne (by decide) ⟨_, rfl, rfl, _, rfl, if_ne (by decide) ⟨_, rfl, rfl, _, rfl, if_ne (by decide) ⟨_, rfl, rfl, _, rfl, if_ne (by decide) ⟨_, rfl, rfl, _, rfl, if_eq ?_⟩⟩⟩⟩⟩
    exact ⟨_, rfl, _, rfl, r, dx, _, rfl, hrH, no (by decide +kernel) (by decide +kernel), _, rfl, r, dx, cl, l, i, n, rfl, hrH, sq, h1, _, _, rfl, _, p, st, n, rfl, rfl, sg, hq⟩
  | c5 =>
    refine ⟨_, rfl, rfl, _, rfl, if_ne (by decide) ⟨_, rfl, rfl, _, rfl, if_ne (by decide) ⟨_, rfl, rfl, _, rfl, if_ne (by decide) ⟨_, rfl, rfl, _, rfl, if_ne (by decide) ⟨_, rfl, rfl, _, rfl, if_ne (by decide) ⟨_, rfl, rfl, _, rfl, if_eq ?_⟩⟩⟩⟩⟩⟩
    exact ⟨_, rfl, _, rfl, H0, p, st, rfl, hs, opq_self hq hr0⟩
  | c6 =>
    refine ⟨_, rfl, rfl, _, rfl, if_ne (by decide) ⟨_, rfl, rfl, _, rfl, if_ne (by decide) ⟨_, rfl, rfl, _, rfl, if_ne (by decide) ⟨_, rfl, rfl, _, rfl, if_ne (by decide) ⟨_, rfl, rfl, _, rfl, if_ne (by decide) ⟨_, rfl, rfl, _, rfl, if_ne (by decide) ⟨_, rfl, rfl, _, rfl, if_eq ?_⟩⟩⟩⟩⟩⟩⟩
    exact ⟨_, rfl, _, rfl, H0, p, st, rfl, hs, opq_self hq hr0⟩
  | @c7 n h1 =>
    refine ⟨_, rfl, rfl, _, rfl, if_ne (by decide) ⟨_, rfl, rfl, _, rfl, if_ne (by decide) ⟨_, rfl, rfl, _, rfl, if_ne (by decide) ⟨_, rfl, rfl, _, rfl, if_ne (by decide) ⟨_, rfl, rfl, _, rfl, if_ne (by decide) ⟨_, rfl, rfl, _, rfl, if_ne (by decide) ⟨_, rfl, rfl, _, rfl, if_ne (by decide) ⟨_, rfl, rfl, _, rfl, if_eq ?_⟩⟩⟩⟩⟩⟩⟩⟩
    exact ⟨_, rfl, _, rfl, r, dx, _, rfl, hrH, no (by decide +kernel) (by decide +kernel), _, rfl, r, dx, cl, l, i, n, rfl, hrH, sq, h1, _, _, rfl, _, p, st, n, rfl, rfl, sg, hq⟩
  | c8 =>
    refine ⟨_, rfl, rfl, _, rfl, if_ne (by decide) ⟨_, rfl, rfl, _, rfl, if_ne (by decide) ⟨_, rfl, rfl, _, rfl, if_ne (by decide) ⟨_, rfl, rfl, _, rfl, if_ne (by decide) ⟨_, rfl, rfl, _, rfl, if_ne (by decide) ⟨_, rfl, rfl, _, rfl, if_ne (by decide) ⟨_, rfl, rfl, _, rfl, if_ne (by decide) ⟨_, rfl, rfl, _, rfl, if_ne (by decide) ?_⟩⟩⟩⟩⟩⟩⟩⟩
    exact ⟨_, rfl, _, rfl, H0, p, st, rfl, hs, opq_self hq hr0⟩
  | _ => exact absurd hop (by decide)
end
end TS
namespace TS
open PySem PySem.Spec PyProof.Rows L2 Vbwsai
section
variable {P : Program} {w : World} {K : PySem.W.Frag} {mg : Str → Option Value} {base : Heap} {A : Ad}
abbrev s_corruption_answer : Stmt := top 117
theorem sc_corruption_answer : FnScope ["session", "reader", "file_number", "position"] ["session", "reader"] (defScope s_corruption_answer) := ⟨rfl, rfl, rfl, by decide +kernel, rfl, by decide +kernel, by decide +kernel⟩
theorem ok_corruption_answer (T : Txt K mg A) (F : FunAt K mg "corruption_answer" s_corruption_answer ["session", "reader"]) (d_take_number : Me P w K mg base 1 A.Reader "take_number" ["self"] (sp_take_number K A)) (d_corrupt_byte : Fn P w K mg base 2 "corrupt_byte" ["session", "file_number", "position", "byte"] (sp_corrupt_byte K A)) : Fn P w K mg base 3 "corruption_answer" ["session", "reader"] (sp_corruption_answer K A) := by
  obtain ⟨f, fd, F, hmg, hb⟩ := F
  refine ⟨f, fd, F.ok sc_corruption_answer (fun vs H Q E h => ?_) (fun cdv Ar outer s H vs Q E hr h => ?_), hmg, F.kp, hb⟩
  · exact S2.len h
  refine ⟨_, (pss_cons (ps_set (i := 2) sc_corruption_answer.nd rfl (Or.inl rfl) (pe_me0 d_take_number T.k_Reader (pv 1) (hr.mono (by decide))))
      (pss_cons (ps_set (i := 3) sc_corruption_answer.nd rfl (Or.inl rfl) (pe_me0 d_take_number T.k_Reader (pv 1) (hr.mono (by decide))))
      (pss_one (ps_ret (pe_fn d_corrupt_byte (hr.mono (by decide)) rfl (pa_cons (pv 0) (pa_cons (pv 2) (pa_cons (pv 3) (pa_cons (pe_me0 d_take_number T.k_Reader (pv 1) (hr.mono (by decide))) pa_nil))))))))), ?_⟩
  obtain ⟨_, _, rfl, H0, p, st, r, dx, cl, l, i, j, c, rfl, rfl, hs, hr0, sq0, par, hq⟩ := h
  have s0 := ses_s0 hs.1
  have hrH := s0 _ _ hr0
  have sq := s0.seq sq0
  have sg := sesg_chg (o := RdO A dx cl j) hs hr0
  have no : ∀ {k : Str} {z : Int}, (k == ("calls" : Str)) = false → (k == ("place" : Str)) = false → (dF cl z).lookup k = none := fun a b => dF_no a b
  generalize ho : (10 : Int) = op at par
  cases par with
  | @c10 a b d h1 h2 h3 =>
    refine ⟨_, rfl, r, dx, _, rfl, hrH, no (by decide +kernel) (by decide +kernel), _, rfl, r, dx, cl, l, i, a, rfl, hrH, sq, h1, ?_⟩
    have sq2 := sq_ins (o := RdO A dx cl (i + 1)) sq hrH
    refine ⟨_, rfl, r, dx, _, rfl, upd_same, no (by decide +kernel) (by decide +kernel), _, rfl, r, dx, cl, l, i + 1, b, rfl, upd_same, sq2, h2, ?_⟩
    rw [upd_upd]
    have sq3 := sq_ins (o := RdO A dx cl (i + 1 + 1)) sq hrH
    refine ⟨_, rfl, _, rfl, _, rfl, _, rfl, r, dx, _, rfl, upd_same, no (by decide +kernel) (by decide +kernel), _, rfl, r, dx, cl, l, i + 1 + 1, d, rfl, upd_same, sq3, h3, ?_⟩
    rw [upd_upd]
    exact ⟨_, _, _, _, rfl, _, p, st, a, b, d, rfl, rfl, rfl, rfl, sg, hq⟩
  | _ => exact absurd ho (by decide)
end
end TS
namespace TS
open PySem PySem.Spec PyProof.Rows L2 Vbwsai
section
variable {P : Program} {w : World} {K : PySem.W.Frag} {mg : Str → Option Value} {base : Heap} {A : Ad}
abbrev s_inspection_answer : Stmt := top 118
theorem sc_inspection_answer : FnScope ["session", "operation", "reader"] ["session", "operation", "reader"] (defScope s_inspection_answer) := ⟨rfl, rfl, rfl, by decide +kernel, rfl, by decide +kernel, by decide +kernel⟩
theorem ok_inspection_answer (T : Txt K mg A) (F : FunAt K mg "inspection_answer" s_inspection_answer ["session", "operation", "reader"]) (d_read_file : Fn P w K mg base 2 "read_file" ["session", "file_number"] (sp_read_file K A)) (d_take_number : Me P w K mg base 1 A.Reader "take_number" ["self"] (sp_take_number K A)) (d_corruption_answer : Fn P w K mg base 3 "corruption_answer" ["session", "reader"] (sp_corruption_answer K A)) (d_import_journal : Fn P w K mg base 7 "import_journal" ["session", "text"] (sp_import_journal K A)) (d_take_row : Me P w K mg base 2 A.Reader "take_row" ["self"] (sp_take_row K A)) (d_status : Fn P w K mg base 1 "status" ["session"] (sp_status K A)) (d_count_frames : Fn P w K mg base 6 "count_frames" ["data"] (sp_count_frames K A)) (d_list_ticks : Fn P w K mg base 6 "list_ticks" ["session"] (sp_list_ticks K A)) (d_show_checksum : Fn P w K mg base 2 "show_checksum" ["data"] (sp_show_checksum K A)) (d_show_frame : Fn P w K mg base 5 "show_frame" ["row"] (sp_show_frame K A)) (d_preview_import : Fn P w K mg base 7 "preview_import" ["text"] (sp_preview_import K A)) : Fn P w K mg base 8 "inspection_answer" ["session", "operation", "reader"] (sp_inspection_answer K A) := by
  obtain ⟨f, fd, F, hmg, hb⟩ := F
  refine ⟨f, fd, F.ok sc_inspection_answer (fun vs H Q E h => ?_) (fun cdv Ar outer s H vs Q E hr h => ?_), hmg, F.kp, hb⟩
  · exact S3.len h
  refine ⟨_, (pss_cons (ps_if (pt_cmpR op_eq (pv 1) pe_int (nomark _)) (pss_one (ps_ret (pe_fn d_read_file (hr.mono (by decide)) rfl (pa_cons (pv 0) (pa_cons (pe_me0 d_take_number T.k_Reader (pv 2) (hr.mono (by decide))) pa_nil)))))
      pss_nil)
      (pss_cons (ps_if (pt_cmpR op_eq (pv 1) pe_int (nomark _)) (pss_one (ps_ret (pe_fn d_corruption_answer (hr.mono (by decide)) rfl (pa_cons (pv 0) (pa_cons (pv 2) pa_nil)))))
      pss_nil)
      (pss_cons (ps_if (pt_cmpR op_eq (pv 1) pe_int (nomark _)) (pss_one (ps_ret (pe_fn d_import_journal (hr.mono (by decide)) rfl (pa_cons (pv 0) (pa_cons (pe_me0 d_take_row T.k_Reader (pv 2) (hr.mono (by decide))) pa_nil)))))
      pss_nil)
      (pss_cons (ps_if (pt_cmpR op_eq (pv 1) pe_int (nomark _)) (pss_one (ps_ret (pe_fn d_status (hr.mono (by decide)) rfl (pa_cons (pv 0) pa_nil))))
      pss_nil)
      (pss_cons (ps_if (pt_cmpR op_eq (pv 1) pe_int (nomark _)) (pss_one (ps_ret (pe_fn d_count_frames (hr.mono (by decide)) rfl (pa_cons (pe_me0 d_take_row T.k_Reader (pv 2) (hr.mono (by decide))) pa_nil))))
      pss_nil)
      (pss_cons (ps_if (pt_cmpR op_eq (pv 1) pe_int (nomark _)) (pss_one (ps_ret (pe_fn d_list_ticks (hr.mono (by decide)) rfl (pa_cons (pv 0) pa_nil))))
      pss_nil)
      (pss_cons (ps_if (pt_cmpR op_eq (pv 1) pe_int (nomark _)) (pss_one (ps_ret (pe_fn d_show_checksum (hr.mono (by decide)) rfl (pa_cons (pe_me0 d_take_row T.k_Reader (pv 2) (hr.mono (by decide))) pa_nil))))
      pss_nil)
      (pss_cons (ps_if (pt_cmpR op_eq (pv 1) pe_int (nomark _)) (pss_one (ps_ret (pe_fn d_show_frame (hr.mono (by decide)) rfl (pa_cons (pe_me0 d_take_row T.k_Reader (pv 2) (hr.mono (by decide))) pa_nil))))
      pss_nil)
      (pss_one (ps_ret (pe_fn d_preview_import (hr.mono (by decide)) rfl (pa_cons (pe_me0 d_take_row T.k_Reader (pv 2) (hr.mono (by decide))) pa_nil)))))))))))), ?_⟩
  obtain ⟨_, _, _, rfl, H0, p, st, op, r, dx, cl, l, i, j, c, rfl, rfl, rfl, hs, hr0, sq0, par, hop, hq⟩ := h
  have s0 := ses_s0 hs.1
  have hrH := s0 _ _ hr0
  have sq := s0.seq sq0
  have no : ∀ {k : Str} {z : Int}, (k == ("calls" : Str)) = false → (k == ("place" : Str)) = false → (dF cl z).lookup k = none := fun a b => dF_no a b
  have sg := sesg_chg (o := RdO A dx cl j) hs hr0
  cases par with
  | @c9 n h1 =>
    refine ⟨_, rfl, rfl, _, rfl, if_eq ?_⟩
    exact ⟨_, rfl, _, rfl, r, dx, _, rfl, hrH, no (by decide +kernel) (by decide +kernel), _, rfl, r, dx, cl, l, i, n, rfl, hrH, sq, h1, _, _, rfl, _, p, st, n, rfl, rfl, sg, hq⟩
  | c10 h1 h2 h3 =>
    refine ⟨_, rfl, rfl, _, rfl, if_ne (by decide) ⟨_, rfl, rfl, _, rfl, if_eq ?_⟩⟩
    exact ⟨_, rfl, _, rfl, _, _, rfl, H0, p, st, r, dx, cl, l, i, _, _, rfl, rfl, hs, hr0, sq0, .c10 h1 h2 h3, hq⟩
  | @c11 row d _ tk by_ =>
    refine ⟨_, rfl, rfl, _, rfl, if_ne (by decide) ⟨_, rfl, rfl, _, rfl, if_ne (by decide) ⟨_, rfl, rfl, _, rfl, if_eq ?_⟩⟩⟩
    refine ⟨_, rfl, _, rfl, r, dx, _, rfl, hrH, no (by decide +kernel) (by decide +kernel), _, rfl, r, dx, cl, l, row, i, j, rfl, hrH, sq, tk, fun a ha => ?_⟩
    exact ⟨_, _, rfl, _, p, st, a, d, rfl, rfl, sesg_same sg (same_upd ha), by rw [upd_same, by_.1], by_.le, by_.2.2, hq⟩
  | c12 =>
    refine ⟨_, rfl, rfl, _, rfl, if_ne (by decide) ⟨_, rfl, rfl, _, rfl, if_ne (by decide) ⟨_, rfl, rfl, _, rfl, if_ne (by decide) ⟨_, rfl, rfl, _, rfl, if_eq ?_⟩⟩⟩⟩
    exact ⟨_, rfl, _, rfl, H0, p, st, rfl, hs, opq_self hq hr0⟩
  | @c13 row d _ tk by_ =>
    refine ⟨_, rfl, rfl, _, rfl, if_ne (by decide) ⟨_, rfl, rfl, _, rfl, if_ne (by decide) ⟨_, rfl, rfl, _, rfl, if_ne (by decide) ⟨_, rfl, rfl, _, rfl, if_ne (by decide) ⟨_, rfl, rfl, _, rfl, if_eq ?_⟩⟩⟩⟩⟩
    refine ⟨_, rfl, r, dx, _, rfl, hrH, no (by decide +kernel) (by decide +kernel), _, rfl, r, dx, cl, l, row, i, j, rfl, hrH, sq, tk, fun a ha => ?_⟩
    have sh := sesg_same sg (same_upd (o := .lst (vi row)) ha)
    exact ⟨_, rfl, a, d, rfl, by rw [upd_same, by_.1], by_.le, by_.2.2, fun H' q s n e => hq H' q (ses_same sh.1 s) e ((ses_s0 sh.1).free n)⟩
  | c14 =>
    refine ⟨_, rfl, rfl, _, rfl, if_ne (by decide) ⟨_, rfl, rfl, _, rfl, if_ne (by decide) ⟨_, rfl, rfl, _, rfl, if_ne (by decide) ⟨_, rfl, rfl, _, rfl, if_ne (by decide) ⟨_, rfl, rfl, _, rfl, if_ne (by decide) ⟨_, rfl, rfl, _, rfl, if_eq ?_⟩⟩⟩⟩⟩⟩
    exact ⟨_, rfl, _, rfl, H0, p, st, rfl, hs, opq_self hq hr0⟩
  | @c15 row d _ tk by_ =>
    refine ⟨_, rfl, rfl, _, rfl, if_ne (by decide) ⟨_, rfl, rfl, _, rfl, if_ne (by decide) ⟨_, rfl, rfl, _, rfl, if_ne (by decide) ⟨_, rfl, rfl, _, rfl, if_ne (by decide) ⟨_, rfl, rfl, _, rfl, if_ne (by decide) ⟨_, rfl, rfl, _, rfl, if_ne (by decide) ⟨_, rfl, rfl, _, rfl, if_eq ?_⟩⟩⟩⟩⟩⟩⟩
    refine ⟨_, rfl, r, dx, _, rfl, hrH, no (by decide +kernel) (by decide +kernel), _, rfl, r, dx, cl, l, row, i, j, rfl, hrH, sq, tk, fun a ha => ?_⟩
    have sh := sesg_same sg (same_upd (o := .lst (vi row)) ha)
    exact ⟨_, rfl, a, d, rfl, by rw [upd_same, by_.1], by_.le, fun H' q s n e => hq H' q (ses_same sh.1 s) e ((ses_s0 sh.1).free n)⟩
  | @c16 row _ tk hl ha1 =>
    refine ⟨_, rfl, rfl, _, rfl, if_ne (by decide) ⟨_, rfl, rfl, _, rfl, if_ne (by decide) ⟨_, rfl, rfl, _, rfl, if_ne (by decide) ⟨_, rfl, rfl, _, rfl, if_ne (by decide) ⟨_, rfl, rfl, _, rfl, if_ne (by decide) ⟨_, rfl, rfl, _, rfl, if_ne (by decide) ⟨_, rfl, rfl, _, rfl, if_ne (by decide) ⟨_, rfl, rfl, _, rfl, if_eq ?_⟩⟩⟩⟩⟩⟩⟩⟩
    refine ⟨_, rfl, r, dx, _, rfl, hrH, no (by decide +kernel) (by decide +kernel), _, rfl, r, dx, cl, l, row, i, j, rfl, hrH, sq, tk, fun a ha => ?_⟩
    have sh := sesg_same sg (same_upd (o := .lst (vi row)) ha)
    have un : Vbwsai.step st (.frameOf row) = (if 40 < row.length ∨ (row.all fun v => inRange v (-1000000000000000000) 1000000000000000000) = false then Vbwsai.fail st 1 else Vbwsai.succeed st (toInts (encodeFrame row))) := rfl
    rw [un] at hq
    refine ⟨_, rfl, a, row, rfl, upd_same, by omega, fun z hz => by have := ha1 z hz; unfold Sm; omega, fun H' q s n e => ?_⟩
    by_cases c : 40 < row.length
    · rw [if_pos (.inl c)] at hq
      rw [if_pos c] at e
      exact hq H' q (ses_same sh.1 s) e ((ses_s0 sh.1).free n)
    · rw [if_neg (by rintro (z | z); · exact c z
                     · exact all_in ha1 z)] at hq
      rw [if_neg c] at e
      exact hq H' q (ses_same sh.1 s) e ((ses_s0 sh.1).free n)
  | @c17 row d _ tk by_ =>
    refine ⟨_, rfl, rfl, _, rfl, if_ne (by decide) ⟨_, rfl, rfl, _, rfl, if_ne (by decide) ⟨_, rfl, rfl, _, rfl, if_ne (by decide) ⟨_, rfl, rfl, _, rfl, if_ne (by decide) ⟨_, rfl, rfl, _, rfl, if_ne (by decide) ⟨_, rfl, rfl, _, rfl, if_ne (by decide) ⟨_, rfl, rfl, _, rfl, if_ne (by decide) ⟨_, rfl, rfl, _, rfl, if_ne (by decide) ?_⟩⟩⟩⟩⟩⟩⟩⟩
    refine ⟨_, rfl, r, dx, _, rfl, hrH, no (by decide +kernel) (by decide +kernel), _, rfl, r, dx, cl, l, row, i, j, rfl, hrH, sq, tk, fun a ha => ?_⟩
    have sh := sesg_same sg (same_upd (o := .lst (vi row)) ha)
    have un : Vbwsai.step st (.previewImport d) = (match importText d with
      | .error n => Vbwsai.succeed st [0, (n : Int)]
      | .ok (t, w) => Vbwsai.succeed st ([1, (t : Int)] ++ flatS w)) := rfl
    rw [un] at hq
    refine ⟨_, rfl, a, d, rfl, by rw [upd_same, by_.1], by_.le, by_.2.2, fun H' q s n e => ?_⟩
    cases h5 : importText d with
    | error k =>
      rw [h5] at hq e
      exact hq H' q (ses_same sh.1 s) e ((ses_s0 sh.1).free n)
    | ok x =>
      obtain ⟨t, w⟩ := x
      rw [h5] at hq e
      exact hq H' q (ses_same sh.1 s) e ((ses_s0 sh.1).free n)
  | _ => exact absurd hop (by decide)
end
end TS
namespace TS
open PySem PySem.Spec PyProof.Rows L2 Vbwsai
section
variable {P : Program} {w : World} {K : PySem.W.Frag} {mg : Str → Option Value} {base : Heap} {A : Ad}
abbrev s_call_answer : Stmt := top 119
theorem sc_call_answer : FnScope ["session", "reader", "operation"] ["session", "reader"] (defScope s_call_answer) := ⟨rfl, rfl, rfl, by decide +kernel, rfl, by decide +kernel, by decide +kernel⟩
theorem ok_call_answer (T : Txt K mg A) (F : FunAt K mg "call_answer" s_call_answer ["session", "reader"]) (d_take_number : Me P w K mg base 1 A.Reader "take_number" ["self"] (sp_take_number K A)) (d_store_answer : Fn P w K mg base 10 "store_answer" ["session", "operation", "reader"] (sp_store_answer K A)) (d_inspection_answer : Fn P w K mg base 8 "inspection_answer" ["session", "operation", "reader"] (sp_inspection_answer K A)) : Fn P w K mg base 11 "call_answer" ["session", "reader"] (sp_call_answer K A) := by
  obtain ⟨f, fd, F, hmg, hb⟩ := F
  refine ⟨f, fd, F.ok sc_call_answer (fun vs H Q E h => ?_) (fun cdv Ar outer s H vs Q E hr h => ?_), hmg, F.kp, hb⟩
  · exact S2.len h
  refine ⟨_, (pss_cons (ps_set (i := 2) sc_call_answer.nd rfl (Or.inl rfl) (pe_me0 d_take_number T.k_Reader (pv 1) (hr.mono (by decide))))
      (pss_cons (ps_if (pt_chain op_le op_le pe_int (pv 2) (pe_cst T.c_LAST_STORE_OPERATION rfl)) (pss_one (ps_ret (pe_fn d_store_answer (hr.mono (by decide)) rfl (pa_cons (pv 0) (pa_cons (pv 2) (pa_cons (pv 1) pa_nil))))))
      pss_nil)
      (pss_cons (ps_if (pt_chain op_lt op_le (pe_cst T.c_LAST_STORE_OPERATION rfl) (pv 2) (pe_cst T.c_LAST_OPERATION rfl)) (pss_one (ps_ret (pe_fn d_inspection_answer (hr.mono (by decide)) rfl (pa_cons (pv 0) (pa_cons (pv 2) (pa_cons (pv 1) pa_nil))))))
      pss_nil)
      (pss_one ps_never)))), ?_⟩
  obtain ⟨_, _, rfl, H0, p, st, op, r, dx, cl, l, i, j, c, rfl, rfl, hs, hr0, sq0, hop, par, hq⟩ := h
  have s0 := ses_s0 hs.1
  have hrH := s0 _ _ hr0
  have sq := s0.seq sq0
  obtain ⟨l1, l2⟩ := par_le par
  refine ⟨_, rfl, r, dx, _, rfl, hrH, dF_no (by decide +kernel) (by decide +kernel), _, rfl, r, dx, cl, l, i, op, rfl, hrH, sq, hop, ?_⟩
  have sg := sesg_chg (o := RdO A dx cl (i + 1)) hs hr0
  have sq2 := sq_ins (o := RdO A dx cl (i + 1)) sq0 hr0
  rw [← upd_upd (o := RdO A dx cl (i + 1))] at hq
  refine ⟨_, rfl, _, _, rfl, rfl, _, rfl, ifd (fun _ => ⟨_, _, rfl, rfl, _, rfl, ifd (fun c => ?_) (fun c => ?_)⟩) (fun c => absurd l1 c)⟩
  · exact ⟨_, rfl, _, rfl, _, rfl, _, _, _, rfl, _, p, st, op, r, dx, cl, l, i + 1, j, _, rfl, rfl, rfl, sg, upd_same, sq2, par, c, hq⟩
  · refine ⟨_, rfl, _, _, rfl, rfl, _, rfl, ifd (fun _ => ⟨_, _, rfl, rfl, _, rfl, ifd (fun c2 => ?_) (fun c2 => absurd l2 c2)⟩) (fun c2 => absurd (by omega) c2)⟩
    exact ⟨_, rfl, _, rfl, _, rfl, _, _, _, rfl, _, p, st, op, r, dx, cl, l, i + 1, j, _, rfl, rfl, rfl, sg, upd_same, sq2, par, by omega, hq⟩
end
end TS
namespace TS
open PySem PySem.Spec PyProof.Rows L2 Vbwsai
section
variable {P : Program} {w : World} {K : PySem.W.Frag} {mg : Str → Option Value} {base : Heap} {A : Ad}
abbrev s_answers : Stmt := top 120
theorem sc_answers : FnScope ["calls", "session", "reader", "given", "answer"] ["calls"] (defScope s_answers) := ⟨rfl, rfl, rfl, by decide +kernel, rfl, by decide +kernel, by decide +kernel⟩
theorem fn_answers (T : Txt K mg A) {f : Addr} {fd : FuncData} (F : Fun K "answers" "answers" s_answers f fd) (d_Session : Mak P w K mg base 7 "Session" A.Session ["self"] (sp_Session_init K A)) (d_Reader : Mak P w K mg base 1 "Reader" A.Reader ["self", "calls"] (sp_Reader_init K A)) (d_has_more : Me P w K mg base 1 A.Reader "has_more" ["self"] (sp_has_more K A)) (d_call_answer : Fn P w K mg base 11 "call_answer" ["session", "reader"] (sp_call_answer K A)) : FnOk P w K mg base CX0 12 f fd ["calls"] (sp_answers K A) := by
  refine F.ok sc_answers (fun vs H Q E h => ?_) (fun cdv Ar outer s H vs Q E hr h => ?_)
  · exact S1.len h
  refine ⟨_, (pss_cons (ps_set (i := 1) sc_answers.nd rfl (Or.inl rfl) (pe_mk0 d_Session (hr.mono (by decide)) rfl))
      (pss_cons (ps_set (i := 2) sc_answers.nd rfl (Or.inl rfl) (pe_mk d_Reader (hr.mono (by decide)) rfl (pa_cons (pv 0) pa_nil)))
      (pss_cons (ps_set (i := 3) sc_answers.nd rfl (Or.inl rfl) (pe_lst pa_nil))
      (pss_cons (ps_while PassesOwn.never (pt_val (pe_me0 d_has_more T.k_Reader (pv 2) (hr.mono (by decide)))) (pss_cons (ps_set (i := 4) sc_answers.nd rfl (Or.inl rfl) (pe_fn d_call_answer (hr.mono (by decide)) rfl (pa_cons (pv 1) (pa_cons (pv 2) pa_nil))))
      (pss_cons (ps_expr (pe_bm PySem.F.plainAttrs_list PySem.F.slot_list_append PySem.F.type_list_append mt_append (pv 3) (pa_cons (pe_callB call_len_seq (by rfl) T.b_len PySem.boot_len (pa_cons (pv 4) pa_nil)) pa_nil)))
      (pss_one (ps_expr (pe_bm PySem.F.plainAttrs_list PySem.F.slot_list_extend PySem.F.type_list_extend mt_extend (pv 3) (pa_cons (pv 4) pa_nil)))))))
      (pss_one (ps_ret (pv 3))))))), ?_⟩
  obtain ⟨_, rfl, cl, l, rfl, sq, hask, hq⟩ := h
  obtain ⟨raw, hraw, hlen, hall, hans, hshort⟩ := asked_facts hask
  refine fun p dp np nd ne => ⟨_, rfl, H, p, dp, rfl, (same_upd nd).trans (same_upd (by rw [upd_ne ne.symm]; exact np)), np, upd_same, fun H1 hs1 => ⟨rfl, ?_⟩⟩
  refine ⟨_, rfl, fun r dr nr nd2 ne2 => ⟨_, _, rfl, r, dr, cl, rfl, rfl, upd_same, ⟨rfl, ?_⟩⟩⟩
  rw [upd_upd]
  have t2 : Same H1 (upd (upd H1 dr (.own r)) r (RdO A dr cl 0)) := (same_upd nd2).trans (same_upd (by rw [upd_ne ne2.symm]; exact nr))
  have hs2 : SesAt A (upd H r (RdO A dr cl 0)) (upd (upd H1 dr (.own r)) r (RdO A dr cl 0)) p Vbwsai.start := ses_add hs1 t2 nr upd_same
  have rH : H r = none := (ses_s0 hs1).free nr
  generalize hG2 : upd (upd H1 dr (.own r)) r (RdO A dr cl 0) = H2 at *
  refine ⟨Nat.zero_le _, fun g hg => ?_⟩
  have hs3 : SesAt A (upd (upd H r (RdO A dr cl 0)) g (.lst [])) (upd H2 g (.lst [])) p Vbwsai.start := ses_add hs2 (same_upd hg) hg upd_same
  have gH2 := (ses_s0 hs2).free hg
  have gr : r ≠ g := ne_of_none upd_same gH2
  have gH : H g = none := by rw [upd_ne gr.symm] at gH2; exact gH2
  refine ⟨fun m σ H' => ∃ (H0 : Hp) (i : Nat) (st : State) (gv : List Int) (rest : List (List (List Int))) (f n : Nat) (av : Option V), σ = [some (.ref cl), some (.ref p), some (.ref r), some (.ref g), av] ∧ SesAt A H0 H' p st ∧ Good n st ∧ n + rest.length ≤ 200 ∧
      H0 r = some (RdO A dr cl i) ∧ H0 g = some (.lst (vi gv)) ∧ Same H H0 ∧ PyFlat.calls PyVbwsai.shape f (l.drop i) = some rest ∧ (∀ c ∈ rest, VbwsaiNeutral.asked1 c = true) ∧
      PyVbwsai.answers l = gv ++ PyFlat.told (PyFlat.played VbwsaiNeutral.step st rest) ∧ m = l.length - i,
    ⟨l.length, _, 0, Vbwsai.start, [], raw, l.length, 0, none, rfl, hs3, good_init (by unfold Sm; omega) StOk.nil, by omega, by rw [upd_ne gr, upd_same], upd_same, (same_upd rH).trans (same_upd gH2), hraw, hall, hans, rfl⟩, ?_⟩
  rintro m σ H' ⟨H0, i, st, gv, rest, f, n, av, rfl, hs, hg1, hn, hr0, hg0, sH, hcalls, hall2, hans2, hm⟩
  have s0 := ses_s0 hs
  have sq0 : SqL K H0 cl (vi l) := sH.seq sq
  refine ⟨_, rfl, r, dr, _, rfl, s0 _ _ hr0, dF_no (by decide +kernel) (by decide +kernel), _, rfl, r, dr, cl, l, i, rfl, s0 _ _ hr0, s0.seq sq0, _, rfl, ifd (fun c => ?_) (fun c => ?_)⟩
  · refine ⟨_, fun _ _ z => z, ?_⟩
    have hop : l[i]? = some (l[i]'c) := List.getElem?_eq_getElem c
    rw [drop_one hop] at hcalls
    obtain ⟨f', cc, t, cs, hcall, hcs, rfl⟩ := calls_cons hcalls
    obtain ⟨d, j, hd, par, rfl, hij, hok⟩ := par_of hcall (hall2 _ List.mem_cons_self)
    rw [List.length_cons] at hn
    refine ⟨_, rfl, _, rfl, _, _, rfl, H0, p, st, _, r, dr, cl, l, i, j, d, rfl, rfl, ⟨hs, n, by omega, hg1⟩, hr0, sq0, hop, par, fun H4 q hs4 hq4 hn4 => ?_⟩
    have hg4 : upd H0 r (RdO A dr cl j) g = some (.lst (vi gv)) := by rw [upd_ne gr.symm]; exact hg0
    have hgH := ses_s0 hs4 _ _ hg4
    have ngq : q ≠ g := (ne_of_none hg4 hn4).symm
    have hans3 := hans2
    rw [show PyFlat.played VbwsaiNeutral.step st (cc :: cs) = (VbwsaiNeutral.step st cc).2 :: PyFlat.played VbwsaiNeutral.step (VbwsaiNeutral.step st cc).1 cs from rfl, told_cons, step_of hd, ← List.append_assoc] at hans3
    have hln := congrArg List.length hans3
    rw [List.length_append, List.length_append, List.length_cons] at hln
    refine ⟨_, rfl, .inl ⟨rfl, _, SqL.of hgH⟩, _, rfl, q, _, rfl, .inl (SqL.of hq4), g, _, _, rfl, rfl, hgH, lim7' (by rw [vi_len]; omega), ?_⟩
    refine ⟨_, rfl, .inl ⟨rfl, _, SqL.of upd_same⟩, _, rfl, g, q, _, _, rfl, rfl, upd_same, by rw [upd_ne ngq]; exact hq4, lim7 (by rw [List.length_append, vi_len, vi_len]; show gv.length + 1 + _ ≤ _; omega), ?_⟩
    rw [upd_upd]
    have hs5 := ses_chg (o := .lst (vi (gv ++ (((Vbwsai.step st d).2.length : Int) :: (Vbwsai.step st d).2)))) hs4 hg4
    have eg : (vi gv ++ [V.int ((vi (Vbwsai.step st d).2).length : Nat)]) ++ vi (Vbwsai.step st d).2 = vi (gv ++ (((Vbwsai.step st d).2.length : Int) :: (Vbwsai.step st d).2)) := by
      rw [vi_app, vi_len, List.append_assoc]
      rfl
    rw [eg]
    refine ⟨l.length - j, by omega, _, j, _, gv ++ (((Vbwsai.step st d).2.length : Int) :: (Vbwsai.step st d).2), cs, f', n + 1, some (V.ref q), rfl, hs5, good_step (by omega) hg1 d hok, by omega, ?_, upd_same, (sH.wr rH).wr gH, hcs, fun c hc => hall2 c (List.mem_cons_of_mem _ hc), hans3, rfl⟩
    rw [upd_ne gr, upd_same]
  · have hnil : l.drop i = [] := List.drop_eq_nil_of_le (by omega)
    rw [hnil] at hcalls
    obtain rfl := calls_nil hcalls
    have e : PyVbwsai.answers l = gv := by rw [hans2]; exact List.append_nil _
    rw [e] at hq
    exact ⟨_, rfl, hq _ g (s0 _ _ hg0)⟩
end
end TS
namespace TS
open PySem PySem.Spec PyProof.Rows L2 Vbwsai
/-! the end -/
section
variable {P : Program} {w : World} {K : PySem.W.Frag} {mg : Str → Option Value} {h base : Heap} {A : Ad}
theorem funat_mk {x : Str} {st : Stmt} {ps : List Str} {f : Addr} {oc : Value} {od an : Option Addr} {osl : Array (Option Value)} {kV doc pm cdv ct : Value} (X : K.In h) (G : h.Ns mainGlobals mg) (b : ∀ {K : PySem.W.Frag} {f fd}, Fun K x x st f fd → Binds K fd ps [])
    (a : PySem.W.nsIn K mainGlobals x = some (some (.ref f))) (l : K.lookup f = some ⟨oc, od, .func (PySem.W.fnOf x x (defArgs st) (defBody st) (defScope st) .none kV doc pm an cdv ct), osl⟩) (c : PySem.W.codeIn K cdv x = true) (k : PySem.W.keepIn K (.ref f) = true) : FunAt K mg x st ps :=
  ⟨f, _, fun_mk l c k, PySem.W.mg_of X G a, b (fun_mk l c k)⟩
theorem funm_mk {C : Addr} {m qual : Str} {st : Stmt} {ps : List Str} {f : Addr} {oc : Value} {od an : Option Addr} {osl : Array (Option Value)} {kV doc pm cdv ct : Value} (b : ∀ {K : PySem.W.Frag} {f fd}, Fun K m qual st f fd → Binds K fd ps [])
    (a : PySem.W.findIn K (.ref C) m = some (some (.ref f))) (i : PySem.W.isFn K (.ref f) = true) (l : K.lookup f = some ⟨oc, od, .func (PySem.W.fnOf m qual (defArgs st) (defBody st) (defScope st) .none kV doc pm an cdv ct), osl⟩) (c : PySem.W.codeIn K cdv qual = true) (k : PySem.W.keepIn K (.ref f) = true) : FunM K C m qual st ps :=
  ⟨f, _, fun_mk l c k, ⟨a, i, k⟩, b (fun_mk l c k)⟩
theorem mak_mk {k : Nat} {x : Str} {C : Addr} {ps : List Str} {sp : Sp} (D : Me P w K mg base k C "__init__" ps sp) (mk : PySem.W.makesIn K C = true) (kc : PySem.W.keepIn K (.ref C) = true) (hm : mg x = some (.ref C)) : Mak P w K mg base k x C ps sp := by
  obtain ⟨f, fd, F, M, b⟩ := D
  exact ⟨f, fd, F, ⟨mk, M.at_, M.fn, kc⟩, hm, b⟩
theorem cst_mk {x : Str} {v : Int} {t} (X : K.In h) (G : h.Ns mainGlobals mg) (a : PySem.W.nsIn K mainGlobals x = some (some (.int v t))) : Cst mg x v := ⟨_, PySem.W.mg_of X G a⟩
theorem cls_mk {C : Addr} (pg : PySem.W.plainGet K C Str.empty = true) (hd : PySem.W.hasDictIn K C = true) (po : PySem.W.plainOver K C = true) (sa : PySem.W.findIn K (.ref C) "__setattr__" = some (some (.builtin "object.__setattr__"))) : Cls K C := ⟨pg, hd, po, sa⟩
structure MkC (K : PySem.W.Frag) (mg : Str → Option Value) (x : Str) (C : Addr) : Prop where
  mks : PySem.W.makesIn K C = true
  kc : PySem.W.keepIn K (.ref C) = true
  hm : mg x = some (.ref C)
theorem b_is_key {K : PySem.W.Frag} {f fd} (F : Fun K "is_key" "is_key" s_is_key f fd) : Binds K fd ["number"] [] := F.binds (ps := ["number"]) fun _ _ _ _ _ _ us hl => match us, hl with | [_], _ => rfl
theorem b_is_value {K : PySem.W.Frag} {f fd} (F : Fun K "is_value" "is_value" s_is_value f fd) : Binds K fd ["number"] [] := F.binds (ps := ["number"]) fun _ _ _ _ _ _ us hl => match us, hl with | [_], _ => rfl
theorem b_is_power {K : PySem.W.Frag} {f fd} (F : Fun K "is_power" "is_power" s_is_power f fd) : Binds K fd ["number"] [] := F.binds (ps := ["number"]) fun _ _ _ _ _ _ us hl => match us, hl with | [_], _ => rfl
theorem b_is_count {K : PySem.W.Frag} {f fd} (F : Fun K "is_count" "is_count" s_is_count f fd) : Binds K fd ["number"] [] := F.binds (ps := ["number"]) fun _ _ _ _ _ _ us hl => match us, hl with | [_], _ => rfl
theorem b_is_file {K : PySem.W.Frag} {f fd} (F : Fun K "is_file" "is_file" s_is_file f fd) : Binds K fd ["number"] [] := F.binds (ps := ["number"]) fun _ _ _ _ _ _ us hl => match us, hl with | [_], _ => rfl
theorem b_is_byte {K : PySem.W.Frag} {f fd} (F : Fun K "is_byte" "is_byte" s_is_byte f fd) : Binds K fd ["number"] [] := F.binds (ps := ["number"]) fun _ _ _ _ _ _ us hl => match us, hl with | [_], _ => rfl
theorem b_natural_of {K : PySem.W.Frag} {f fd} (F : Fun K "natural_of" "natural_of" s_natural_of f fd) : Binds K fd ["number"] [] := F.binds (ps := ["number"]) fun _ _ _ _ _ _ us hl => match us, hl with | [_], _ => rfl
theorem b_integer_of {K : PySem.W.Frag} {f fd} (F : Fun K "integer_of" "integer_of" s_integer_of f fd) : Binds K fd ["natural"] [] := F.binds (ps := ["natural"]) fun _ _ _ _ _ _ us hl => match us, hl with | [_], _ => rfl
theorem b_integer_bytes {K : PySem.W.Frag} {f fd} (F : Fun K "integer_bytes" "integer_bytes" s_integer_bytes f fd) : Binds K fd ["number"] [] := F.binds (ps := ["number"]) fun _ _ _ _ _ _ us hl => match us, hl with | [_], _ => rfl
theorem b_row_bytes {K : PySem.W.Frag} {f fd} (F : Fun K "row_bytes" "row_bytes" s_row_bytes f fd) : Binds K fd ["row"] [] := F.binds (ps := ["row"]) fun _ _ _ _ _ _ us hl => match us, hl with | [_], _ => rfl
theorem b_part_integer {K : PySem.W.Frag} {f fd} (F : Fun K "part_integer" "part_integer" s_part_integer f fd) : Binds K fd ["part"] [] := F.binds (ps := ["part"]) fun _ _ _ _ _ _ us hl => match us, hl with | [_], _ => rfl
theorem b_decoded_row {K : PySem.W.Frag} {f fd} (F : Fun K "decoded_row" "decoded_row" s_decoded_row f fd) : Binds K fd ["payload"] [] := F.binds (ps := ["payload"]) fun _ _ _ _ _ _ us hl => match us, hl with | [_], _ => rfl
theorem b_checksum {K : PySem.W.Frag} {f fd} (F : Fun K "checksum" "checksum" s_checksum f fd) : Binds K fd ["data"] [] := F.binds (ps := ["data"]) fun _ _ _ _ _ _ us hl => match us, hl with | [_], _ => rfl
theorem b_two_bytes {K : PySem.W.Frag} {f fd} (F : Fun K "two_bytes" "two_bytes" s_two_bytes f fd) : Binds K fd ["number"] [] := F.binds (ps := ["number"]) fun _ _ _ _ _ _ us hl => match us, hl with | [_], _ => rfl
theorem b_number_at {K : PySem.W.Frag} {f fd} (F : Fun K "number_at" "number_at" s_number_at f fd) : Binds K fd ["data", "start"] [] := F.binds (ps := ["data", "start"]) fun _ _ _ _ _ _ us hl => match us, hl with | [_, _], _ => rfl
theorem b_frame {K : PySem.W.Frag} {f fd} (F : Fun K "frame" "frame" s_frame f fd) : Binds K fd ["row"] [] := F.binds (ps := ["row"]) fun _ _ _ _ _ _ us hl => match us, hl with | [_], _ => rfl
theorem b_frame_at {K : PySem.W.Frag} {f fd} (F : Fun K "frame_at" "frame_at" s_frame_at f fd) : Binds K fd ["data", "start"] [] := F.binds (ps := ["data", "start"]) fun _ _ _ _ _ _ us hl => match us, hl with | [_, _], _ => rfl
theorem b_valid_frames {K : PySem.W.Frag} {f fd} (F : Fun K "valid_frames" "valid_frames" s_valid_frames f fd) : Binds K fd ["data"] [] := F.binds (ps := ["data"]) fun _ _ _ _ _ _ us hl => match us, hl with | [_], _ => rfl
theorem b_only_row {K : PySem.W.Frag} {f fd} (F : Fun K "only_row" "only_row" s_only_row f fd) : Binds K fd ["data"] [] := F.binds (ps := ["data"]) fun _ _ _ _ _ _ us hl => match us, hl with | [_], _ => rfl
theorem b_is_change {K : PySem.W.Frag} {f fd} (F : Fun K "is_change" "is_change" s_is_change f fd) : Binds K fd ["key", "choice", "value"] [] := F.binds (ps := ["key", "choice", "value"]) fun _ _ _ _ _ _ us hl => match us, hl with | [_, _, _], _ => rfl
theorem b_are_changes {K : PySem.W.Frag} {f fd} (F : Fun K "are_changes" "are_changes" s_are_changes f fd) : Binds K fd ["numbers"] [] := F.binds (ps := ["numbers"]) fun _ _ _ _ _ _ us hl => match us, hl with | [_], _ => rfl
theorem b_changed_entries {K : PySem.W.Frag} {f fd} (F : Fun K "changed_entries" "changed_entries" s_changed_entries f fd) : Binds K fd ["entries", "changes"] [] := F.binds (ps := ["entries", "changes"]) fun _ _ _ _ _ _ us hl => match us, hl with | [_, _], _ => rfl
theorem b_tick_row {K : PySem.W.Frag} {f fd} (F : Fun K "tick_row" "tick_row" s_tick_row f fd) : Binds K fd ["number", "changes"] [] := F.binds (ps := ["number", "changes"]) fun _ _ _ _ _ _ us hl => match us, hl with | [_, _], _ => rfl
theorem b_is_tick_row {K : PySem.W.Frag} {f fd} (F : Fun K "is_tick_row" "is_tick_row" s_is_tick_row f fd) : Binds K fd ["row"] [] := F.binds (ps := ["row"]) fun _ _ _ _ _ _ us hl => match us, hl with | [_], _ => rfl
theorem b_entry_numbers {K : PySem.W.Frag} {f fd} (F : Fun K "entry_numbers" "entry_numbers" s_entry_numbers f fd) : Binds K fd ["entries"] [] := F.binds (ps := ["entries"]) fun _ _ _ _ _ _ us hl => match us, hl with | [_], _ => rfl
theorem b_checkpoint_row {K : PySem.W.Frag} {f fd} (F : Fun K "checkpoint_row" "checkpoint_row" s_checkpoint_row f fd) : Binds K fd ["number", "entries"] [] := F.binds (ps := ["number", "entries"]) fun _ _ _ _ _ _ us hl => match us, hl with | [_, _], _ => rfl
theorem b_is_checkpoint_row {K : PySem.W.Frag} {f fd} (F : Fun K "is_checkpoint_row" "is_checkpoint_row" s_is_checkpoint_row f fd) : Binds K fd ["row"] [] := F.binds (ps := ["row"]) fun _ _ _ _ _ _ us hl => match us, hl with | [_], _ => rfl
theorem b_checkpoint_entries {K : PySem.W.Frag} {f fd} (F : Fun K "checkpoint_entries" "checkpoint_entries" s_checkpoint_entries f fd) : Binds K fd ["row"] [] := F.binds (ps := ["row"]) fun _ _ _ _ _ _ us hl => match us, hl with | [_], _ => rfl
theorem b_read_checkpoint {K : PySem.W.Frag} {f fd} (F : Fun K "read_checkpoint" "read_checkpoint" s_read_checkpoint f fd) : Binds K fd ["data"] [] := F.binds (ps := ["data"]) fun _ _ _ _ _ _ us hl => match us, hl with | [_], _ => rfl
theorem b_is_commit_row {K : PySem.W.Frag} {f fd} (F : Fun K "is_commit_row" "is_commit_row" s_is_commit_row f fd) : Binds K fd ["row"] [] := F.binds (ps := ["row"]) fun _ _ _ _ _ _ us hl => match us, hl with | [_], _ => rfl
theorem b_read_commit {K : PySem.W.Frag} {f fd} (F : Fun K "read_commit" "read_commit" s_read_commit f fd) : Binds K fd ["data"] [] := F.binds (ps := ["data"]) fun _ _ _ _ _ _ us hl => match us, hl with | [_], _ => rfl
theorem b_pieces {K : PySem.W.Frag} {f fd} (F : Fun K "pieces" "pieces" s_pieces f fd) : Binds K fd ["data", "separator"] [] := F.binds (ps := ["data", "separator"]) fun _ _ _ _ _ _ us hl => match us, hl with | [_, _], _ => rfl
theorem b_ended_lines {K : PySem.W.Frag} {f fd} (F : Fun K "ended_lines" "ended_lines" s_ended_lines f fd) : Binds K fd ["text"] [] := F.binds (ps := ["text"]) fun _ _ _ _ _ _ us hl => match us, hl with | [_], _ => rfl
theorem b_read_natural {K : PySem.W.Frag} {f fd} (F : Fun K "read_natural" "read_natural" s_read_natural f fd) : Binds K fd ["digits"] [] := F.binds (ps := ["digits"]) fun _ _ _ _ _ _ us hl => match us, hl with | [_], _ => rfl
theorem b_read_integer {K : PySem.W.Frag} {f fd} (F : Fun K "read_integer" "read_integer" s_read_integer f fd) : Binds K fd ["data"] [] := F.binds (ps := ["data"]) fun _ _ _ _ _ _ us hl => match us, hl with | [_], _ => rfl
theorem b_read_key {K : PySem.W.Frag} {f fd} (F : Fun K "read_key" "read_key" s_read_key f fd) : Binds K fd ["data"] [] := F.binds (ps := ["data"]) fun _ _ _ _ _ _ us hl => match us, hl with | [_], _ => rfl
theorem b_read_value {K : PySem.W.Frag} {f fd} (F : Fun K "read_value" "read_value" s_read_value f fd) : Binds K fd ["data"] [] := F.binds (ps := ["data"]) fun _ _ _ _ _ _ us hl => match us, hl with | [_], _ => rfl
theorem b_read_removal {K : PySem.W.Frag} {f fd} (F : Fun K "read_removal" "read_removal" s_read_removal f fd) : Binds K fd ["token"] [] := F.binds (ps := ["token"]) fun _ _ _ _ _ _ us hl => match us, hl with | [_], _ => rfl
theorem b_read_change {K : PySem.W.Frag} {f fd} (F : Fun K "read_change" "read_change" s_read_change f fd) : Binds K fd ["token"] [] := F.binds (ps := ["token"]) fun _ _ _ _ _ _ us hl => match us, hl with | [_], _ => rfl
theorem b_read_line {K : PySem.W.Frag} {f fd} (F : Fun K "read_line" "read_line" s_read_line f fd) : Binds K fd ["line", "number"] [] := F.binds (ps := ["line", "number"]) fun _ _ _ _ _ _ us hl => match us, hl with | [_, _], _ => rfl
theorem b_OldJournal_init {K : PySem.W.Frag} {f fd} (F : Fun K "__init__" "OldJournal.__init__" s_OldJournal_init f fd) : Binds K fd ["self", "tick_number", "entries", "invalid_line"] [] := F.binds (ps := ["self", "tick_number", "entries", "invalid_line"]) fun _ _ _ _ _ _ us hl => match us, hl with | [_, _, _, _], _ => rfl
theorem b_read_old_journal {K : PySem.W.Frag} {f fd} (F : Fun K "read_old_journal" "read_old_journal" s_read_old_journal f fd) : Binds K fd ["text"] [] := F.binds (ps := ["text"]) fun _ _ _ _ _ _ us hl => match us, hl with | [_], _ => rfl
theorem b_import_journal {K : PySem.W.Frag} {f fd} (F : Fun K "import_journal" "import_journal" s_import_journal f fd) : Binds K fd ["session", "text"] [] := F.binds (ps := ["session", "text"]) fun _ _ _ _ _ _ us hl => match us, hl with | [_, _], _ => rfl
theorem b_preview_import {K : PySem.W.Frag} {f fd} (F : Fun K "preview_import" "preview_import" s_preview_import f fd) : Binds K fd ["text"] [] := F.binds (ps := ["text"]) fun _ _ _ _ _ _ us hl => match us, hl with | [_], _ => rfl
theorem b_checkpoint_file {K : PySem.W.Frag} {f fd} (F : Fun K "checkpoint_file" "checkpoint_file" s_checkpoint_file f fd) : Binds K fd ["side"] [] := F.binds (ps := ["side"]) fun _ _ _ _ _ _ us hl => match us, hl with | [_], _ => rfl
theorem b_journal_file {K : PySem.W.Frag} {f fd} (F : Fun K "journal_file" "journal_file" s_journal_file f fd) : Binds K fd ["side"] [] := F.binds (ps := ["side"]) fun _ _ _ _ _ _ us hl => match us, hl with | [_], _ => rfl
theorem b_commit_file {K : PySem.W.Frag} {f fd} (F : Fun K "commit_file" "commit_file" s_commit_file f fd) : Binds K fd ["number"] [] := F.binds (ps := ["number"]) fun _ _ _ _ _ _ us hl => match us, hl with | [_], _ => rfl
theorem b_new_files {K : PySem.W.Frag} {f fd} (F : Fun K "new_files" "new_files" s_new_files f fd) : Binds K fd ["tick_number", "entries"] [] := F.binds (ps := ["tick_number", "entries"]) fun _ _ _ _ _ _ us hl => match us, hl with | [_, _], _ => rfl
theorem b_Memory_init {K : PySem.W.Frag} {f fd} (F : Fun K "__init__" "Memory.__init__" s_Memory_init f fd) : Binds K fd ["self", "tick_number", "entries", "side", "commit_number"] [] := F.binds (ps := ["self", "tick_number", "entries", "side", "commit_number"]) fun _ _ _ _ _ _ us hl => match us, hl with | [_, _, _, _, _], _ => rfl
theorem b_Session_init {K : PySem.W.Frag} {f fd} (F : Fun K "__init__" "Session.__init__" s_Session_init f fd) : Binds K fd ["self"] [] := F.binds (ps := ["self"]) fun _ _ _ _ _ _ us hl => match us, hl with | [_], _ => rfl
theorem b_start_anew {K : PySem.W.Frag} {f fd} (F : Fun K "start_anew" "Session.start_anew" s_start_anew f fd) : Binds K fd ["self", "tick_number", "entries"] [] := F.binds (ps := ["self", "tick_number", "entries"]) fun _ _ _ _ _ _ us hl => match us, hl with | [_, _, _], _ => rfl
theorem b_read_file {K : PySem.W.Frag} {f fd} (F : Fun K "read_file" "read_file" s_read_file f fd) : Binds K fd ["session", "file_number"] [] := F.binds (ps := ["session", "file_number"]) fun _ _ _ _ _ _ us hl => match us, hl with | [_, _], _ => rfl
theorem b_corrupt_byte {K : PySem.W.Frag} {f fd} (F : Fun K "corrupt_byte" "corrupt_byte" s_corrupt_byte f fd) : Binds K fd ["session", "file_number", "position", "byte"] [] := F.binds (ps := ["session", "file_number", "position", "byte"]) fun _ _ _ _ _ _ us hl => match us, hl with | [_, _, _, _], _ => rfl
theorem b_status {K : PySem.W.Frag} {f fd} (F : Fun K "status" "status" s_status f fd) : Binds K fd ["session"] [] := F.binds (ps := ["session"]) fun _ _ _ _ _ _ us hl => match us, hl with | [_], _ => rfl
theorem b_count_frames {K : PySem.W.Frag} {f fd} (F : Fun K "count_frames" "count_frames" s_count_frames f fd) : Binds K fd ["data"] [] := F.binds (ps := ["data"]) fun _ _ _ _ _ _ us hl => match us, hl with | [_], _ => rfl
theorem b_list_ticks {K : PySem.W.Frag} {f fd} (F : Fun K "list_ticks" "list_ticks" s_list_ticks f fd) : Binds K fd ["session"] [] := F.binds (ps := ["session"]) fun _ _ _ _ _ _ us hl => match us, hl with | [_], _ => rfl
theorem b_show_checksum {K : PySem.W.Frag} {f fd} (F : Fun K "show_checksum" "show_checksum" s_show_checksum f fd) : Binds K fd ["data"] [] := F.binds (ps := ["data"]) fun _ _ _ _ _ _ us hl => match us, hl with | [_], _ => rfl
theorem b_show_frame {K : PySem.W.Frag} {f fd} (F : Fun K "show_frame" "show_frame" s_show_frame f fd) : Binds K fd ["row"] [] := F.binds (ps := ["row"]) fun _ _ _ _ _ _ us hl => match us, hl with | [_], _ => rfl
theorem b_Recovery_init {K : PySem.W.Frag} {f fd} (F : Fun K "__init__" "Recovery.__init__" s_Recovery_init f fd) : Binds K fd ["self", "memory", "tick_count", "byte_count"] [] := F.binds (ps := ["self", "memory", "tick_count", "byte_count"]) fun _ _ _ _ _ _ us hl => match us, hl with | [_, _, _, _], _ => rfl
theorem b_replayed_ticks {K : PySem.W.Frag} {f fd} (F : Fun K "replayed_ticks" "replayed_ticks" s_replayed_ticks f fd) : Binds K fd ["journal", "checkpoint_number"] [] := F.binds (ps := ["journal", "checkpoint_number"]) fun _ _ _ _ _ _ us hl => match us, hl with | [_, _], _ => rfl
theorem b_recovered_side {K : PySem.W.Frag} {f fd} (F : Fun K "recovered_side" "recovered_side" s_recovered_side f fd) : Binds K fd ["files", "side", "commit_number"] [] := F.binds (ps := ["files", "side", "commit_number"]) fun _ _ _ _ _ _ us hl => match us, hl with | [_, _, _], _ => rfl
theorem b_commits_in_order {K : PySem.W.Frag} {f fd} (F : Fun K "commits_in_order" "commits_in_order" s_commits_in_order f fd) : Binds K fd ["files"] [] := F.binds (ps := ["files"]) fun _ _ _ _ _ _ us hl => match us, hl with | [_], _ => rfl
theorem b_recovered {K : PySem.W.Frag} {f fd} (F : Fun K "recovered" "recovered" s_recovered f fd) : Binds K fd ["files"] [] := F.binds (ps := ["files"]) fun _ _ _ _ _ _ us hl => match us, hl with | [_], _ => rfl
theorem b_writable_count {K : PySem.W.Frag} {f fd} (F : Fun K "writable_count" "writable_count" s_writable_count f fd) : Binds K fd ["power", "byte_count"] [] := F.binds (ps := ["power", "byte_count"]) fun _ _ _ _ _ _ us hl => match us, hl with | [_, _], _ => rfl
theorem b_reset {K : PySem.W.Frag} {f fd} (F : Fun K "reset" "reset" s_reset f fd) : Binds K fd ["session"] [] := F.binds (ps := ["session"]) fun _ _ _ _ _ _ us hl => match us, hl with | [_], _ => rfl
theorem b_written_journals {K : PySem.W.Frag} {f fd} (F : Fun K "written_journals" "written_journals" s_written_journals f fd) : Binds K fd ["memory"] [] := F.binds (ps := ["memory"]) fun _ _ _ _ _ _ us hl => match us, hl with | [_], _ => rfl
theorem b_append_to_journals {K : PySem.W.Frag} {f fd} (F : Fun K "append_to_journals" "append_to_journals" s_append_to_journals f fd) : Binds K fd ["files", "journals", "data", "byte_count"] [] := F.binds (ps := ["files", "journals", "data", "byte_count"]) fun _ _ _ _ _ _ us hl => match us, hl with | [_, _, _, _], _ => rfl
theorem b_is_tick_list {K : PySem.W.Frag} {f fd} (F : Fun K "is_tick_list" "is_tick_list" s_is_tick_list f fd) : Binds K fd ["changes"] [] := F.binds (ps := ["changes"]) fun _ _ _ _ _ _ us hl => match us, hl with | [_], _ => rfl
theorem b_tick {K : PySem.W.Frag} {f fd} (F : Fun K "tick" "tick" s_tick f fd) : Binds K fd ["session", "power", "changes"] [] := F.binds (ps := ["session", "power", "changes"]) fun _ _ _ _ _ _ us hl => match us, hl with | [_, _, _], _ => rfl
theorem b_begin_checkpoint {K : PySem.W.Frag} {f fd} (F : Fun K "begin_checkpoint" "begin_checkpoint" s_begin_checkpoint f fd) : Binds K fd ["session"] [] := F.binds (ps := ["session"]) fun _ _ _ _ _ _ us hl => match us, hl with | [_], _ => rfl
theorem b_write_checkpoint {K : PySem.W.Frag} {f fd} (F : Fun K "write_checkpoint" "write_checkpoint" s_write_checkpoint f fd) : Binds K fd ["session", "count"] [] := F.binds (ps := ["session", "count"]) fun _ _ _ _ _ _ us hl => match us, hl with | [_, _], _ => rfl
theorem b_commit_checkpoint {K : PySem.W.Frag} {f fd} (F : Fun K "commit_checkpoint" "commit_checkpoint" s_commit_checkpoint f fd) : Binds K fd ["session", "power"] [] := F.binds (ps := ["session", "power"]) fun _ _ _ _ _ _ us hl => match us, hl with | [_, _], _ => rfl
theorem b_cut_power {K : PySem.W.Frag} {f fd} (F : Fun K "cut_power" "cut_power" s_cut_power f fd) : Binds K fd ["session"] [] := F.binds (ps := ["session"]) fun _ _ _ _ _ _ us hl => match us, hl with | [_], _ => rfl
theorem b_recover {K : PySem.W.Frag} {f fd} (F : Fun K "recover" "recover" s_recover f fd) : Binds K fd ["session"] [] := F.binds (ps := ["session"]) fun _ _ _ _ _ _ us hl => match us, hl with | [_], _ => rfl
theorem b_get_value {K : PySem.W.Frag} {f fd} (F : Fun K "get_value" "get_value" s_get_value f fd) : Binds K fd ["session", "key"] [] := F.binds (ps := ["session", "key"]) fun _ _ _ _ _ _ us hl => match us, hl with | [_, _], _ => rfl
theorem b_contents {K : PySem.W.Frag} {f fd} (F : Fun K "contents" "contents" s_contents f fd) : Binds K fd ["session"] [] := F.binds (ps := ["session"]) fun _ _ _ _ _ _ us hl => match us, hl with | [_], _ => rfl
theorem b_Reader_init {K : PySem.W.Frag} {f fd} (F : Fun K "__init__" "Reader.__init__" s_Reader_init f fd) : Binds K fd ["self", "calls"] [] := F.binds (ps := ["self", "calls"]) fun _ _ _ _ _ _ us hl => match us, hl with | [_, _], _ => rfl
theorem b_has_more {K : PySem.W.Frag} {f fd} (F : Fun K "has_more" "Reader.has_more" s_has_more f fd) : Binds K fd ["self"] [] := F.binds (ps := ["self"]) fun _ _ _ _ _ _ us hl => match us, hl with | [_], _ => rfl
theorem b_take_number {K : PySem.W.Frag} {f fd} (F : Fun K "take_number" "Reader.take_number" s_take_number f fd) : Binds K fd ["self"] [] := F.binds (ps := ["self"]) fun _ _ _ _ _ _ us hl => match us, hl with | [_], _ => rfl
theorem b_take_row {K : PySem.W.Frag} {f fd} (F : Fun K "take_row" "Reader.take_row" s_take_row f fd) : Binds K fd ["self"] [] := F.binds (ps := ["self"]) fun _ _ _ _ _ _ us hl => match us, hl with | [_], _ => rfl
theorem b_store_answer {K : PySem.W.Frag} {f fd} (F : Fun K "store_answer" "store_answer" s_store_answer f fd) : Binds K fd ["session", "operation", "reader"] [] := F.binds (ps := ["session", "operation", "reader"]) fun _ _ _ _ _ _ us hl => match us, hl with | [_, _, _], _ => rfl
theorem b_corruption_answer {K : PySem.W.Frag} {f fd} (F : Fun K "corruption_answer" "corruption_answer" s_corruption_answer f fd) : Binds K fd ["session", "reader"] [] := F.binds (ps := ["session", "reader"]) fun _ _ _ _ _ _ us hl => match us, hl with | [_, _], _ => rfl
theorem b_inspection_answer {K : PySem.W.Frag} {f fd} (F : Fun K "inspection_answer" "inspection_answer" s_inspection_answer f fd) : Binds K fd ["session", "operation", "reader"] [] := F.binds (ps := ["session", "operation", "reader"]) fun _ _ _ _ _ _ us hl => match us, hl with | [_, _, _], _ => rfl
theorem b_call_answer {K : PySem.W.Frag} {f fd} (F : Fun K "call_answer" "call_answer" s_call_answer f fd) : Binds K fd ["session", "reader"] [] := F.binds (ps := ["session", "reader"]) fun _ _ _ _ _ _ us hl => match us, hl with | [_, _], _ => rfl
theorem b_answers {K : PySem.W.Frag} {f fd} (F : Fun K "answers" "answers" s_answers f fd) : Binds K fd ["calls"] [] := F.binds (ps := ["calls"]) fun _ _ _ _ _ _ us hl => match us, hl with | [_], _ => rfl
theorem all_mk (T : Txt K mg A) (k_Memory : MkC K mg "Memory" A.Memory) (k_OldJournal : MkC K mg "OldJournal" A.OldJournal) (k_Reader : MkC K mg "Reader" A.Reader) (k_Recovery : MkC K mg "Recovery" A.Recovery) (k_Session : MkC K mg "Session" A.Session)
    (f_is_key : FunAt K mg "is_key" s_is_key ["number"])
    (f_is_value : FunAt K mg "is_value" s_is_value ["number"])
    (f_is_power : FunAt K mg "is_power" s_is_power ["number"])
    (f_is_count : FunAt K mg "is_count" s_is_count ["number"])
    (f_is_file : FunAt K mg "is_file" s_is_file ["number"])
    (f_is_byte : FunAt K mg "is_byte" s_is_byte ["number"])
    (f_natural_of : FunAt K mg "natural_of" s_natural_of ["number"])
    (f_integer_of : FunAt K mg "integer_of" s_integer_of ["natural"])
    (f_integer_bytes : FunAt K mg "integer_bytes" s_integer_bytes ["number"])
    (f_row_bytes : FunAt K mg "row_bytes" s_row_bytes ["row"])
    (f_part_integer : FunAt K mg "part_integer" s_part_integer ["part"])
    (f_decoded_row : FunAt K mg "decoded_row" s_decoded_row ["payload"])
    (f_checksum : FunAt K mg "checksum" s_checksum ["data"])
    (f_two_bytes : FunAt K mg "two_bytes" s_two_bytes ["number"])
    (f_number_at : FunAt K mg "number_at" s_number_at ["data", "start"])
    (f_frame : FunAt K mg "frame" s_frame ["row"])
    (f_frame_at : FunAt K mg "frame_at" s_frame_at ["data", "start"])
    (f_valid_frames : FunAt K mg "valid_frames" s_valid_frames ["data"])
    (f_only_row : FunAt K mg "only_row" s_only_row ["data"])
    (f_is_change : FunAt K mg "is_change" s_is_change ["key", "choice", "value"])
    (f_are_changes : FunAt K mg "are_changes" s_are_changes ["numbers"])
    (f_changed_entries : FunAt K mg "changed_entries" s_changed_entries ["entries", "changes"])
    (f_tick_row : FunAt K mg "tick_row" s_tick_row ["number", "changes"])
    (f_is_tick_row : FunAt K mg "is_tick_row" s_is_tick_row ["row"])
    (f_entry_numbers : FunAt K mg "entry_numbers" s_entry_numbers ["entries"])
    (f_checkpoint_row : FunAt K mg "checkpoint_row" s_checkpoint_row ["number", "entries"])
    (f_is_checkpoint_row : FunAt K mg "is_checkpoint_row" s_is_checkpoint_row ["row"])
    (f_checkpoint_entries : FunAt K mg "checkpoint_entries" s_checkpoint_entries ["row"])
    (f_read_checkpoint : FunAt K mg "read_checkpoint" s_read_checkpoint ["data"])
    (f_is_commit_row : FunAt K mg "is_commit_row" s_is_commit_row ["row"])
    (f_read_commit : FunAt K mg "read_commit" s_read_commit ["data"])
    (f_pieces : FunAt K mg "pieces" s_pieces ["data", "separator"])
    (f_ended_lines : FunAt K mg "ended_lines" s_ended_lines ["text"])
    (f_read_natural : FunAt K mg "read_natural" s_read_natural ["digits"])
    (f_read_integer : FunAt K mg "read_integer" s_read_integer ["data"])
    (f_read_key : FunAt K mg "read_key" s_read_key ["data"])
    (f_read_value : FunAt K mg "read_value" s_read_value ["data"])
    (f_read_removal : FunAt K mg "read_removal" s_read_removal ["token"])
    (f_read_change : FunAt K mg "read_change" s_read_change ["token"])
    (f_read_line : FunAt K mg "read_line" s_read_line ["line", "number"])
    (f_OldJournal_init : FunM K A.OldJournal "__init__" "OldJournal.__init__" s_OldJournal_init ["self", "tick_number", "entries", "invalid_line"])
    (f_read_old_journal : FunAt K mg "read_old_journal" s_read_old_journal ["text"])
    (f_import_journal : FunAt K mg "import_journal" s_import_journal ["session", "text"])
    (f_preview_import : FunAt K mg "preview_import" s_preview_import ["text"])
    (f_checkpoint_file : FunAt K mg "checkpoint_file" s_checkpoint_file ["side"])
    (f_journal_file : FunAt K mg "journal_file" s_journal_file ["side"])
    (f_commit_file : FunAt K mg "commit_file" s_commit_file ["number"])
    (f_new_files : FunAt K mg "new_files" s_new_files ["tick_number", "entries"])
    (f_Memory_init : FunM K A.Memory "__init__" "Memory.__init__" s_Memory_init ["self", "tick_number", "entries", "side", "commit_number"])
    (f_Session_init : FunM K A.Session "__init__" "Session.__init__" s_Session_init ["self"])
    (f_start_anew : FunM K A.Session "start_anew" "Session.start_anew" s_start_anew ["self", "tick_number", "entries"])
    (f_read_file : FunAt K mg "read_file" s_read_file ["session", "file_number"])
    (f_corrupt_byte : FunAt K mg "corrupt_byte" s_corrupt_byte ["session", "file_number", "position", "byte"])
    (f_status : FunAt K mg "status" s_status ["session"])
    (f_count_frames : FunAt K mg "count_frames" s_count_frames ["data"])
    (f_list_ticks : FunAt K mg "list_ticks" s_list_ticks ["session"])
    (f_show_checksum : FunAt K mg "show_checksum" s_show_checksum ["data"])
    (f_show_frame : FunAt K mg "show_frame" s_show_frame ["row"])
    (f_Recovery_init : FunM K A.Recovery "__init__" "Recovery.__init__" s_Recovery_init ["self", "memory", "tick_count", "byte_count"])
    (f_replayed_ticks : FunAt K mg "replayed_ticks" s_replayed_ticks ["journal", "checkpoint_number"])
    (f_recovered_side : FunAt K mg "recovered_side" s_recovered_side ["files", "side", "commit_number"])
    (f_commits_in_order : FunAt K mg "commits_in_order" s_commits_in_order ["files"])
    (f_recovered : FunAt K mg "recovered" s_recovered ["files"])
    (f_writable_count : FunAt K mg "writable_count" s_writable_count ["power", "byte_count"])
    (f_reset : FunAt K mg "reset" s_reset ["session"])
    (f_written_journals : FunAt K mg "written_journals" s_written_journals ["memory"])
    (f_append_to_journals : FunAt K mg "append_to_journals" s_append_to_journals ["files", "journals", "data", "byte_count"])
    (f_is_tick_list : FunAt K mg "is_tick_list" s_is_tick_list ["changes"])
    (f_tick : FunAt K mg "tick" s_tick ["session", "power", "changes"])
    (f_begin_checkpoint : FunAt K mg "begin_checkpoint" s_begin_checkpoint ["session"])
    (f_write_checkpoint : FunAt K mg "write_checkpoint" s_write_checkpoint ["session", "count"])
    (f_commit_checkpoint : FunAt K mg "commit_checkpoint" s_commit_checkpoint ["session", "power"])
    (f_cut_power : FunAt K mg "cut_power" s_cut_power ["session"])
    (f_recover : FunAt K mg "recover" s_recover ["session"])
    (f_get_value : FunAt K mg "get_value" s_get_value ["session", "key"])
    (f_contents : FunAt K mg "contents" s_contents ["session"])
    (f_Reader_init : FunM K A.Reader "__init__" "Reader.__init__" s_Reader_init ["self", "calls"])
    (f_has_more : FunM K A.Reader "has_more" "Reader.has_more" s_has_more ["self"])
    (f_take_number : FunM K A.Reader "take_number" "Reader.take_number" s_take_number ["self"])
    (f_take_row : FunM K A.Reader "take_row" "Reader.take_row" s_take_row ["self"])
    (f_store_answer : FunAt K mg "store_answer" s_store_answer ["session", "operation", "reader"])
    (f_corruption_answer : FunAt K mg "corruption_answer" s_corruption_answer ["session", "reader"])
    (f_inspection_answer : FunAt K mg "inspection_answer" s_inspection_answer ["session", "operation", "reader"])
    (f_call_answer : FunAt K mg "call_answer" s_call_answer ["session", "reader"])
    (f_answers : FunAt K mg "answers" s_answers ["calls"])
    {fa : Addr} (hfa : mg "answers" = some (.ref fa)) :
    ∃ fd : FuncData, (∀ (s : Shared) (us : List Value), us.length = (["calls"] : List Str).length → BindsTo s fd ⟨us, []⟩ ((["calls"] : List Str).zip us)) ∧ ∀ base : Heap, K.In base → base.Ns mainGlobals mg → FnOk P w K mg base CX0 12 fa fd ["calls"] (sp_answers K A) := by
  obtain ⟨f, fd, F, hm, hb⟩ := f_answers
  have e : f = fa := by
    have e2 := hm.symm.trans hfa
    cases e2
    rfl
  subst e
  refine ⟨fd, ?_, fun base _ _ => ?_⟩
  · obtain ⟨oc, od, kV, doc, pm, an, cdv, ct, osl, rfl, lk, hcd⟩ := F.ex
    exact fun s us hu => match us, hu with | [_], _ => .of_eq rfl
  · have d_natural_of := ok_natural_of (P := P) (w := w) (base := base) T f_natural_of 
    have d_integer_bytes := ok_integer_bytes (P := P) (w := w) (base := base) T f_integer_bytes d_natural_of
    have d_row_bytes := ok_row_bytes (P := P) (w := w) (base := base) T f_row_bytes d_integer_bytes
    have d_two_bytes := ok_two_bytes (P := P) (w := w) (base := base) T f_two_bytes 
    have d_checksum := ok_checksum (P := P) (w := w) (base := base) T f_checksum 
    have d_frame := ok_frame (P := P) (w := w) (base := base) T f_frame d_row_bytes d_two_bytes d_checksum
    have d_entry_numbers := ok_entry_numbers (P := P) (w := w) (base := base) T f_entry_numbers 
    have d_checkpoint_row := ok_checkpoint_row (P := P) (w := w) (base := base) T f_checkpoint_row d_entry_numbers
    have d_checkpoint_file := ok_checkpoint_file (P := P) (w := w) (base := base) T f_checkpoint_file 
    have d_commit_file := ok_commit_file (P := P) (w := w) (base := base) T f_commit_file 
    have d_new_files := ok_new_files (P := P) (w := w) (base := base) T f_new_files d_frame d_checkpoint_row d_checkpoint_file d_commit_file
    have d_init_Memory := ok_Memory_init (P := P) (w := w) (base := base) T f_Memory_init 
    have d_Memory : Mak P w K mg base 1 "Memory" A.Memory _ _ := mak_mk d_init_Memory k_Memory.mks k_Memory.kc k_Memory.hm
    have d_start_anew := ok_start_anew (P := P) (w := w) (base := base) T f_start_anew d_new_files d_Memory
    have d_init_Session := ok_Session_init (P := P) (w := w) (base := base) T f_Session_init d_start_anew
    have d_Session : Mak P w K mg base 7 "Session" A.Session _ _ := mak_mk d_init_Session k_Session.mks k_Session.kc k_Session.hm
    have d_init_Reader := ok_Reader_init (P := P) (w := w) (base := base) T f_Reader_init 
    have d_Reader : Mak P w K mg base 1 "Reader" A.Reader _ _ := mak_mk d_init_Reader k_Reader.mks k_Reader.kc k_Reader.hm
    have d_has_more := ok_has_more (P := P) (w := w) (base := base) T f_has_more 
    have d_take_number := ok_take_number (P := P) (w := w) (base := base) T f_take_number 
    have d_reset := ok_reset (P := P) (w := w) (base := base) T f_reset d_start_anew
    have d_is_value := ok_is_value (P := P) (w := w) (base := base) T f_is_value 
    have d_is_key := ok_is_key (P := P) (w := w) (base := base) T f_is_key 
    have d_is_change := ok_is_change (P := P) (w := w) (base := base) T f_is_change d_is_value d_is_key
    have d_are_changes := ok_are_changes (P := P) (w := w) (base := base) T f_are_changes d_is_change
    have d_is_tick_list := ok_is_tick_list (P := P) (w := w) (base := base) T f_is_tick_list d_are_changes
    have d_is_power := ok_is_power (P := P) (w := w) (base := base) T f_is_power 
    have d_tick_row := ok_tick_row (P := P) (w := w) (base := base) T f_tick_row 
    have d_journal_file := ok_journal_file (P := P) (w := w) (base := base) T f_journal_file 
    have d_written_journals := ok_written_journals (P := P) (w := w) (base := base) T f_written_journals d_journal_file
    have d_writable_count := ok_writable_count (P := P) (w := w) (base := base) T f_writable_count 
    have d_append_to_journals := ok_append_to_journals (P := P) (w := w) (base := base) T f_append_to_journals 
    have d_changed_entries := ok_changed_entries (P := P) (w := w) (base := base) T f_changed_entries 
    have d_tick := ok_tick (P := P) (w := w) (base := base) T f_tick d_is_tick_list d_is_power d_frame d_tick_row d_written_journals d_writable_count d_append_to_journals d_changed_entries
    have d_take_row := ok_take_row (P := P) (w := w) (base := base) T f_take_row d_take_number
    have d_begin_checkpoint := ok_begin_checkpoint (P := P) (w := w) (base := base) T f_begin_checkpoint d_checkpoint_file d_journal_file d_frame d_checkpoint_row
    have d_is_count := ok_is_count (P := P) (w := w) (base := base) T f_is_count 
    have d_write_checkpoint := ok_write_checkpoint (P := P) (w := w) (base := base) T f_write_checkpoint d_is_count d_checkpoint_file
    have d_commit_checkpoint := ok_commit_checkpoint (P := P) (w := w) (base := base) T f_commit_checkpoint d_is_power d_frame d_writable_count d_commit_file
    have d_cut_power := ok_cut_power (P := P) (w := w) (base := base) T f_cut_power 
    have d_number_at := ok_number_at (P := P) (w := w) (base := base) T f_number_at 
    have d_integer_of := ok_integer_of (P := P) (w := w) (base := base) T f_integer_of 
    have d_part_integer := ok_part_integer (P := P) (w := w) (base := base) T f_part_integer d_integer_of
    have d_decoded_row := ok_decoded_row (P := P) (w := w) (base := base) T f_decoded_row d_part_integer
    have d_frame_at := ok_frame_at (P := P) (w := w) (base := base) T f_frame_at d_number_at d_checksum d_decoded_row
    have d_only_row := ok_only_row (P := P) (w := w) (base := base) T f_only_row d_frame_at
    have d_is_commit_row := ok_is_commit_row (P := P) (w := w) (base := base) T f_is_commit_row 
    have d_read_commit := ok_read_commit (P := P) (w := w) (base := base) T f_read_commit d_only_row d_is_commit_row
    have d_commits_in_order := ok_commits_in_order (P := P) (w := w) (base := base) T f_commits_in_order d_read_commit d_commit_file
    have d_is_checkpoint_row := ok_is_checkpoint_row (P := P) (w := w) (base := base) T f_is_checkpoint_row d_is_value d_is_key
    have d_read_checkpoint := ok_read_checkpoint (P := P) (w := w) (base := base) T f_read_checkpoint d_only_row d_is_checkpoint_row
    have d_checkpoint_entries := ok_checkpoint_entries (P := P) (w := w) (base := base) T f_checkpoint_entries 
    have d_valid_frames := ok_valid_frames (P := P) (w := w) (base := base) T f_valid_frames d_frame_at
    have d_is_tick_row := ok_is_tick_row (P := P) (w := w) (base := base) T f_is_tick_row d_are_changes
    have d_replayed_ticks := ok_replayed_ticks (P := P) (w := w) (base := base) T f_replayed_ticks d_valid_frames d_is_tick_row
    have d_init_Recovery := ok_Recovery_init (P := P) (w := w) (base := base) T f_Recovery_init 
    have d_Recovery : Mak P w K mg base 1 "Recovery" A.Recovery _ _ := mak_mk d_init_Recovery k_Recovery.mks k_Recovery.kc k_Recovery.hm
    have d_recovered_side := ok_recovered_side (P := P) (w := w) (base := base) T f_recovered_side d_read_checkpoint d_checkpoint_file d_checkpoint_entries d_replayed_ticks d_journal_file d_changed_entries d_Recovery d_Memory
    have d_recovered := ok_recovered (P := P) (w := w) (base := base) T f_recovered d_commits_in_order d_recovered_side
    have d_recover := ok_recover (P := P) (w := w) (base := base) T f_recover d_recovered d_journal_file
    have d_get_value := ok_get_value (P := P) (w := w) (base := base) T f_get_value 
    have d_contents := ok_contents (P := P) (w := w) (base := base) T f_contents d_entry_numbers
    have d_store_answer := ok_store_answer (P := P) (w := w) (base := base) T f_store_answer d_reset d_take_number d_tick d_take_row d_begin_checkpoint d_write_checkpoint d_commit_checkpoint d_cut_power d_recover d_get_value d_contents
    have d_is_file := ok_is_file (P := P) (w := w) (base := base) T f_is_file 
    have d_read_file := ok_read_file (P := P) (w := w) (base := base) T f_read_file d_is_file
    have d_is_byte := ok_is_byte (P := P) (w := w) (base := base) T f_is_byte 
    have d_corrupt_byte := ok_corrupt_byte (P := P) (w := w) (base := base) T f_corrupt_byte d_is_byte d_is_file
    have d_corruption_answer := ok_corruption_answer (P := P) (w := w) (base := base) T f_corruption_answer d_take_number d_corrupt_byte
    have d_pieces := ok_pieces (P := P) (w := w) (base := base) T f_pieces 
    have d_ended_lines := ok_ended_lines (P := P) (w := w) (base := base) T f_ended_lines d_pieces
    have d_read_natural := ok_read_natural (P := P) (w := w) (base := base) T f_read_natural 
    have d_read_key := ok_read_key (P := P) (w := w) (base := base) T f_read_key d_read_natural d_is_key
    have d_read_removal := ok_read_removal (P := P) (w := w) (base := base) T f_read_removal d_read_key
    have d_read_integer := ok_read_integer (P := P) (w := w) (base := base) T f_read_integer d_read_natural
    have d_read_value := ok_read_value (P := P) (w := w) (base := base) T f_read_value d_read_integer d_is_value
    have d_read_change := ok_read_change (P := P) (w := w) (base := base) T f_read_change d_read_removal d_pieces d_read_key d_read_value
    have d_read_line := ok_read_line (P := P) (w := w) (base := base) T f_read_line d_pieces d_read_natural d_read_change
    have d_init_OldJournal := ok_OldJournal_init (P := P) (w := w) (base := base) T f_OldJournal_init 
    have d_OldJournal : Mak P w K mg base 1 "OldJournal" A.OldJournal _ _ := mak_mk d_init_OldJournal k_OldJournal.mks k_OldJournal.kc k_OldJournal.hm
    have d_read_old_journal := ok_read_old_journal (P := P) (w := w) (base := base) T f_read_old_journal d_ended_lines d_read_line d_OldJournal d_changed_entries
    have d_import_journal := ok_import_journal (P := P) (w := w) (base := base) T f_import_journal d_read_old_journal d_start_anew
    have d_status := ok_status (P := P) (w := w) (base := base) T f_status 
    have d_count_frames := ok_count_frames (P := P) (w := w) (base := base) T f_count_frames d_valid_frames
    have d_list_ticks := ok_list_ticks (P := P) (w := w) (base := base) T f_list_ticks d_valid_frames d_journal_file d_is_tick_row
    have d_show_checksum := ok_show_checksum (P := P) (w := w) (base := base) T f_show_checksum d_checksum
    have d_show_frame := ok_show_frame (P := P) (w := w) (base := base) T f_show_frame d_frame
    have d_preview_import := ok_preview_import (P := P) (w := w) (base := base) T f_preview_import d_read_old_journal d_entry_numbers
    have d_inspection_answer := ok_inspection_answer (P := P) (w := w) (base := base) T f_inspection_answer d_read_file d_take_number d_corruption_answer d_import_journal d_take_row d_status d_count_frames d_list_ticks d_show_checksum d_show_frame d_preview_import
    have d_call_answer := ok_call_answer (P := P) (w := w) (base := base) T f_call_answer d_take_number d_store_answer d_inspection_answer
    exact fn_answers (P := P) (w := w) (base := base) T F d_Session d_Reader d_has_more d_call_answer
end
section
variable {P : Program} {w : World} {K : PySem.W.Frag} {mg : Str → Option Value} {h : Heap} {CM CS CR CO CD : Addr}
theorem fin_mk {t_LARGEST t_LARGEST_KEY t_LARGEST_LIMIT t_LARGEST_FILE t_LARGEST_BYTE t_LONGEST_ROW t_CHANGES_OF_A_TICK t_UNLIMITED t_BAD_ARGUMENT t_INVALID_LINE t_NOT_NOW t_NOT_THERE t_TOO_LARGE t_NOTHING_TO_RECOVER t_NO_POWER t_CHECKSUM_MODULUS t_END_BYTE t_LONGEST_PART t_BYTES_BESIDE_PAYLOAD t_LINE_FEED t_BLANK t_REMOVAL_SIGN t_MINUS_SIGN t_DIGIT_ZERO t_DIGIT_NINE t_EQUALS_SIGN t_MOST_DIGITS t_LAST_STORE_OPERATION t_LAST_OPERATION : _} (X : K.In h) (G : h.Ns mainGlobals mg) {fa : Addr} (hfa : mg "answers" = some (.ref fa))
    (aCM : PySem.W.nsIn K mainGlobals "Memory" = some (some (.ref CM)))
    (aCS : PySem.W.nsIn K mainGlobals "Session" = some (some (.ref CS)))
    (aCR : PySem.W.nsIn K mainGlobals "Recovery" = some (some (.ref CR)))
    (aCO : PySem.W.nsIn K mainGlobals "OldJournal" = some (some (.ref CO)))
    (aCD : PySem.W.nsIn K mainGlobals "Reader" = some (some (.ref CD)))
    (pgCM : PySem.W.plainGet K CM Str.empty = true)
    (hdCM : PySem.W.hasDictIn K CM = true)
    (poCM : PySem.W.plainOver K CM = true)
    (saCM : PySem.W.findIn K (.ref CM) "__setattr__" = some (some (.builtin "object.__setattr__")))
    (mkCM : PySem.W.makesIn K CM = true)
    (kcCM : PySem.W.keepIn K (.ref CM) = true)
    (pgCS : PySem.W.plainGet K CS Str.empty = true)
    (hdCS : PySem.W.hasDictIn K CS = true)
    (poCS : PySem.W.plainOver K CS = true)
    (saCS : PySem.W.findIn K (.ref CS) "__setattr__" = some (some (.builtin "object.__setattr__")))
    (mkCS : PySem.W.makesIn K CS = true)
    (kcCS : PySem.W.keepIn K (.ref CS) = true)
    (pgCR : PySem.W.plainGet K CR Str.empty = true)
    (hdCR : PySem.W.hasDictIn K CR = true)
    (poCR : PySem.W.plainOver K CR = true)
    (saCR : PySem.W.findIn K (.ref CR) "__setattr__" = some (some (.builtin "object.__setattr__")))
    (mkCR : PySem.W.makesIn K CR = true)
    (kcCR : PySem.W.keepIn K (.ref CR) = true)
    (pgCO : PySem.W.plainGet K CO Str.empty = true)
    (hdCO : PySem.W.hasDictIn K CO = true)
    (poCO : PySem.W.plainOver K CO = true)
    (saCO : PySem.W.findIn K (.ref CO) "__setattr__" = some (some (.builtin "object.__setattr__")))
    (mkCO : PySem.W.makesIn K CO = true)
    (kcCO : PySem.W.keepIn K (.ref CO) = true)
    (pgCD : PySem.W.plainGet K CD Str.empty = true)
    (hdCD : PySem.W.hasDictIn K CD = true)
    (poCD : PySem.W.plainOver K CD = true)
    (saCD : PySem.W.findIn K (.ref CD) "__setattr__" = some (some (.builtin "object.__setattr__")))
    (mkCD : PySem.W.makesIn K CD = true)
    (kcCD : PySem.W.keepIn K (.ref CD) = true)
    (m_tick_number : PySem.W.findIn K (.ref CM) "tick_number" = some none)
    (m_entries : PySem.W.findIn K (.ref CM) "entries" = some none)
    (m_side : PySem.W.findIn K (.ref CM) "side" = some none)
    (m_commit_number : PySem.W.findIn K (.ref CM) "commit_number" = some none)
    (m_pending : PySem.W.findIn K (.ref CM) "pending" = some none)
    (s_files : PySem.W.findIn K (.ref CS) "files" = some none)
    (s_memory : PySem.W.findIn K (.ref CS) "memory" = some none)
    (s_durable_tick : PySem.W.findIn K (.ref CS) "durable_tick" = some none)
    (r_memory : PySem.W.findIn K (.ref CR) "memory" = some none)
    (r_tick_count : PySem.W.findIn K (.ref CR) "tick_count" = some none)
    (r_byte_count : PySem.W.findIn K (.ref CR) "byte_count" = some none)
    (o_tick_number : PySem.W.findIn K (.ref CO) "tick_number" = some none)
    (o_entries : PySem.W.findIn K (.ref CO) "entries" = some none)
    (o_invalid_line : PySem.W.findIn K (.ref CO) "invalid_line" = some none)
    (d_calls : PySem.W.findIn K (.ref CD) "calls" = some none)
    (d_place : PySem.W.findIn K (.ref CD) "place" = some none)
    (c_LARGEST : PySem.W.nsIn K mainGlobals "LARGEST" = some (some (.int 1000000000000000000 t_LARGEST)))
    (c_LARGEST_KEY : PySem.W.nsIn K mainGlobals "LARGEST_KEY" = some (some (.int 63 t_LARGEST_KEY)))
    (c_LARGEST_LIMIT : PySem.W.nsIn K mainGlobals "LARGEST_LIMIT" = some (some (.int 100000 t_LARGEST_LIMIT)))
    (c_LARGEST_FILE : PySem.W.nsIn K mainGlobals "LARGEST_FILE" = some (some (.int 5 t_LARGEST_FILE)))
    (c_LARGEST_BYTE : PySem.W.nsIn K mainGlobals "LARGEST_BYTE" = some (some (.int 255 t_LARGEST_BYTE)))
    (c_LONGEST_ROW : PySem.W.nsIn K mainGlobals "LONGEST_ROW" = some (some (.int 40 t_LONGEST_ROW)))
    (c_CHANGES_OF_A_TICK : PySem.W.nsIn K mainGlobals "CHANGES_OF_A_TICK" = some (some (.int 16 t_CHANGES_OF_A_TICK)))
    (c_UNLIMITED : PySem.W.nsIn K mainGlobals "UNLIMITED" = some (some (.int (-1) t_UNLIMITED)))
    (c_BAD_ARGUMENT : PySem.W.nsIn K mainGlobals "BAD_ARGUMENT" = some (some (.int (-1) t_BAD_ARGUMENT)))
    (c_INVALID_LINE : PySem.W.nsIn K mainGlobals "INVALID_LINE" = some (some (.int (-2) t_INVALID_LINE)))
    (c_NOT_NOW : PySem.W.nsIn K mainGlobals "NOT_NOW" = some (some (.int (-3) t_NOT_NOW)))
    (c_NOT_THERE : PySem.W.nsIn K mainGlobals "NOT_THERE" = some (some (.int (-4) t_NOT_THERE)))
    (c_TOO_LARGE : PySem.W.nsIn K mainGlobals "TOO_LARGE" = some (some (.int (-5) t_TOO_LARGE)))
    (c_NOTHING_TO_RECOVER : PySem.W.nsIn K mainGlobals "NOTHING_TO_RECOVER" = some (some (.int (-6) t_NOTHING_TO_RECOVER)))
    (c_NO_POWER : PySem.W.nsIn K mainGlobals "NO_POWER" = some (some (.int (-7) t_NO_POWER)))
    (c_CHECKSUM_MODULUS : PySem.W.nsIn K mainGlobals "CHECKSUM_MODULUS" = some (some (.int 65521 t_CHECKSUM_MODULUS)))
    (c_END_BYTE : PySem.W.nsIn K mainGlobals "END_BYTE" = some (some (.int 165 t_END_BYTE)))
    (c_LONGEST_PART : PySem.W.nsIn K mainGlobals "LONGEST_PART" = some (some (.int 12 t_LONGEST_PART)))
    (c_BYTES_BESIDE_PAYLOAD : PySem.W.nsIn K mainGlobals "BYTES_BESIDE_PAYLOAD" = some (some (.int 7 t_BYTES_BESIDE_PAYLOAD)))
    (c_LINE_FEED : PySem.W.nsIn K mainGlobals "LINE_FEED" = some (some (.int 10 t_LINE_FEED)))
    (c_BLANK : PySem.W.nsIn K mainGlobals "BLANK" = some (some (.int 32 t_BLANK)))
    (c_REMOVAL_SIGN : PySem.W.nsIn K mainGlobals "REMOVAL_SIGN" = some (some (.int 33 t_REMOVAL_SIGN)))
    (c_MINUS_SIGN : PySem.W.nsIn K mainGlobals "MINUS_SIGN" = some (some (.int 45 t_MINUS_SIGN)))
    (c_DIGIT_ZERO : PySem.W.nsIn K mainGlobals "DIGIT_ZERO" = some (some (.int 48 t_DIGIT_ZERO)))
    (c_DIGIT_NINE : PySem.W.nsIn K mainGlobals "DIGIT_NINE" = some (some (.int 57 t_DIGIT_NINE)))
    (c_EQUALS_SIGN : PySem.W.nsIn K mainGlobals "EQUALS_SIGN" = some (some (.int 61 t_EQUALS_SIGN)))
    (c_MOST_DIGITS : PySem.W.nsIn K mainGlobals "MOST_DIGITS" = some (some (.int 19 t_MOST_DIGITS)))
    (c_LAST_STORE_OPERATION : PySem.W.nsIn K mainGlobals "LAST_STORE_OPERATION" = some (some (.int 8 t_LAST_STORE_OPERATION)))
    (c_LAST_OPERATION : PySem.W.nsIn K mainGlobals "LAST_OPERATION" = some (some (.int 17 t_LAST_OPERATION)))
    (b_len : PySem.W.nsIn K mainGlobals "len" = some none)
    (b_min : PySem.W.nsIn K mainGlobals "min" = some none)
    (b_sorted : PySem.W.nsIn K mainGlobals "sorted" = some none)
    (b_dict : PySem.W.nsIn K mainGlobals "dict" = some none)
    (b_range : PySem.W.nsIn K mainGlobals "range" = some none)
    (b_reversed : PySem.W.nsIn K mainGlobals "reversed" = some none)
    (b_enumerate : PySem.W.nsIn K mainGlobals "enumerate" = some none)
    (f_is_key : FunAt K mg "is_key" s_is_key ["number"])
    (f_is_value : FunAt K mg "is_value" s_is_value ["number"])
    (f_is_power : FunAt K mg "is_power" s_is_power ["number"])
    (f_is_count : FunAt K mg "is_count" s_is_count ["number"])
    (f_is_file : FunAt K mg "is_file" s_is_file ["number"])
    (f_is_byte : FunAt K mg "is_byte" s_is_byte ["number"])
    (f_natural_of : FunAt K mg "natural_of" s_natural_of ["number"])
    (f_integer_of : FunAt K mg "integer_of" s_integer_of ["natural"])
    (f_integer_bytes : FunAt K mg "integer_bytes" s_integer_bytes ["number"])
    (f_row_bytes : FunAt K mg "row_bytes" s_row_bytes ["row"])
    (f_part_integer : FunAt K mg "part_integer" s_part_integer ["part"])
    (f_decoded_row : FunAt K mg "decoded_row" s_decoded_row ["payload"])
    (f_checksum : FunAt K mg "checksum" s_checksum ["data"])
    (f_two_bytes : FunAt K mg "two_bytes" s_two_bytes ["number"])
    (f_number_at : FunAt K mg "number_at" s_number_at ["data", "start"])
    (f_frame : FunAt K mg "frame" s_frame ["row"])
    (f_frame_at : FunAt K mg "frame_at" s_frame_at ["data", "start"])
    (f_valid_frames : FunAt K mg "valid_frames" s_valid_frames ["data"])
    (f_only_row : FunAt K mg "only_row" s_only_row ["data"])
    (f_is_change : FunAt K mg "is_change" s_is_change ["key", "choice", "value"])
    (f_are_changes : FunAt K mg "are_changes" s_are_changes ["numbers"])
    (f_changed_entries : FunAt K mg "changed_entries" s_changed_entries ["entries", "changes"])
    (f_tick_row : FunAt K mg "tick_row" s_tick_row ["number", "changes"])
    (f_is_tick_row : FunAt K mg "is_tick_row" s_is_tick_row ["row"])
    (f_entry_numbers : FunAt K mg "entry_numbers" s_entry_numbers ["entries"])
    (f_checkpoint_row : FunAt K mg "checkpoint_row" s_checkpoint_row ["number", "entries"])
    (f_is_checkpoint_row : FunAt K mg "is_checkpoint_row" s_is_checkpoint_row ["row"])
    (f_checkpoint_entries : FunAt K mg "checkpoint_entries" s_checkpoint_entries ["row"])
    (f_read_checkpoint : FunAt K mg "read_checkpoint" s_read_checkpoint ["data"])
    (f_is_commit_row : FunAt K mg "is_commit_row" s_is_commit_row ["row"])
    (f_read_commit : FunAt K mg "read_commit" s_read_commit ["data"])
    (f_pieces : FunAt K mg "pieces" s_pieces ["data", "separator"])
    (f_ended_lines : FunAt K mg "ended_lines" s_ended_lines ["text"])
    (f_read_natural : FunAt K mg "read_natural" s_read_natural ["digits"])
    (f_read_integer : FunAt K mg "read_integer" s_read_integer ["data"])
    (f_read_key : FunAt K mg "read_key" s_read_key ["data"])
    (f_read_value : FunAt K mg "read_value" s_read_value ["data"])
    (f_read_removal : FunAt K mg "read_removal" s_read_removal ["token"])
    (f_read_change : FunAt K mg "read_change" s_read_change ["token"])
    (f_read_line : FunAt K mg "read_line" s_read_line ["line", "number"])
    (f_OldJournal_init : FunM K CO "__init__" "OldJournal.__init__" s_OldJournal_init ["self", "tick_number", "entries", "invalid_line"])
    (f_read_old_journal : FunAt K mg "read_old_journal" s_read_old_journal ["text"])
    (f_import_journal : FunAt K mg "import_journal" s_import_journal ["session", "text"])
    (f_preview_import : FunAt K mg "preview_import" s_preview_import ["text"])
    (f_checkpoint_file : FunAt K mg "checkpoint_file" s_checkpoint_file ["side"])
    (f_journal_file : FunAt K mg "journal_file" s_journal_file ["side"])
    (f_commit_file : FunAt K mg "commit_file" s_commit_file ["number"])
    (f_new_files : FunAt K mg "new_files" s_new_files ["tick_number", "entries"])
    (f_Memory_init : FunM K CM "__init__" "Memory.__init__" s_Memory_init ["self", "tick_number", "entries", "side", "commit_number"])
    (f_Session_init : FunM K CS "__init__" "Session.__init__" s_Session_init ["self"])
    (f_start_anew : FunM K CS "start_anew" "Session.start_anew" s_start_anew ["self", "tick_number", "entries"])
    (f_read_file : FunAt K mg "read_file" s_read_file ["session", "file_number"])
    (f_corrupt_byte : FunAt K mg "corrupt_byte" s_corrupt_byte ["session", "file_number", "position", "byte"])
    (f_status : FunAt K mg "status" s_status ["session"])
    (f_count_frames : FunAt K mg "count_frames" s_count_frames ["data"])
    (f_list_ticks : FunAt K mg "list_ticks" s_list_ticks ["session"])
    (f_show_checksum : FunAt K mg "show_checksum" s_show_checksum ["data"])
    (f_show_frame : FunAt K mg "show_frame" s_show_frame ["row"])
    (f_Recovery_init : FunM K CR "__init__" "Recovery.__init__" s_Recovery_init ["self", "memory", "tick_count", "byte_count"])
    (f_replayed_ticks : FunAt K mg "replayed_ticks" s_replayed_ticks ["journal", "checkpoint_number"])
    (f_recovered_side : FunAt K mg "recovered_side" s_recovered_side ["files", "side", "commit_number"])
    (f_commits_in_order : FunAt K mg "commits_in_order" s_commits_in_order ["files"])
    (f_recovered : FunAt K mg "recovered" s_recovered ["files"])
    (f_writable_count : FunAt K mg "writable_count" s_writable_count ["power", "byte_count"])
    (f_reset : FunAt K mg "reset" s_reset ["session"])
    (f_written_journals : FunAt K mg "written_journals" s_written_journals ["memory"])
    (f_append_to_journals : FunAt K mg "append_to_journals" s_append_to_journals ["files", "journals", "data", "byte_count"])
    (f_is_tick_list : FunAt K mg "is_tick_list" s_is_tick_list ["changes"])
    (f_tick : FunAt K mg "tick" s_tick ["session", "power", "changes"])
    (f_begin_checkpoint : FunAt K mg "begin_checkpoint" s_begin_checkpoint ["session"])
    (f_write_checkpoint : FunAt K mg "write_checkpoint" s_write_checkpoint ["session", "count"])
    (f_commit_checkpoint : FunAt K mg "commit_checkpoint" s_commit_checkpoint ["session", "power"])
    (f_cut_power : FunAt K mg "cut_power" s_cut_power ["session"])
    (f_recover : FunAt K mg "recover" s_recover ["session"])
    (f_get_value : FunAt K mg "get_value" s_get_value ["session", "key"])
    (f_contents : FunAt K mg "contents" s_contents ["session"])
    (f_Reader_init : FunM K CD "__init__" "Reader.__init__" s_Reader_init ["self", "calls"])
    (f_has_more : FunM K CD "has_more" "Reader.has_more" s_has_more ["self"])
    (f_take_number : FunM K CD "take_number" "Reader.take_number" s_take_number ["self"])
    (f_take_row : FunM K CD "take_row" "Reader.take_row" s_take_row ["self"])
    (f_store_answer : FunAt K mg "store_answer" s_store_answer ["session", "operation", "reader"])
    (f_corruption_answer : FunAt K mg "corruption_answer" s_corruption_answer ["session", "reader"])
    (f_inspection_answer : FunAt K mg "inspection_answer" s_inspection_answer ["session", "operation", "reader"])
    (f_call_answer : FunAt K mg "call_answer" s_call_answer ["session", "reader"])
    (f_answers : FunAt K mg "answers" s_answers ["calls"]) :
    ∃ fd : FuncData, (∀ (s : Shared) (us : List Value), us.length = (["calls"] : List Str).length → BindsTo s fd ⟨us, []⟩ ((["calls"] : List Str).zip us)) ∧ ∀ base : Heap, K.In base → base.Ns mainGlobals mg → FnOk P w K mg base CX0 12 fa fd ["calls"] (sp_answers K ⟨0, 0, 0, 0, 0⟩) := by
  have T : Txt K mg ⟨CM, CS, CR, CO, CD⟩ := ⟨cst_mk X G c_LARGEST, cst_mk X G c_LARGEST_KEY, cst_mk X G c_LARGEST_LIMIT, cst_mk X G c_LARGEST_FILE, cst_mk X G c_LARGEST_BYTE, cst_mk X G c_LONGEST_ROW, cst_mk X G c_CHANGES_OF_A_TICK, cst_mk X G c_UNLIMITED, cst_mk X G c_BAD_ARGUMENT, cst_mk X G c_INVALID_LINE, cst_mk X G c_NOT_NOW, cst_mk X G c_NOT_THERE, cst_mk X G c_TOO_LARGE, cst_mk X G c_NOTHING_TO_RECOVER, cst_mk X G c_NO_POWER, cst_mk X G c_CHECKSUM_MODULUS, cst_mk X G c_END_BYTE, cst_mk X G c_LONGEST_PART, cst_mk X G c_BYTES_BESIDE_PAYLOAD, cst_mk X G c_LINE_FEED, cst_mk X G c_BLANK, cst_mk X G c_REMOVAL_SIGN, cst_mk X G c_MINUS_SIGN, cst_mk X G c_DIGIT_ZERO, cst_mk X G c_DIGIT_NINE, cst_mk X G c_EQUALS_SIGN, cst_mk X G c_MOST_DIGITS, cst_mk X G c_LAST_STORE_OPERATION, cst_mk X G c_LAST_OPERATION, PySem.W.mg_none_of X G b_len, PySem.W.mg_none_of X G b_min, PySem.W.mg_none_of X G b_sorted, PySem.W.mg_none_of X G b_dict, PySem.W.mg_none_of X G b_range, PySem.W.mg_none_of X G b_reversed, PySem.W.mg_none_of X G b_enumerate, cls_mk pgCM hdCM poCM saCM, cls_mk pgCS hdCS poCS saCS, cls_mk pgCR hdCR poCR saCR, cls_mk pgCO hdCO poCO saCO, cls_mk pgCD hdCD poCD saCD, m_tick_number, m_entries, m_side, m_commit_number, m_pending, s_files, s_memory, s_durable_tick, r_memory, r_tick_count, r_byte_count, o_tick_number, o_entries, o_invalid_line, d_calls, d_place⟩
  exact all_mk (P := P) (w := w) (A := ⟨CM, CS, CR, CO, CD⟩) T ⟨mkCM, kcCM, PySem.W.mg_of X G aCM⟩ ⟨mkCO, kcCO, PySem.W.mg_of X G aCO⟩ ⟨mkCD, kcCD, PySem.W.mg_of X G aCD⟩ ⟨mkCR, kcCR, PySem.W.mg_of X G aCR⟩ ⟨mkCS, kcCS, PySem.W.mg_of X G aCS⟩ f_is_key f_is_value f_is_power f_is_count f_is_file f_is_byte f_natural_of f_integer_of f_integer_bytes f_row_bytes f_part_integer f_decoded_row f_checksum f_two_bytes f_number_at f_frame f_frame_at f_valid_frames f_only_row f_is_change f_are_changes f_changed_entries f_tick_row f_is_tick_row f_entry_numbers f_checkpoint_row f_is_checkpoint_row f_checkpoint_entries f_read_checkpoint f_is_commit_row f_read_commit f_pieces f_ended_lines f_read_natural f_read_integer f_read_key f_read_value f_read_removal f_read_change f_read_line f_OldJournal_init f_read_old_journal f_import_journal f_preview_import f_checkpoint_file f_journal_file f_commit_file f_new_files f_Memory_init f_Session_init f_start_anew f_read_file f_corrupt_byte f_status f_count_frames f_list_ticks f_show_checksum f_show_frame f_Recovery_init f_replayed_ticks f_recovered_side f_commits_in_order f_recovered f_writable_count f_reset f_written_journals f_append_to_journals f_is_tick_list f_tick f_begin_checkpoint f_write_checkpoint f_commit_checkpoint f_cut_power f_recover f_get_value f_contents f_Reader_init f_has_more f_take_number f_take_row f_store_answer f_corruption_answer f_inspection_answer f_call_answer f_answers hfa
end
end TS
open PySem PySem.W PyProof.Rows
set_option maxRecDepth 100000 in
set_option maxHeartbeats 0 in
theorem PySem.Challenge.cw_tickstore_s01_answers_holds : PySem.Challenge.rw_tickstore_s01_answers.Holds := by
  w_on; k_headS; (case hw => exact ⟨[.list [.int 0]], by decide +kernel, by decide +kernel⟩)
  k_fillS
  refine L2.walk_specK (r := PySem.Challenge.rw_tickstore_s01_answers) (k := 12) (CX := L2.CX0) (ps := ["calls"]) (sp := fun K => TS.sp_answers K ⟨0, 0, 0, 0, 0⟩) (by decide +kernel) rfl rfl ⟨rfl, by decide, by decide⟩ (fun w h Y => PySem.W.kIn_of Y) ?F ?S (fun _ _ _ _ z => z)
  case F =>
    intro w mg fa h Y KX G hmg
    refine' TS.fin_mk KX G hmg ?aCM ?aCS ?aCR ?aCO ?aCD ?pgCM ?hdCM ?poCM ?saCM ?mkCM ?kcCM ?pgCS ?hdCS ?poCS ?saCS ?mkCS ?kcCS ?pgCR ?hdCR ?poCR ?saCR ?mkCR ?kcCR ?pgCO ?hdCO ?poCO ?saCO ?mkCO ?kcCO ?pgCD ?hdCD ?poCD ?saCD ?mkCD ?kcCD ?m_tick_number ?m_entries ?m_side ?m_commit_number ?m_pending ?s_files ?s_memory ?s_durable_tick ?r_memory ?r_tick_count ?r_byte_count ?o_tick_number ?o_entries ?o_invalid_line ?d_calls ?d_place ?c_LARGEST ?c_LARGEST_KEY ?c_LARGEST_LIMIT ?c_LARGEST_FILE ?c_LARGEST_BYTE ?c_LONGEST_ROW ?c_CHANGES_OF_A_TICK ?c_UNLIMITED ?c_BAD_ARGUMENT ?c_INVALID_LINE ?c_NOT_NOW ?c_NOT_THERE ?c_TOO_LARGE ?c_NOTHING_TO_RECOVER ?c_NO_POWER ?c_CHECKSUM_MODULUS ?c_END_BYTE ?c_LONGEST_PART ?c_BYTES_BESIDE_PAYLOAD ?c_LINE_FEED ?c_BLANK ?c_REMOVAL_SIGN ?c_MINUS_SIGN ?c_DIGIT_ZERO ?c_DIGIT_NINE ?c_EQUALS_SIGN ?c_MOST_DIGITS ?c_LAST_STORE_OPERATION ?c_LAST_OPERATION ?b_len ?b_min ?b_sorted ?b_dict ?b_range ?b_reversed ?b_enumerate ?f_is_key ?f_is_value ?f_is_power ?f_is_count ?f_is_file ?f_is_byte ?f_natural_of ?f_integer_of ?f_integer_bytes ?f_row_bytes ?f_part_integer ?f_decoded_row ?f_checksum ?f_two_bytes ?f_number_at ?f_frame ?f_frame_at ?f_valid_frames ?f_only_row ?f_is_change ?f_are_changes ?f_changed_entries ?f_tick_row ?f_is_tick_row ?f_entry_numbers ?f_checkpoint_row ?f_is_checkpoint_row ?f_checkpoint_entries ?f_read_checkpoint ?f_is_commit_row ?f_read_commit ?f_pieces ?f_ended_lines ?f_read_natural ?f_read_integer ?f_read_key ?f_read_value ?f_read_removal ?f_read_change ?f_read_line ?f_OldJournal_init ?f_read_old_journal ?f_import_journal ?f_preview_import ?f_checkpoint_file ?f_journal_file ?f_commit_file ?f_new_files ?f_Memory_init ?f_Session_init ?f_start_anew ?f_read_file ?f_corrupt_byte ?f_status ?f_count_frames ?f_list_ticks ?f_show_checksum ?f_show_frame ?f_Recovery_init ?f_replayed_ticks ?f_recovered_side ?f_commits_in_order ?f_recovered ?f_writable_count ?f_reset ?f_written_journals ?f_append_to_journals ?f_is_tick_list ?f_tick ?f_begin_checkpoint ?f_write_checkpoint ?f_commit_checkpoint ?f_cut_power ?f_recover ?f_get_value ?f_contents ?f_Reader_init ?f_has_more ?f_take_number ?f_take_row ?f_store_answer ?f_corruption_answer ?f_inspection_answer ?f_call_answer ?f_answers
    (case aCM => k_is)
    (case aCS => k_is)
    (case aCR => k_is)
    (case aCO => k_is)
    (case aCD => k_is)
    (case pgCM => k_is)
    (case hdCM => k_is)
    (case poCM => k_is)
    (case saCM => k_is)
    (case mkCM => k_is)
    (case kcCM => k_is)
    (case pgCS => k_is)
    (case hdCS => k_is)
    (case poCS => k_is)
    (case saCS => k_is)
    (case mkCS => k_is)
    (case kcCS => k_is)
    (case pgCR => k_is)
    (case hdCR => k_is)
    (case poCR => k_is)
    (case saCR => k_is)
    (case mkCR => k_is)
    (case kcCR => k_is)
    (case pgCO => k_is)
    (case hdCO => k_is)
    (case poCO => k_is)
    (case saCO => k_is)
    (case mkCO => k_is)
    (case kcCO => k_is)
    (case pgCD => k_is)
    (case hdCD => k_is)
    (case poCD => k_is)
    (case saCD => k_is)
    (case mkCD => k_is)
    (case kcCD => k_is)
    (case m_tick_number => k_is)
    (case m_entries => k_is)
    (case m_side => k_is)
    (case m_commit_number => k_is)
    (case m_pending => k_is)
    (case s_files => k_is)
    (case s_memory => k_is)
    (case s_durable_tick => k_is)
    (case r_memory => k_is)
    (case r_tick_count => k_is)
    (case r_byte_count => k_is)
    (case o_tick_number => k_is)
    (case o_entries => k_is)
    (case o_invalid_line => k_is)
    (case d_calls => k_is)
    (case d_place => k_is)
    (case c_LARGEST => k_is)
    (case c_LARGEST_KEY => k_is)
    (case c_LARGEST_LIMIT => k_is)
    (case c_LARGEST_FILE => k_is)
    (case c_LARGEST_BYTE => k_is)
    (case c_LONGEST_ROW => k_is)
    (case c_CHANGES_OF_A_TICK => k_is)
    (case c_UNLIMITED => k_is)
    (case c_BAD_ARGUMENT => k_is)
    (case c_INVALID_LINE => k_is)
    (case c_NOT_NOW => k_is)
    (case c_NOT_THERE => k_is)
    (case c_TOO_LARGE => k_is)
    (case c_NOTHING_TO_RECOVER => k_is)
    (case c_NO_POWER => k_is)
    (case c_CHECKSUM_MODULUS => k_is)
    (case c_END_BYTE => k_is)
    (case c_LONGEST_PART => k_is)
    (case c_BYTES_BESIDE_PAYLOAD => k_is)
    (case c_LINE_FEED => k_is)
    (case c_BLANK => k_is)
    (case c_REMOVAL_SIGN => k_is)
    (case c_MINUS_SIGN => k_is)
    (case c_DIGIT_ZERO => k_is)
    (case c_DIGIT_NINE => k_is)
    (case c_EQUALS_SIGN => k_is)
    (case c_MOST_DIGITS => k_is)
    (case c_LAST_STORE_OPERATION => k_is)
    (case c_LAST_OPERATION => k_is)
    (case b_len => k_is)
    (case b_min => k_is)
    (case b_sorted => k_is)
    (case b_dict => k_is)
    (case b_range => k_is)
    (case b_reversed => k_is)
    (case b_enumerate => k_is)
    (case f_is_key => (refine' TS.funat_mk KX G TS.b_is_key ?a ?l ?c ?k); (case a => k_is); (case l => k_is); (case c => k_is); (case k => k_is))
    (case f_is_value => (refine' TS.funat_mk KX G TS.b_is_value ?a ?l ?c ?k); (case a => k_is); (case l => k_is); (case c => k_is); (case k => k_is))
    (case f_is_power => (refine' TS.funat_mk KX G TS.b_is_power ?a ?l ?c ?k); (case a => k_is); (case l => k_is); (case c => k_is); (case k => k_is))
    (case f_is_count => (refine' TS.funat_mk KX G TS.b_is_count ?a ?l ?c ?k); (case a => k_is); (case l => k_is); (case c => k_is); (case k => k_is))
    (case f_is_file => (refine' TS.funat_mk KX G TS.b_is_file ?a ?l ?c ?k); (case a => k_is); (case l => k_is); (case c => k_is); (case k => k_is))
    (case f_is_byte => (refine' TS.funat_mk KX G TS.b_is_byte ?a ?l ?c ?k); (case a => k_is); (case l => k_is); (case c => k_is); (case k => k_is))
    (case f_natural_of => (refine' TS.funat_mk KX G TS.b_natural_of ?a ?l ?c ?k); (case a => k_is); (case l => k_is); (case c => k_is); (case k => k_is))
    (case f_integer_of => (refine' TS.funat_mk KX G TS.b_integer_of ?a ?l ?c ?k); (case a => k_is); (case l => k_is); (case c => k_is); (case k => k_is))
    (case f_integer_bytes => (refine' TS.funat_mk KX G TS.b_integer_bytes ?a ?l ?c ?k); (case a => k_is); (case l => k_is); (case c => k_is); (case k => k_is))
    (case f_row_bytes => (refine' TS.funat_mk KX G TS.b_row_bytes ?a ?l ?c ?k); (case a => k_is); (case l => k_is); (case c => k_is); (case k => k_is))
    (case f_part_integer => (refine' TS.funat_mk KX G TS.b_part_integer ?a ?l ?c ?k); (case a => k_is); (case l => k_is); (case c => k_is); (case k => k_is))
    (case f_decoded_row => (refine' TS.funat_mk KX G TS.b_decoded_row ?a ?l ?c ?k); (case a => k_is); (case l => k_is); (case c => k_is); (case k => k_is))
    (case f_checksum => (refine' TS.funat_mk KX G TS.b_checksum ?a ?l ?c ?k); (case a => k_is); (case l => k_is); (case c => k_is); (case k => k_is))
    (case f_two_bytes => (refine' TS.funat_mk KX G TS.b_two_bytes ?a ?l ?c ?k); (case a => k_is); (case l => k_is); (case c => k_is); (case k => k_is))
    (case f_number_at => (refine' TS.funat_mk KX G TS.b_number_at ?a ?l ?c ?k); (case a => k_is); (case l => k_is); (case c => k_is); (case k => k_is))
    (case f_frame => (refine' TS.funat_mk KX G TS.b_frame ?a ?l ?c ?k); (case a => k_is); (case l => k_is); (case c => k_is); (case k => k_is))
    (case f_frame_at => (refine' TS.funat_mk KX G TS.b_frame_at ?a ?l ?c ?k); (case a => k_is); (case l => k_is); (case c => k_is); (case k => k_is))
    (case f_valid_frames => (refine' TS.funat_mk KX G TS.b_valid_frames ?a ?l ?c ?k); (case a => k_is); (case l => k_is); (case c => k_is); (case k => k_is))
    (case f_only_row => (refine' TS.funat_mk KX G TS.b_only_row ?a ?l ?c ?k); (case a => k_is); (case l => k_is); (case c => k_is); (case k => k_is))
    (case f_is_change => (refine' TS.funat_mk KX G TS.b_is_change ?a ?l ?c ?k); (case a => k_is); (case l => k_is); (case c => k_is); (case k => k_is))
    (case f_are_changes => (refine' TS.funat_mk KX G TS.b_are_changes ?a ?l ?c ?k); (case a => k_is); (case l => k_is); (case c => k_is); (case k => k_is))
    (case f_changed_entries => (refine' TS.funat_mk KX G TS.b_changed_entries ?a ?l ?c ?k); (case a => k_is); (case l => k_is); (case c => k_is); (case k => k_is))
    (case f_tick_row => (refine' TS.funat_mk KX G TS.b_tick_row ?a ?l ?c ?k); (case a => k_is); (case l => k_is); (case c => k_is); (case k => k_is))
    (case f_is_tick_row => (refine' TS.funat_mk KX G TS.b_is_tick_row ?a ?l ?c ?k); (case a => k_is); (case l => k_is); (case c => k_is); (case k => k_is))
    (case f_entry_numbers => (refine' TS.funat_mk KX G TS.b_entry_numbers ?a ?l ?c ?k); (case a => k_is); (case l => k_is); (case c => k_is); (case k => k_is))
    (case f_checkpoint_row => (refine' TS.funat_mk KX G TS.b_checkpoint_row ?a ?l ?c ?k); (case a => k_is); (case l => k_is); (case c => k_is); (case k => k_is))
    (case f_is_checkpoint_row => (refine' TS.funat_mk KX G TS.b_is_checkpoint_row ?a ?l ?c ?k); (case a => k_is); (case l => k_is); (case c => k_is); (case k => k_is))
    (case f_checkpoint_entries => (refine' TS.funat_mk KX G TS.b_checkpoint_entries ?a ?l ?c ?k); (case a => k_is); (case l => k_is); (case c => k_is); (case k => k_is))
    (case f_read_checkpoint => (refine' TS.funat_mk KX G TS.b_read_checkpoint ?a ?l ?c ?k); (case a => k_is); (case l => k_is); (case c => k_is); (case k => k_is))
    (case f_is_commit_row => (refine' TS.funat_mk KX G TS.b_is_commit_row ?a ?l ?c ?k); (case a => k_is); (case l => k_is); (case c => k_is); (case k => k_is))
    (case f_read_commit => (refine' TS.funat_mk KX G TS.b_read_commit ?a ?l ?c ?k); (case a => k_is); (case l => k_is); (case c => k_is); (case k => k_is))
    (case f_pieces => (refine' TS.funat_mk KX G TS.b_pieces ?a ?l ?c ?k); (case a => k_is); (case l => k_is); (case c => k_is); (case k => k_is))
    (case f_ended_lines => (refine' TS.funat_mk KX G TS.b_ended_lines ?a ?l ?c ?k); (case a => k_is); (case l => k_is); (case c => k_is); (case k => k_is))
    (case f_read_natural => (refine' TS.funat_mk KX G TS.b_read_natural ?a ?l ?c ?k); (case a => k_is); (case l => k_is); (case c => k_is); (case k => k_is))
    (case f_read_integer => (refine' TS.funat_mk KX G TS.b_read_integer ?a ?l ?c ?k); (case a => k_is); (case l => k_is); (case c => k_is); (case k => k_is))
    (case f_read_key => (refine' TS.funat_mk KX G TS.b_read_key ?a ?l ?c ?k); (case a => k_is); (case l => k_is); (case c => k_is); (case k => k_is))
    (case f_read_value => (refine' TS.funat_mk KX G TS.b_read_value ?a ?l ?c ?k); (case a => k_is); (case l => k_is); (case c => k_is); (case k => k_is))
    (case f_read_removal => (refine' TS.funat_mk KX G TS.b_read_removal ?a ?l ?c ?k); (case a => k_is); (case l => k_is); (case c => k_is); (case k => k_is))
    (case f_read_change => (refine' TS.funat_mk KX G TS.b_read_change ?a ?l ?c ?k); (case a => k_is); (case l => k_is); (case c => k_is); (case k => k_is))
    (case f_read_line => (refine' TS.funat_mk KX G TS.b_read_line ?a ?l ?c ?k); (case a => k_is); (case l => k_is); (case c => k_is); (case k => k_is))
    (case f_OldJournal_init => (refine' TS.funm_mk TS.b_OldJournal_init ?a ?i ?l ?c ?k); (case a => k_is); (case i => k_is); (case l => k_is); (case c => k_is); (case k => k_is))
    (case f_read_old_journal => (refine' TS.funat_mk KX G TS.b_read_old_journal ?a ?l ?c ?k); (case a => k_is); (case l => k_is); (case c => k_is); (case k => k_is))
    (case f_import_journal => (refine' TS.funat_mk KX G TS.b_import_journal ?a ?l ?c ?k); (case a => k_is); (case l => k_is); (case c => k_is); (case k => k_is))
    (case f_preview_import => (refine' TS.funat_mk KX G TS.b_preview_import ?a ?l ?c ?k); (case a => k_is); (case l => k_is); (case c => k_is); (case k => k_is))
    (case f_checkpoint_file => (refine' TS.funat_mk KX G TS.b_checkpoint_file ?a ?l ?c ?k); (case a => k_is); (case l => k_is); (case c => k_is); (case k => k_is))
    (case f_journal_file => (refine' TS.funat_mk KX G TS.b_journal_file ?a ?l ?c ?k); (case a => k_is); (case l => k_is); (case c => k_is); (case k => k_is))
    (case f_commit_file => (refine' TS.funat_mk KX G TS.b_commit_file ?a ?l ?c ?k); (case a => k_is); (case l => k_is); (case c => k_is); (case k => k_is))
    (case f_new_files => (refine' TS.funat_mk KX G TS.b_new_files ?a ?l ?c ?k); (case a => k_is); (case l => k_is); (case c => k_is); (case k => k_is))
    (case f_Memory_init => (refine' TS.funm_mk TS.b_Memory_init ?a ?i ?l ?c ?k); (case a => k_is); (case i => k_is); (case l => k_is); (case c => k_is); (case k => k_is))
    (case f_Session_init => (refine' TS.funm_mk TS.b_Session_init ?a ?i ?l ?c ?k); (case a => k_is); (case i => k_is); (case l => k_is); (case c => k_is); (case k => k_is))
    (case f_start_anew => (refine' TS.funm_mk TS.b_start_anew ?a ?i ?l ?c ?k); (case a => k_is); (case i => k_is); (case l => k_is); (case c => k_is); (case k => k_is))
    (case f_read_file => (refine' TS.funat_mk KX G TS.b_read_file ?a ?l ?c ?k); (case a => k_is); (case l => k_is); (case c => k_is); (case k => k_is))
    (case f_corrupt_byte => (refine' TS.funat_mk KX G TS.b_corrupt_byte ?a ?l ?c ?k); (case a => k_is); (case l => k_is); (case c => k_is); (case k => k_is))
    (case f_status => (refine' TS.funat_mk KX G TS.b_status ?a ?l ?c ?k); (case a => k_is); (case l => k_is); (case c => k_is); (case k => k_is))
    (case f_count_frames => (refine' TS.funat_mk KX G TS.b_count_frames ?a ?l ?c ?k); (case a => k_is); (case l => k_is); (case c => k_is); (case k => k_is))
    (case f_list_ticks => (refine' TS.funat_mk KX G TS.b_list_ticks ?a ?l ?c ?k); (case a => k_is); (case l => k_is); (case c => k_is); (case k => k_is))
    (case f_show_checksum => (refine' TS.funat_mk KX G TS.b_show_checksum ?a ?l ?c ?k); (case a => k_is); (case l => k_is); (case c => k_is); (case k => k_is))
    (case f_show_frame => (refine' TS.funat_mk KX G TS.b_show_frame ?a ?l ?c ?k); (case a => k_is); (case l => k_is); (case c => k_is); (case k => k_is))
    (case f_Recovery_init => (refine' TS.funm_mk TS.b_Recovery_init ?a ?i ?l ?c ?k); (case a => k_is); (case i => k_is); (case l => k_is); (case c => k_is); (case k => k_is))
    (case f_replayed_ticks => (refine' TS.funat_mk KX G TS.b_replayed_ticks ?a ?l ?c ?k); (case a => k_is); (case l => k_is); (case c => k_is); (case k => k_is))
    (case f_recovered_side => (refine' TS.funat_mk KX G TS.b_recovered_side ?a ?l ?c ?k); (case a => k_is); (case l => k_is); (case c => k_is); (case k => k_is))
    (case f_commits_in_order => (refine' TS.funat_mk KX G TS.b_commits_in_order ?a ?l ?c ?k); (case a => k_is); (case l => k_is); (case c => k_is); (case k => k_is))
    (case f_recovered => (refine' TS.funat_mk KX G TS.b_recovered ?a ?l ?c ?k); (case a => k_is); (case l => k_is); (case c => k_is); (case k => k_is))
    (case f_writable_count => (refine' TS.funat_mk KX G TS.b_writable_count ?a ?l ?c ?k); (case a => k_is); (case l => k_is); (case c => k_is); (case k => k_is))
    (case f_reset => (refine' TS.funat_mk KX G TS.b_reset ?a ?l ?c ?k); (case a => k_is); (case l => k_is); (case c => k_is); (case k => k_is))
    (case f_written_journals => (refine' TS.funat_mk KX G TS.b_written_journals ?a ?l ?c ?k); (case a => k_is); (case l => k_is); (case c => k_is); (case k => k_is))
    (case f_append_to_journals => (refine' TS.funat_mk KX G TS.b_append_to_journals ?a ?l ?c ?k); (case a => k_is); (case l => k_is); (case c => k_is); (case k => k_is))
    (case f_is_tick_list => (refine' TS.funat_mk KX G TS.b_is_tick_list ?a ?l ?c ?k); (case a => k_is); (case l => k_is); (case c => k_is); (case k => k_is))
    (case f_tick => (refine' TS.funat_mk KX G TS.b_tick ?a ?l ?c ?k); (case a => k_is); (case l => k_is); (case c => k_is); (case k => k_is))
    (case f_begin_checkpoint => (refine' TS.funat_mk KX G TS.b_begin_checkpoint ?a ?l ?c ?k); (case a => k_is); (case l => k_is); (case c => k_is); (case k => k_is))
    (case f_write_checkpoint => (refine' TS.funat_mk KX G TS.b_write_checkpoint ?a ?l ?c ?k); (case a => k_is); (case l => k_is); (case c => k_is); (case k => k_is))
    (case f_commit_checkpoint => (refine' TS.funat_mk KX G TS.b_commit_checkpoint ?a ?l ?c ?k); (case a => k_is); (case l => k_is); (case c => k_is); (case k => k_is))
    (case f_cut_power => (refine' TS.funat_mk KX G TS.b_cut_power ?a ?l ?c ?k); (case a => k_is); (case l => k_is); (case c => k_is); (case k => k_is))
    (case f_recover => (refine' TS.funat_mk KX G TS.b_recover ?a ?l ?c ?k); (case a => k_is); (case l => k_is); (case c => k_is); (case k => k_is))
    (case f_get_value => (refine' TS.funat_mk KX G TS.b_get_value ?a ?l ?c ?k); (case a => k_is); (case l => k_is); (case c => k_is); (case k => k_is))
    (case f_contents => (refine' TS.funat_mk KX G TS.b_contents ?a ?l ?c ?k); (case a => k_is); (case l => k_is); (case c => k_is); (case k => k_is))
    (case f_Reader_init => (refine' TS.funm_mk TS.b_Reader_init ?a ?i ?l ?c ?k); (case a => k_is); (case i => k_is); (case l => k_is); (case c => k_is); (case k => k_is))
    (case f_has_more => (refine' TS.funm_mk TS.b_has_more ?a ?i ?l ?c ?k); (case a => k_is); (case i => k_is); (case l => k_is); (case c => k_is); (case k => k_is))
    (case f_take_number => (refine' TS.funm_mk TS.b_take_number ?a ?i ?l ?c ?k); (case a => k_is); (case i => k_is); (case l => k_is); (case c => k_is); (case k => k_is))
    (case f_take_row => (refine' TS.funm_mk TS.b_take_row ?a ?i ?l ?c ?k); (case a => k_is); (case i => k_is); (case l => k_is); (case c => k_is); (case k => k_is))
    (case f_store_answer => (refine' TS.funat_mk KX G TS.b_store_answer ?a ?l ?c ?k); (case a => k_is); (case l => k_is); (case c => k_is); (case k => k_is))
    (case f_corruption_answer => (refine' TS.funat_mk KX G TS.b_corruption_answer ?a ?l ?c ?k); (case a => k_is); (case l => k_is); (case c => k_is); (case k => k_is))
    (case f_inspection_answer => (refine' TS.funat_mk KX G TS.b_inspection_answer ?a ?l ?c ?k); (case a => k_is); (case l => k_is); (case c => k_is); (case k => k_is))
    (case f_call_answer => (refine' TS.funat_mk KX G TS.b_call_answer ?a ?l ?c ?k); (case a => k_is); (case l => k_is); (case c => k_is); (case k => k_is))
    (case f_answers => (refine' TS.funat_mk KX G TS.b_answers ?a ?l ?c ?k); (case a => k_is); (case l => k_is); (case c => k_is); (case k => k_is))
  case S =>
    intro K H xs a hO hwi hask hx
    cases hx with
    | cons h1 h2 =>
      cases h2
      cases h1 with
      | lst hs ha =>
        have e := L2.ints_dw a.1 _ ha
        subst e
        exact ⟨_, rfl, _, a.1, rfl, hs, hask, fun H' p hp => .lst (L2.SqL.of hp) (L2.dw_ints _)⟩
