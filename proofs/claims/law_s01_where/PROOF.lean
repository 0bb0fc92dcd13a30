import PyProof.Rows.All
import Wide.All
import OpenK.AllK
import Wide.FinOn
import PyProof.EqAt
import PyProof.EqKinds
import PyProof.TupleCall
import Open.SpecLaws
import KE.OsGo
import HandS.ForSpec
import HandS.Lambda
import HandS.ExcInit
import HandS.ExcField
import HandS.SortKw
import HandS.IsInst
import HandS.Comp
import HandS.Text
import HandS.Iter
import HandS.Walk
import KE.DataMinMax
import HandS.TupLe
import HandS.Zip
import HandS.Rev
import HandS.More
import PySem.Challenge.RW_nestarray_s01_where
set_option Elab.async false
set_option linter.all false
set_option maxRecDepth 100000
set_option maxHeartbeats 4000000
namespace NA
open Vaarrm

/-! ### the program's tokens, by positions -/
def blanksEnd (t : List Nat) (i : Nat) : Nat := i + ((t.drop i).takeWhile blank).length
def digitsEnd (t : List Nat) (i : Nat) : Nat := i + ((t.drop i).takeWhile digit).length
def isSign (c : Nat) : Bool := c == 91 || (c == 58 || c == 93)
def first (t : List Nat) (s : Nat) : Nat := if t.getD s 0 = 95 then s + 1 else s
def tokenEnd (t : List Nat) (s : Nat) : Nat :=
  if isSign (t.getD s 0) = true then s + 1
  else if digitsEnd t (first t s) = first t s then s
  else if t.getD (first t s) 0 = 48 ∧ 1 < digitsEnd t (first t s) - s then s
  else digitsEnd t (first t s)
def toksF : Nat → List Nat → Nat → List (Nat × Nat)
  | 0, _, _ => []
  | k + 1, t, s => if s < t.length then (s, tokenEnd t s) :: (if tokenEnd t s = s then [] else toksF k t (blanksEnd t (tokenEnd t s))) else []
def toksAt (t : List Nat) (s : Nat) : List (Nat × Nat) := toksF (t.length + 1 - s) t s
def toks (t : List Nat) : List (Nat × Nat) := toksAt t (blanksEnd t 0)
def numTold (t : List Nat) (s e : Nat) : Int :=
  if t.getD s 0 = 95 then -((valueOf ((t.drop (first t s)).take (e - first t s)) : Nat) : Int) else ((valueOf ((t.drop (first t s)).take (e - first t s)) : Nat) : Int)
def tokOf (t : List Nat) (s e : Nat) : Token := if isSign (t.getD s 0) = true then .sign (t.getD s 0) else .num (numTold t s e)
def specToks (t : List Nat) : List (Nat × Nat) → Toks
  | [] => [(t.length, .none)]
  | x :: r => if x.2 = x.1 then [(x.1, .none)] else (x.1, tokOf t x.1 x.2) :: specToks t r

theorem takeWhile_len_le {α : Type} (p : α → Bool) : ∀ l : List α, (l.takeWhile p).length ≤ l.length
  | [] => Nat.le_refl _
  | a :: r => by
    rw [List.takeWhile_cons]
    split
    · simp only [List.length_cons]; exact Nat.succ_le_succ (takeWhile_len_le p r)
    · exact Nat.zero_le _
theorem digitsEnd_le {t : List Nat} {i : Nat} (h : i ≤ t.length) : digitsEnd t i ≤ t.length := by
  unfold digitsEnd
  have := takeWhile_len_le digit (t.drop i)
  rw [List.length_drop] at this
  omega
theorem digitsEnd_ge (t : List Nat) (i : Nat) : i ≤ digitsEnd t i := Nat.le_add_right _ _
theorem blanksEnd_le {t : List Nat} {i : Nat} (h : i ≤ t.length) : blanksEnd t i ≤ t.length := by
  unfold blanksEnd
  have := takeWhile_len_le blank (t.drop i)
  rw [List.length_drop] at this
  omega
theorem blanksEnd_ge (t : List Nat) (i : Nat) : i ≤ blanksEnd t i := Nat.le_add_right _ _
theorem first_ge (t : List Nat) (s : Nat) : s ≤ first t s := by unfold first; split <;> omega
theorem first_le (t : List Nat) (s : Nat) : first t s ≤ s + 1 := by unfold first; split <;> omega
theorem tokenEnd_ge (t : List Nat) (s : Nat) : s ≤ tokenEnd t s := by
  unfold tokenEnd
  have h1 := first_ge t s
  have h2 := digitsEnd_ge t (first t s)
  split
  · omega
  · split
    · omega
    · split <;> omega
theorem tokenEnd_le {t : List Nat} {s : Nat} (h : s < t.length) : tokenEnd t s ≤ t.length := by
  unfold tokenEnd
  have h1 := first_le t s
  have h2 := digitsEnd_le (t := t) (i := first t s) (by omega)
  split
  · omega
  · split
    · omega
    · split <;> omega
theorem toksF_more : ∀ (k k' : Nat) (t : List Nat) (s : Nat), t.length < s + k → t.length < s + k' → toksF k t s = toksF k' t s
  | 0, 0, _, _, _, _ => rfl
  | 0, k' + 1, t, s, h, _ => by
    show [] = if s < t.length then _ else _
    rw [if_neg (by omega)]
  | k + 1, 0, t, s, _, h => by
    show (if s < t.length then _ else _) = []
    rw [if_neg (by omega)]
  | k + 1, k' + 1, t, s, h, h' => by
    show (if s < t.length then (s, tokenEnd t s) :: (if tokenEnd t s = s then [] else toksF k t (blanksEnd t (tokenEnd t s))) else []) = if s < t.length then (s, tokenEnd t s) :: (if tokenEnd t s = s then [] else toksF k' t (blanksEnd t (tokenEnd t s))) else []
    by_cases c : tokenEnd t s = s
    · rw [if_pos c, if_pos c]
    · have h1 := tokenEnd_ge t s
      have h2 := blanksEnd_ge t (tokenEnd t s)
      rw [if_neg c, if_neg c, toksF_more k k' t _ (by omega) (by omega)]
theorem toksAt_end {t : List Nat} {s : Nat} (h : ¬ s < t.length) : toksAt t s = [] := by
  unfold toksAt
  cases e : t.length + 1 - s with
  | zero => rfl
  | succ k => exact if_neg h
theorem toksAt_bad {t : List Nat} {s : Nat} (h : s < t.length) (c : tokenEnd t s = s) : toksAt t s = [(s, s)] := by
  unfold toksAt
  obtain ⟨k, e⟩ : ∃ k, t.length + 1 - s = k + 1 := ⟨t.length - s, by omega⟩
  rw [e]
  show (if s < t.length then (s, tokenEnd t s) :: (if tokenEnd t s = s then [] else toksF k t (blanksEnd t (tokenEnd t s))) else []) = _
  rw [if_pos h, if_pos c, c]
theorem toksAt_step {t : List Nat} {s : Nat} (h : s < t.length) (c : tokenEnd t s ≠ s) : toksAt t s = (s, tokenEnd t s) :: toksAt t (blanksEnd t (tokenEnd t s)) := by
  unfold toksAt
  obtain ⟨k, e⟩ : ∃ k, t.length + 1 - s = k + 1 := ⟨t.length - s, by omega⟩
  rw [e]
  show (if s < t.length then (s, tokenEnd t s) :: (if tokenEnd t s = s then [] else toksF k t (blanksEnd t (tokenEnd t s))) else []) = _
  have h1 := tokenEnd_ge t s
  have h2 := blanksEnd_ge t (tokenEnd t s)
  rw [if_pos h, if_neg c, toksF_more k (t.length + 1 - blanksEnd t (tokenEnd t s)) t _ (by omega) (by omega)]

/-! ### the text by its rest -/
theorem drop_cons {t : List Nat} {s : Nat} (h : s < t.length) : t.drop s = t.getD s 0 :: t.drop (s + 1) := by
  rw [List.drop_eq_getElem_cons h, List.getD_eq_getElem?_getD, List.getElem?_eq_getElem h]
  rfl
theorem drop_takeWhile {α : Type} (p : α → Bool) : ∀ l : List α, l.drop (l.takeWhile p).length = l.dropWhile p
  | [] => rfl
  | a :: r => by
    rw [List.takeWhile_cons, List.dropWhile_cons]
    split
    · exact drop_takeWhile p r
    · rfl
theorem take_takeWhile {α : Type} (p : α → Bool) : ∀ l : List α, l.take (l.takeWhile p).length = l.takeWhile p
  | [] => rfl
  | a :: r => by
    rw [List.takeWhile_cons]
    split
    · simp only [List.length_cons, List.take_succ_cons]; rw [take_takeWhile p r]
    · rfl
theorem blanksEnd_blank {t : List Nat} {p : Nat} (h : p < t.length) (b : blank (t.getD p 0) = true) : blanksEnd t p = blanksEnd t (p + 1) := by
  unfold blanksEnd
  rw [drop_cons h, List.takeWhile_cons, if_pos b, List.length_cons]
  omega
theorem blanksEnd_not {t : List Nat} {p : Nat} (h : p < t.length) (b : ¬ blank (t.getD p 0) = true) : blanksEnd t p = p := by
  unfold blanksEnd
  rw [drop_cons h, List.takeWhile_cons, if_neg b]
  rfl
theorem blanksEnd_end {t : List Nat} {p : Nat} (h : ¬ p < t.length) : blanksEnd t p = p := by
  unfold blanksEnd
  rw [List.drop_of_length_le (by omega)]
  rfl
theorem digitsEnd_digit {t : List Nat} {p : Nat} (h : p < t.length) (b : digit (t.getD p 0) = true) : digitsEnd t p = digitsEnd t (p + 1) := by
  unfold digitsEnd
  rw [drop_cons h, List.takeWhile_cons, if_pos b, List.length_cons]
  omega
theorem digitsEnd_not {t : List Nat} {p : Nat} (h : p < t.length) (b : ¬ digit (t.getD p 0) = true) : digitsEnd t p = p := by
  unfold digitsEnd
  rw [drop_cons h, List.takeWhile_cons, if_neg b]
  rfl
theorem digitsEnd_end {t : List Nat} {p : Nat} (h : ¬ p < t.length) : digitsEnd t p = p := by
  unfold digitsEnd
  rw [List.drop_of_length_le (by omega)]
  rfl
theorem getD_digits {t : List Nat} {f : Nat} (h : f < t.length) : ((t.drop f).takeWhile digit).head? = if digit (t.getD f 0) = true then some (t.getD f 0) else none := by
  rw [drop_cons h, List.takeWhile_cons]
  split <;> rfl
/-- the specification's tokens are the program's -/
theorem lex : ∀ (k : Nat) (t : List Nat) (p : Nat), p ≤ t.length → t.length - p < k → tokensIn t.length k (t.drop p) = specToks t (toksAt t (blanksEnd t p))
  | 0, _, _, _, h => absurd h (Nat.not_lt_zero _)
  | k + 1, t, p, hp, hk => by
    by_cases h : p < t.length
    · rw [drop_cons h]
      have hl : (t.drop (p + 1)).length = t.length - (p + 1) := List.length_drop ..
      simp only [tokensIn]
      have ep : t.length - ((t.drop (p + 1)).length + 1) = p := by rw [hl]; omega
      rw [ep]
      by_cases hb : blank (t.getD p 0) = true
      · rw [if_pos hb, lex k t (p + 1) h (by omega), blanksEnd_blank h hb]
      · rw [if_neg hb, blanksEnd_not h hb]
        by_cases hs : t.getD p 0 = 91 ∨ t.getD p 0 = 58 ∨ t.getD p 0 = 93
        · have hs' : isSign (t.getD p 0) = true := by
            unfold isSign
            rcases hs with e | e | e <;> rw [e] <;> rfl
          have ht : tokenEnd t p = p + 1 := by unfold tokenEnd; rw [if_pos hs']
          rw [if_pos hs, lex k t (p + 1) h (by omega), toksAt_step h (by rw [ht]; omega), ht]
          show _ = if p + 1 = p then _ else _
          rw [if_neg (by omega)]
          show _ = (p, tokOf t p (p + 1)) :: _
          unfold tokOf
          rw [if_pos hs']
        · have hs' : ¬ isSign (t.getD p 0) = true := by
            intro e
            unfold isSign at e
            simp only [Bool.or_eq_true, beq_iff_eq] at e
            exact hs e
          rw [if_neg hs]
          -- the digits
          have eds : (if t.getD p 0 = 95 then (t.drop (p + 1)).takeWhile digit else (t.getD p 0 :: t.drop (p + 1)).takeWhile digit) = (t.drop (first t p)).takeWhile digit := by
            unfold first
            by_cases c : t.getD p 0 = 95
            · rw [if_pos c, if_pos c]
            · rw [if_neg c, if_neg c, ← drop_cons h]
          have ers : (if t.getD p 0 = 95 then (t.drop (p + 1)).dropWhile digit else (t.getD p 0 :: t.drop (p + 1)).dropWhile digit) = t.drop (digitsEnd t (first t p)) := by
            have e0 : t.drop (digitsEnd t (first t p)) = (t.drop (first t p)).dropWhile digit := by
              unfold digitsEnd
              rw [← List.drop_drop, drop_takeWhile]
            rw [e0]
            unfold first
            by_cases c : t.getD p 0 = 95
            · rw [if_pos c, if_pos c]
            · rw [if_neg c, if_neg c, ← drop_cons h]
          rw [eds, ers]
          have hfle := first_le t p
          have hfge := first_ge t p
          have hde := digitsEnd_ge t (first t p)
          have hdl := digitsEnd_le (t := t) (i := first t p) (by omega)
          have elen : ((t.drop (first t p)).takeWhile digit).length = digitsEnd t (first t p) - first t p := by unfold digitsEnd; omega
          by_cases c1 : digitsEnd t (first t p) = first t p
          · -- no digits
            have ht : tokenEnd t p = p := by unfold tokenEnd; rw [if_neg hs', if_pos c1]
            have en : (t.drop (first t p)).takeWhile digit = [] := List.length_eq_zero_iff.mp (by rw [elen]; omega)
            rw [en, if_neg (by simp), toksAt_bad h ht]
            show _ = if p = p then _ else _
            rw [if_pos rfl]
          · have hfl : first t p < t.length := by omega
            have hhead := getD_digits hfl
            have hdig : digit (t.getD (first t p) 0) = true := by
              by_cases hd : digit (t.getD (first t p) 0) = true
              · exact hd
              · rw [if_neg hd] at hhead
                have : (t.drop (first t p)).takeWhile digit = [] := List.head?_eq_none_iff.mp hhead
                rw [this] at elen
                simp at elen
                omega
            rw [if_pos hdig] at hhead
            by_cases c2 : t.getD (first t p) 0 = 48 ∧ 1 < digitsEnd t (first t p) - p
            · have ht : tokenEnd t p = p := by unfold tokenEnd; rw [if_neg hs', if_neg c1, if_pos c2]
              rw [if_neg, toksAt_bad h ht]
              · show _ = if p = p then _ else _
                rw [if_pos rfl]
              · rintro ⟨_, _, q, q2⟩
                rw [hhead, c2.1] at q
                rcases q with q | q
                · apply q2
                  by_cases c : t.getD p 0 = 95
                  · refine ⟨c, ?_⟩
                    obtain ⟨x, e⟩ : ∃ x, (t.drop (first t p)).takeWhile digit = [x] := List.length_eq_one_iff.mp q
                    rw [e] at hhead ⊢
                    have := Option.some.inj hhead
                    rw [this, c2.1]
                  · have e1 : first t p = p := by unfold first; rw [if_neg c]
                    rw [elen] at q
                    omega
                · exact q rfl
            · have ht : tokenEnd t p = digitsEnd t (first t p) := by unfold tokenEnd; rw [if_neg hs', if_neg c1, if_neg c2]
              have hne : tokenEnd t p ≠ p := by omega
              rw [if_pos, lex k t _ hdl (by omega), toksAt_step h hne, ht]
              · show _ = if digitsEnd t (first t p) = p then _ else _
                rw [if_neg (show ¬ digitsEnd t (first t p) = p by omega)]
                show _ = (p, tokOf t p (digitsEnd t (first t p))) :: _
                unfold tokOf numTold
                have ev : (t.drop (first t p)).take (digitsEnd t (first t p) - first t p) = (t.drop (first t p)).takeWhile digit := by rw [← elen]; exact take_takeWhile digit _
                rw [if_neg hs', ev]
              · refine ⟨?_, ?_, ?_, ?_⟩
                · by_cases c : t.getD p 0 = 95
                  · exact .inl c
                  · right
                    have e1 : first t p = p := by unfold first; rw [if_neg c]
                    rw [e1] at hdig
                    exact hdig
                · cases e : (t.drop (first t p)).takeWhile digit with
                  | nil => rw [e] at elen; simp at elen; omega
                  | cons a r => rfl
                · rw [hhead, elen]
                  by_cases c : t.getD (first t p) 0 = 48
                  · left
                    have : ¬ 1 < digitsEnd t (first t p) - p := fun z => c2 ⟨c, z⟩
                    omega
                  · right
                    intro z
                    exact c (Option.some.inj z)
                · rintro ⟨c, q⟩
                  rw [q] at hhead elen
                  have e48 : t.getD (first t p) 0 = 48 := (Option.some.inj hhead).symm
                  have e1 : first t p = p + 1 := by unfold first; rw [if_pos c]
                  have : digitsEnd t (first t p) - first t p = 1 := elen.symm
                  exact c2 ⟨e48, by omega⟩
    · have e : p = t.length := by omega
      rw [blanksEnd_end h, toksAt_end h, e, List.drop_length]
      rfl
theorem tokens_eq (t : List Nat) : tokens t = specToks t (toks t) := by
  have := lex (t.length + 1) t 0 (Nat.zero_le _) (by omega)
  rw [List.drop_zero] at this
  exact this

/-! ### the form: one machine for the specification and the program -/
inductive PSt where
  | val (o : List (List Int × List Told))
  | ext (xs : List Int) (o : List (List Int × List Told))
  | fin (x : Told)
def stp : PSt → Token → Option PSt
  | .val [], .num n => some (.fin (.num n))
  | .val ((s, l) :: o), .num n => some (.val ((s, .num n :: l) :: o))
  | .val o, .sign c => if c = 91 then some (.ext [] o) else if c = 93 then (match o with
    | [] => none
    | (s, l) :: [] => some (.fin (.arr s l.reverse))
    | (s, l) :: (t, m) :: o => some (.val ((t, .arr s l.reverse :: m) :: o))) else none
  | .val _, .none => none
  | .ext xs o, .num n => if n < 0 then none else some (.ext (n :: xs) o)
  | .ext xs o, .sign c => if c = 58 then some (.val ((xs.reverse, []) :: o)) else none
  | .ext _ _, .none => none
  | .fin _, _ => none
def runP (t : List Nat) : PSt → List (Nat × Nat) → Except Nat Told
  | .fin x, [] => .ok x
  | _, [] => .error t.length
  | st, x :: r => if x.2 = x.1 then .error x.1 else match stp st (tokOf t x.1 x.2) with
    | none => .error x.1
    | some st' => runP t st' r
theorem runP_cons (t : List Nat) (st : PSt) (x : Nat × Nat) (r : List (Nat × Nat)) : runP t st (x :: r) = if x.2 = x.1 then .error x.1 else match stp st (tokOf t x.1 x.2) with
    | none => .error x.1
    | some st' => runP t st' r := by
  cases st <;> rfl
theorem runP_bad {t : List Nat} {st : PSt} {x : Nat × Nat} {r : List (Nat × Nat)} (h : x.2 = x.1) : runP t st (x :: r) = .error x.1 := by
  rw [runP_cons, if_pos h]
theorem runP_none {t : List Nat} {st : PSt} {x : Nat × Nat} {r : List (Nat × Nat)} (h : ¬ x.2 = x.1) (e : stp st (tokOf t x.1 x.2) = none) : runP t st (x :: r) = .error x.1 := by
  rw [runP_cons, if_neg h, e]
theorem runP_some {t : List Nat} {st st' : PSt} {x : Nat × Nat} {r : List (Nat × Nat)} (h : ¬ x.2 = x.1) (e : stp st (tokOf t x.1 x.2) = some st') : runP t st (x :: r) = runP t st' r := by
  rw [runP_cons, if_neg h, e]
theorem specToks_bad {t : List Nat} {x : Nat × Nat} {r : List (Nat × Nat)} (h : x.2 = x.1) : specToks t (x :: r) = [(x.1, .none)] := if_pos h
theorem specToks_ok {t : List Nat} {x : Nat × Nat} {r : List (Nat × Nat)} (h : ¬ x.2 = x.1) : specToks t (x :: r) = (x.1, tokOf t x.1 x.2) :: specToks t r := if_neg h
theorem tokOf_not_none (t : List Nat) (s e : Nat) : tokOf t s e ≠ .none := by
  unfold tokOf
  split <;> intro h <;> cases h
theorem specToks_ne (t : List Nat) (r : List (Nat × Nat)) : (specToks t r).isEmpty = false := by
  cases r with
  | nil => rfl
  | cons x r =>
    by_cases h : x.2 = x.1
    · rw [specToks_bad h]; rfl
    · rw [specToks_ok h]; rfl

theorem ext_run (t : List Nat) : ∀ (r : List (Nat × Nat)) (xs : List Int) (o : List (List Int × List Told)),
    (∀ p, extents (specToks t r) = .error p → runP t (.ext xs o) r = .error p) ∧
    (∀ y, extents (specToks t r) = .ok y → ∃ r', y.2 = specToks t r' ∧ r'.length < r.length ∧ (∀ z ∈ r', z ∈ r) ∧ runP t (.ext xs o) r = runP t (.val ((xs.reverse ++ y.1, []) :: o)) r')
  | [], xs, o => by
    refine ⟨fun p h => ?_, fun y h => ?_⟩
    · have e : t.length = p := Except.error.inj h
      rw [← e]; rfl
    · cases h
  | x :: r, xs, o => by
    by_cases hx : x.2 = x.1
    · rw [specToks_bad hx]
      refine ⟨fun p h => ?_, fun y h => ?_⟩
      · have e : x.1 = p := Except.error.inj h
        rw [← e]; exact runP_bad hx
      · cases h
    · rw [specToks_ok hx]
      cases ht : tokOf t x.1 x.2 with
      | none => exact absurd ht (tokOf_not_none _ _ _)
      | sign c =>
        by_cases hc : c = 58
        · have e1 : extents ((x.1, Token.sign c) :: specToks t r) = .ok ([], specToks t r) := by
            show (if c = 58 then _ else _) = _
            rw [if_pos hc]
          rw [e1]
          refine ⟨fun p h => (by cases h), fun y h => ?_⟩
          have e := Except.ok.inj h
          subst e
          refine ⟨r, rfl, by simp, fun z hz => List.mem_cons_of_mem _ hz, ?_⟩
          rw [List.append_nil]
          refine runP_some hx ?_
          rw [ht]
          show (if c = 58 then _ else _) = _
          rw [if_pos hc]
        · have e1 : extents ((x.1, Token.sign c) :: specToks t r) = .error x.1 := by
            show (if c = 58 then _ else _) = _
            rw [if_neg hc]
          rw [e1]
          refine ⟨fun p h => ?_, fun y h => by cases h⟩
          have e : x.1 = p := Except.error.inj h
          rw [← e]
          refine runP_none hx ?_
          rw [ht]
          show (if c = 58 then _ else _) = _
          rw [if_neg hc]
      | num n =>
        by_cases hn : n < 0
        · have e1 : extents ((x.1, Token.num n) :: specToks t r) = .error x.1 := by
            simp only [extents]
            rw [if_pos hn]
          rw [e1]
          refine ⟨fun p h => ?_, fun y h => by cases h⟩
          have e : x.1 = p := Except.error.inj h
          rw [← e]
          refine runP_none hx ?_
          rw [ht]
          show (if n < 0 then _ else _) = _
          rw [if_pos hn]
        · have hs : runP t (.ext xs o) (x :: r) = runP t (.ext (n :: xs) o) r := by
            refine runP_some hx ?_
            rw [ht]
            show (if n < 0 then _ else _) = _
            rw [if_neg hn]
          rw [hs]
          have ih := ext_run t r (n :: xs) o
          cases e0 : extents (specToks t r) with
          | error q =>
            have e1 : extents ((x.1, Token.num n) :: specToks t r) = .error q := by
              simp only [extents]
              rw [if_neg hn, e0]
            rw [e1]
            refine ⟨fun p h => ?_, fun y h => by cases h⟩
            have e : q = p := Except.error.inj h
            rw [← e]
            exact ih.1 q e0
          | ok y0 =>
            have e1 : extents ((x.1, Token.num n) :: specToks t r) = .ok (n :: y0.1, y0.2) := by
              simp only [extents]
              rw [if_neg hn, e0]
            rw [e1]
            refine ⟨fun p h => (by cases h), fun y h => ?_⟩
            have e := Except.ok.inj h
            subst e
            obtain ⟨r', q1, q2, q3, q4⟩ := ih.2 y0 e0
            refine ⟨r', q1, by simp only [List.length_cons]; omega, fun z hz => List.mem_cons_of_mem _ (q3 z hz), ?_⟩
            rw [q4, List.reverse_cons, List.append_assoc]
            rfl

theorem val_run (t : List Nat) : ∀ (k : Nat) (r : List (Nat × Nat)) (o : List (List Int × List Told)), r.length < k →
    (∀ p, Vaarrm.values k o (specToks t r) = .error p → runP t (.val o) r = .error p) ∧
    (∀ y, Vaarrm.values k o (specToks t r) = .ok y → ∃ r', y.2 = specToks t r' ∧ (∀ z ∈ r', z ∈ r) ∧ runP t (.val o) r = runP t (.fin y.1) r')
  | 0, _, _, h => absurd h (Nat.not_lt_zero _)
  | k + 1, [], o, _ => by
    refine ⟨fun p h => ?_, fun y h => ?_⟩
    · have e : t.length = p := Except.error.inj h
      rw [← e]; rfl
    · cases h
  | k + 1, x :: r, o, hk => by
    have hk' : r.length < k := by simp only [List.length_cons] at hk; omega
    by_cases hx : x.2 = x.1
    · rw [specToks_bad hx]
      refine ⟨fun p h => ?_, fun y h => ?_⟩
      · have e : x.1 = p := Except.error.inj h
        rw [← e]; exact runP_bad hx
      · cases h
    · rw [specToks_ok hx]
      cases ht : tokOf t x.1 x.2 with
      | none => exact absurd ht (tokOf_not_none _ _ _)
      | num n =>
        cases o with
        | nil =>
          have e1 : Vaarrm.values (k + 1) [] ((x.1, Token.num n) :: specToks t r) = .ok (.num n, specToks t r) := by simp only [Vaarrm.values]
          rw [e1]
          refine ⟨fun p h => (by cases h), fun y h => ?_⟩
          have e := Except.ok.inj h
          subst e
          refine ⟨r, rfl, fun z hz => List.mem_cons_of_mem _ hz, ?_⟩
          refine runP_some hx ?_
          rw [ht]; rfl
        | cons a o =>
          obtain ⟨s, l⟩ := a
          have e1 : Vaarrm.values (k + 1) ((s, l) :: o) ((x.1, Token.num n) :: specToks t r) = Vaarrm.values k ((s, .num n :: l) :: o) (specToks t r) := by
            simp only [Vaarrm.values]
            rw [if_neg (by rw [specToks_ne]; exact Bool.false_ne_true)]
          have hs : runP t (.val ((s, l) :: o)) (x :: r) = runP t (.val ((s, .num n :: l) :: o)) r := by
            refine runP_some hx ?_
            rw [ht]; rfl
          rw [e1, hs]
          have ih := val_run t k r ((s, .num n :: l) :: o) hk'
          refine ⟨ih.1, fun y h => ?_⟩
          obtain ⟨r', q1, q2, q3⟩ := ih.2 y h
          exact ⟨r', q1, fun z hz => List.mem_cons_of_mem _ (q2 z hz), q3⟩
      | sign c =>
        by_cases h91 : c = 91
        · have hs : runP t (.val o) (x :: r) = runP t (.ext [] o) r := by
            refine runP_some hx ?_
            rw [ht, h91]
            cases o <;> rfl
          rw [hs]
          have ie := ext_run t r [] o
          cases e0 : extents (specToks t r) with
          | error q =>
            have e1 : Vaarrm.values (k + 1) o ((x.1, Token.sign c) :: specToks t r) = .error q := by
              simp only [Vaarrm.values]
              rw [if_pos h91, e0]
            rw [e1]
            refine ⟨fun p h => ?_, fun y h => by cases h⟩
            have e : q = p := Except.error.inj h
            rw [← e]
            exact ie.1 q e0
          | ok y0 =>
            obtain ⟨r', q1, q2, q3, q4⟩ := ie.2 y0 e0
            have e1 : Vaarrm.values (k + 1) o ((x.1, Token.sign c) :: specToks t r) = Vaarrm.values k ((y0.1, []) :: o) (specToks t r') := by
              simp only [Vaarrm.values]
              rw [if_pos h91, e0, ← q1]
            rw [e1, q4]
            have ih := val_run t k r' ((y0.1, []) :: o) (by omega)
            refine ⟨ih.1, fun y h => ?_⟩
            obtain ⟨r'', w1, w2, w3⟩ := ih.2 y h
            exact ⟨r'', w1, fun z hz => List.mem_cons_of_mem _ (q3 z (w2 z hz)), w3⟩
        · by_cases h93 : c = 93
          · cases o with
            | nil =>
              have e1 : Vaarrm.values (k + 1) [] ((x.1, Token.sign c) :: specToks t r) = .error x.1 := by
                simp only [Vaarrm.values]
                rw [if_neg h91, if_pos h93]
              rw [e1]
              refine ⟨fun p h => ?_, fun y h => by cases h⟩
              have e : x.1 = p := Except.error.inj h
              rw [← e]
              refine runP_none hx ?_
              rw [ht, h93]; rfl
            | cons a o =>
              obtain ⟨s, l⟩ := a
              cases o with
              | nil =>
                have e1 : Vaarrm.values (k + 1) [(s, l)] ((x.1, Token.sign c) :: specToks t r) = .ok (.arr s l.reverse, specToks t r) := by
                  simp only [Vaarrm.values]
                  rw [if_neg h91, if_pos h93]
                rw [e1]
                refine ⟨fun p h => (by cases h), fun y h => ?_⟩
                have e := Except.ok.inj h
                subst e
                refine ⟨r, rfl, fun z hz => List.mem_cons_of_mem _ hz, ?_⟩
                refine runP_some hx ?_
                rw [ht, h93]; rfl
              | cons b o =>
                obtain ⟨u, m⟩ := b
                have e1 : Vaarrm.values (k + 1) ((s, l) :: (u, m) :: o) ((x.1, Token.sign c) :: specToks t r) = Vaarrm.values k ((u, .arr s l.reverse :: m) :: o) (specToks t r) := by
                  simp only [Vaarrm.values]
                  rw [if_neg h91, if_pos h93]
                have hs : runP t (.val ((s, l) :: (u, m) :: o)) (x :: r) = runP t (.val ((u, .arr s l.reverse :: m) :: o)) r := by
                  refine runP_some hx ?_
                  rw [ht, h93]; rfl
                rw [e1, hs]
                have ih := val_run t k r ((u, .arr s l.reverse :: m) :: o) hk'
                refine ⟨ih.1, fun y h => ?_⟩
                obtain ⟨r', q1, q2, q3⟩ := ih.2 y h
                exact ⟨r', q1, fun z hz => List.mem_cons_of_mem _ (q2 z hz), q3⟩
          · have e1 : Vaarrm.values (k + 1) o ((x.1, Token.sign c) :: specToks t r) = .error x.1 := by
              simp only [Vaarrm.values]
              rw [if_neg h91, if_neg h93]
            rw [e1]
            refine ⟨fun p h => ?_, fun y h => by cases h⟩
            have e : x.1 = p := Except.error.inj h
            rw [← e]
            refine runP_none hx ?_
            rw [ht]
            cases o with
            | nil =>
              show (if c = 91 then _ else if c = 93 then _ else _) = _
              rw [if_neg h91, if_neg h93]
            | cons a o =>
              show (if c = 91 then _ else if c = 93 then _ else _) = _
              rw [if_neg h91, if_neg h93]

theorem toksF_lt : ∀ (k : Nat) (t : List Nat) (s : Nat) (z : Nat × Nat), z ∈ toksF k t s → z.1 < t.length
  | 0, _, _, _, h => by cases h
  | k + 1, t, s, z, h => by
    have h : z ∈ if s < t.length then (s, tokenEnd t s) :: (if tokenEnd t s = s then [] else toksF k t (blanksEnd t (tokenEnd t s))) else [] := h
    by_cases c : s < t.length
    · rw [if_pos c] at h
      rcases List.mem_cons.mp h with e | e
      · rw [e]; exact c
      · by_cases c2 : tokenEnd t s = s
        · rw [if_pos c2] at e; cases e
        · rw [if_neg c2] at e; exact toksF_lt k t _ z e
    · rw [if_neg c] at h; cases h
theorem toksF_len : ∀ (k : Nat) (t : List Nat) (s : Nat), s ≤ t.length → (toksF k t s).length + s ≤ t.length
  | 0, _, _, h => by simpa [toksF] using h
  | k + 1, t, s, h => by
    show (if s < t.length then (s, tokenEnd t s) :: (if tokenEnd t s = s then [] else toksF k t (blanksEnd t (tokenEnd t s))) else []).length + s ≤ _
    by_cases c : s < t.length
    · rw [if_pos c]
      by_cases c2 : tokenEnd t s = s
      · rw [if_pos c2]; simp; omega
      · rw [if_neg c2]
        have h1 := tokenEnd_ge t s
        have h2 := blanksEnd_ge t (tokenEnd t s)
        have h3 := blanksEnd_le (tokenEnd_le c)
        have := toksF_len k t (blanksEnd t (tokenEnd t s)) h3
        simp only [List.length_cons]
        omega
    · rw [if_neg c]; simpa using h
theorem toks_lt (t : List Nat) (z : Nat × Nat) (h : z ∈ toks t) : z.1 < t.length := toksF_lt _ _ _ _ h
theorem toks_len (t : List Nat) : (toks t).length ≤ t.length := by
  have := toksF_len (t.length + 1 - blanksEnd t 0) t (blanksEnd t 0) (blanksEnd_le (Nat.zero_le _))
  unfold toks toksAt
  omega
theorem readTold_run (t : List Nat) : readTold t = runP t (.val []) (toks t) := by
  unfold readTold
  rw [tokens_eq]
  have V := val_run t (t.length + 2) (toks t) [] (by have := toks_len t; omega)
  cases e : Vaarrm.values (t.length + 2) [] (specToks t (toks t)) with
  | error p => exact (V.1 p e).symm
  | ok x =>
    obtain ⟨r', q1, q2, q3⟩ := V.2 x e
    rw [q3]
    show (match x.2 with
      | (p, .none) :: _ => if p = t.length then Except.ok x.1 else .error p
      | ts => .error (here ts)) = _
    rw [q1]
    cases r' with
    | nil =>
      show (if t.length = t.length then _ else _) = _
      rw [if_pos rfl]; rfl
    | cons z r =>
      by_cases hz : z.2 = z.1
      · rw [specToks_bad hz, runP_bad hz]
        show (if z.1 = t.length then _ else _) = _
        rw [if_neg (Nat.ne_of_lt (toks_lt t z (q2 z (List.mem_cons_self ..))))]
      · rw [specToks_ok hz, runP_none hz (by rfl)]
        cases ht : tokOf t z.1 z.2 with
        | none => exact absurd ht (tokOf_not_none _ _ _)
        | num n => rfl
        | sign c => rfl
end NA
namespace NA
open Vaarrm

/-! ### the program's look at the form -/
def canStand (place : Int) (b : Nat) : Bool :=
  if place = 0 then (b != 58 && b != 93) else if place = 1 then (b == 58 || digit b) else if place = 2 then b != 58 else false
def goPast1 (l : List Int) (b : Nat) : List Int := if b = 91 then l ++ [1] else if b = 58 then l.set (l.length - 1) 2 else if b = 93 then l.dropLast else l
def goPast (l : List Int) (b : Nat) : List Int := if (goPast1 l b).length = 1 then (goPast1 l b).set 0 3 else goPast1 l b
def fault (t : List Nat) : List Int → List (Nat × Nat) → Option Nat
  | l, [] => if l.getLastD 0 = 3 then none else some t.length
  | l, x :: r => if x.2 = x.1 ∨ canStand (l.getLastD 0) (t.getD x.1 0) = false then some x.1 else fault t (goPast l (t.getD x.1 0)) r
def enc : PSt → List Int
  | .val o => 0 :: List.replicate o.length 2
  | .ext _ o => 0 :: (List.replicate o.length 2 ++ [1])
  | .fin _ => [3]
theorem fold_pos : ∀ (l : List Nat) (n : Nat), 0 < n → 0 < l.foldl (fun n c => 10 * n + (c - 48)) n
  | [], _, h => h
  | c :: l, n, h => by
    rw [List.foldl_cons]
    exact fold_pos l _ (by omega)
/-- what the first byte of a token tells -/
theorem tok_cases {t : List Nat} {s e : Nat} (he : e = tokenEnd t s) (hn : ¬ e = s) :
    (isSign (t.getD s 0) = true ∧ tokOf t s e = .sign (t.getD s 0)) ∨
    (isSign (t.getD s 0) = false ∧ t.getD s 0 = 95 ∧ tokOf t s e = .num (numTold t s e) ∧ numTold t s e < 0) ∨
    (isSign (t.getD s 0) = false ∧ digit (t.getD s 0) = true ∧ tokOf t s e = .num (numTold t s e) ∧ 0 ≤ numTold t s e) := by
  by_cases hs : isSign (t.getD s 0) = true
  · exact .inl ⟨hs, if_pos hs⟩
  · have hs' : isSign (t.getD s 0) = false := by simpa using hs
    right
    have ht : tokOf t s e = .num (numTold t s e) := if_neg hs
    have hfge := first_ge t s
    have hfle := first_le t s
    have hde := digitsEnd_ge t (first t s)
    unfold tokenEnd at he
    rw [if_neg hs] at he
    by_cases c1 : digitsEnd t (first t s) = first t s
    · rw [if_pos c1] at he; exact absurd he hn
    · rw [if_neg c1] at he
      by_cases c2 : t.getD (first t s) 0 = 48 ∧ 1 < digitsEnd t (first t s) - s
      · rw [if_pos c2] at he; exact absurd he hn
      · rw [if_neg c2] at he
        have elen : ((t.drop (first t s)).takeWhile digit).length = digitsEnd t (first t s) - first t s := by unfold digitsEnd; omega
        have hfl : first t s < t.length := by
          have h1 := takeWhile_len_le digit (t.drop (first t s))
          rw [List.length_drop] at h1
          omega
        have hdc : (t.drop (first t s)).takeWhile digit = if digit (t.getD (first t s) 0) = true then t.getD (first t s) 0 :: (t.drop (first t s + 1)).takeWhile digit else [] := by
          rw [drop_cons hfl, List.takeWhile_cons]
        have hdig : digit (t.getD (first t s) 0) = true := by
          by_cases hd : digit (t.getD (first t s) 0) = true
          · exact hd
          · rw [if_neg hd] at hdc
            rw [hdc] at elen
            simp at elen
            omega
        rw [if_pos hdig] at hdc
        have ev : (t.drop (first t s)).take (e - first t s) = (t.drop (first t s)).takeWhile digit := by rw [he, ← elen]; exact take_takeWhile digit _
        by_cases c : t.getD s 0 = 95
        · left
          refine ⟨hs', c, ht, ?_⟩
          have ef : first t s = s + 1 := by unfold first; rw [if_pos c]
          have h48 : t.getD (first t s) 0 ≠ 48 := fun z => c2 ⟨z, by omega⟩
          have hpos : 0 < valueOf ((t.drop (first t s)).takeWhile digit) := by
            rw [hdc]
            unfold valueOf
            rw [List.foldl_cons]
            refine fold_pos _ _ ?_
            unfold digit at hdig
            have := of_decide_eq_true hdig
            omega
          unfold numTold
          rw [if_pos c, ev]
          omega
        · right
          have ef : first t s = s := by unfold first; rw [if_neg c]
          rw [ef] at hdig
          refine ⟨hs', hdig, ht, ?_⟩
          unfold numTold
          rw [if_neg c]
          omega
theorem sign_cases {c : Nat} (h : isSign c = true) : c = 91 ∨ c = 58 ∨ c = 93 := by
  unfold isSign at h
  simpa only [Bool.or_eq_true, beq_iff_eq] using h
theorem digit_iff {c : Nat} : digit c = true ↔ 48 ≤ c ∧ c ≤ 57 := by
  unfold digit
  exact decide_eq_true_iff
theorem last_rep (n : Nat) (h : 0 < n) : ((0 : Int) :: List.replicate n 2).getLastD 0 = 2 := by
  obtain ⟨m, rfl⟩ : ∃ m, n = m + 1 := ⟨n - 1, by omega⟩
  rw [List.replicate_succ', ← List.cons_append]
  exact List.getLastD_concat ..
def encLast : PSt → Int
  | .val [] => 0
  | .val (_ :: _) => 2
  | .ext _ _ => 1
  | .fin _ => 3
theorem enc_last : ∀ st : PSt, (enc st).getLastD 0 = encLast st
  | .val [] => rfl
  | .val (_ :: _) => last_rep _ (by simp)
  | .ext _ o => by
    show ((0 : Int) :: (List.replicate o.length 2 ++ [1])).getLastD 0 = 1
    rw [← List.cons_append]
    exact List.getLastD_concat ..
  | .fin _ => rfl
theorem set_last2 (l : List Int) (x y : Int) : (l ++ [x]).set ((l ++ [x]).length - 1) y = l ++ [y] := by
  rw [List.length_append, List.length_singleton, Nat.add_sub_cancel, List.set_append_right _ _ (Nat.le_refl _), Nat.sub_self]
  rfl
/-- one token: the two machines go alike -/
theorem step_like {t : List Nat} {s e : Nat} (he : e = tokenEnd t s) (hn : ¬ e = s) (st : PSt) :
    (stp st (tokOf t s e) = none → canStand ((enc st).getLastD 0) (t.getD s 0) = false) ∧
    (∀ st', stp st (tokOf t s e) = some st' → canStand ((enc st).getLastD 0) (t.getD s 0) = true ∧ goPast (enc st) (t.getD s 0) = enc st') := by
  rw [enc_last]
  rcases tok_cases he hn with ⟨h1, h2⟩ | ⟨h1, h2, h3, h4⟩ | ⟨h1, h2, h3, h4⟩
  · -- a sign
    rw [h2]
    rcases sign_cases h1 with e1 | e1 | e1 <;> rw [e1]
    · -- [
      match st with
      | .val o =>
        refine ⟨fun h => ?_, fun st' h => ?_⟩
        · cases o <;> cases h
        · have e2 : st' = .ext [] o := by cases o <;> exact (Option.some.inj h).symm
          subst e2
          refine ⟨by cases o <;> rfl, ?_⟩
          have e3 : goPast1 (enc (.val o)) 91 = enc (.ext [] o) := rfl
          unfold goPast
          rw [e3, if_neg]
          simp [enc]
      | .ext xs o => exact ⟨fun h => rfl, fun st' h => by cases h⟩
      | .fin x => exact ⟨fun h => rfl, fun st' h => by cases h⟩
    · -- :
      match st with
      | .val o => exact ⟨fun h => (by cases o <;> rfl), fun st' h => (by cases o <;> cases h)⟩
      | .ext xs o =>
        refine ⟨fun h => (by cases h), fun st' h => ?_⟩
        have e2 : st' = .val ((xs.reverse, []) :: o) := (Option.some.inj h).symm
        subst e2
        refine ⟨rfl, ?_⟩
        have e3 : goPast1 (enc (.ext xs o)) 58 = enc (.val ((xs.reverse, []) :: o)) := by
          show (0 :: (List.replicate o.length 2 ++ [1])).set ((0 :: (List.replicate o.length 2 ++ [(1 : Int)])).length - 1) 2 = 0 :: List.replicate (o.length + 1) 2
          rw [← List.cons_append, set_last2, List.replicate_succ', List.cons_append]
        unfold goPast
        rw [e3, if_neg]
        simp [enc]
      | .fin x => exact ⟨fun h => rfl, fun st' h => by cases h⟩
    · -- ]
      match st with
      | .val [] => exact ⟨fun h => rfl, fun st' h => by cases h⟩
      | .val ((s', l) :: []) =>
        refine ⟨fun h => (by cases h), fun st' h => ?_⟩
        have e2 : st' = .fin (.arr s' l.reverse) := (Option.some.inj h).symm
        subst e2
        exact ⟨rfl, rfl⟩
      | .val ((s', l) :: (u, m) :: o) =>
        refine ⟨fun h => (by cases h), fun st' h => ?_⟩
        have e2 : st' = .val ((u, .arr s' l.reverse :: m) :: o) := (Option.some.inj h).symm
        subst e2
        refine ⟨rfl, ?_⟩
        have e3 : goPast1 (enc (.val ((s', l) :: (u, m) :: o))) 93 = enc (.val ((u, .arr s' l.reverse :: m) :: o)) := by
          show (0 :: List.replicate (o.length + 1 + 1) 2).dropLast = 0 :: List.replicate (o.length + 1) 2
          rw [List.replicate_succ', ← List.cons_append, List.dropLast_concat]
        unfold goPast
        rw [e3, if_neg]
        simp [enc]
      | .ext xs o => exact ⟨fun h => rfl, fun st' h => by cases h⟩
      | .fin x => exact ⟨fun h => rfl, fun st' h => by cases h⟩
  · -- below 0
    rw [h3, h2]
    have g1 : ∀ l : List Int, goPast1 l 95 = l := fun l => rfl
    match st with
    | .val [] =>
      refine ⟨fun h => (by cases h), fun st' h => ?_⟩
      have e2 : st' = .fin (.num (numTold t s e)) := (Option.some.inj h).symm
      subst e2
      exact ⟨rfl, rfl⟩
    | .val ((s', l) :: o) =>
      refine ⟨fun h => (by cases h), fun st' h => ?_⟩
      have e2 : st' = .val ((s', .num (numTold t s e) :: l) :: o) := (Option.some.inj h).symm
      subst e2
      refine ⟨rfl, ?_⟩
      unfold goPast
      rw [g1, if_neg]
      · rfl
      · simp [enc]
    | .ext xs o =>
      refine ⟨fun h => rfl, fun st' h => ?_⟩
      have h : (if numTold t s e < 0 then none else some (PSt.ext (numTold t s e :: xs) o)) = some st' := h
      rw [if_pos h4] at h
      cases h
    | .fin x => exact ⟨fun h => rfl, fun st' h => by cases h⟩
  · rw [h3]
    have hd := digit_iff.mp h2
    have n91 : ¬ t.getD s 0 = 91 := by omega
    have n58 : ¬ t.getD s 0 = 58 := by omega
    have n93 : ¬ t.getD s 0 = 93 := by omega
    have g1 : ∀ l : List Int, goPast1 l (t.getD s 0) = l := fun l => by
      unfold goPast1
      rw [if_neg n91, if_neg n58, if_neg n93]
    match st with
    | .val [] =>
      refine ⟨fun h => (by cases h), fun st' h => ?_⟩
      have e2 : st' = .fin (.num (numTold t s e)) := (Option.some.inj h).symm
      subst e2
      refine ⟨?_, ?_⟩
      · show (t.getD s 0 != 58 && t.getD s 0 != 93) = true
        rw [bne_iff_ne.mpr n58, bne_iff_ne.mpr n93]; rfl
      · unfold goPast
        rw [g1]
        rfl
    | .val ((s', l) :: o) =>
      refine ⟨fun h => (by cases h), fun st' h => ?_⟩
      have e2 : st' = .val ((s', .num (numTold t s e) :: l) :: o) := (Option.some.inj h).symm
      subst e2
      refine ⟨?_, ?_⟩
      · show (t.getD s 0 != 58) = true
        exact bne_iff_ne.mpr n58
      · unfold goPast
        rw [g1, if_neg]
        · rfl
        · simp [enc]
    | .ext xs o =>
      have h5 : stp (.ext xs o) (.num (numTold t s e)) = some (.ext (numTold t s e :: xs) o) := by
        show (if numTold t s e < 0 then none else some (PSt.ext (numTold t s e :: xs) o)) = _
        rw [if_neg (by omega)]
      rw [h5]
      refine ⟨fun h => (by cases h), fun st' h => ?_⟩
      have e2 := (Option.some.inj h).symm
      subst e2
      refine ⟨?_, ?_⟩
      · show (t.getD s 0 == 58 || digit (t.getD s 0)) = true
        rw [h2, Bool.or_true]
      · unfold goPast
        rw [g1, if_neg]
        · rfl
        · simp [enc]
    | .fin x => exact ⟨fun h => rfl, fun st' h => by cases h⟩
theorem goPast_len (l : List Int) (b : Nat) : (goPast l b).length ≤ l.length + 1 := by
  have h : (goPast1 l b).length ≤ l.length + 1 := by
    unfold goPast1
    split
    · simp
    · split
      · simp
      · split
        · simp; omega
        · omega
  unfold goPast
  split
  · rw [List.length_set]; exact h
  · exact h
theorem enc_pos (st : PSt) : 1 ≤ (enc st).length := by
  cases st <;> simp [enc]
theorem enc_pop {st : PSt} (h : canStand ((enc st).getLastD 0) 93 = true) : 2 ≤ (enc st).length := by
  rw [enc_last] at h
  match st with
  | .val [] => cases h
  | .val (_ :: _) => simp [enc]
  | .ext _ _ => cases h
  | .fin _ => cases h
theorem getLast_at : ∀ (l : List Int), l ≠ [] → l[l.length - 1]? = some (l.getLastD 0)
  | [], h => absurd rfl h
  | a :: r, _ => by
    rw [← List.getLast?_eq_getElem?, List.getLastD_eq_getLast?]
    cases e : (a :: r).getLast? with
    | none => rw [List.getLast?_eq_none_iff] at e; cases e
    | some x => rfl
def Genuine (t : List Nat) (r : List (Nat × Nat)) : Prop := ∀ z ∈ r, z.1 < t.length ∧ z.2 = tokenEnd t z.1
theorem toksF_gen : ∀ (k : Nat) (t : List Nat) (s : Nat), Genuine t (toksF k t s)
  | 0, _, _, _, h => by cases h
  | k + 1, t, s, z, h => by
    have h : z ∈ if s < t.length then (s, tokenEnd t s) :: (if tokenEnd t s = s then [] else toksF k t (blanksEnd t (tokenEnd t s))) else [] := h
    by_cases c : s < t.length
    · rw [if_pos c] at h
      rcases List.mem_cons.mp h with e | e
      · rw [e]; exact ⟨c, rfl⟩
      · by_cases c2 : tokenEnd t s = s
        · rw [if_pos c2] at e; cases e
        · rw [if_neg c2] at e; exact toksF_gen k t _ z e
    · rw [if_neg c] at h; cases h
theorem toks_gen (t : List Nat) : Genuine t (toks t) := toksF_gen _ _ _
theorem fault_run (t : List Nat) : ∀ (r : List (Nat × Nat)) (st : PSt), Genuine t r → fault t (enc st) r = match runP t st r with
    | .ok _ => none
    | .error p => some p
  | [], st, _ => by
    show (if (enc st).getLastD 0 = 3 then none else some t.length) = _
    rw [enc_last]
    match st with
    | .val [] => rfl
    | .val (_ :: _) => rfl
    | .ext _ _ => rfl
    | .fin _ => rfl
  | x :: r, st, h => by
    show (if x.2 = x.1 ∨ canStand ((enc st).getLastD 0) (t.getD x.1 0) = false then some x.1 else fault t (goPast (enc st) (t.getD x.1 0)) r) = _
    by_cases hx : x.2 = x.1
    · rw [if_pos (.inl hx), runP_bad hx]
    · have S := step_like (t := t) (s := x.1) (e := x.2) (h x (List.mem_cons_self ..)).2 hx st
      cases e : stp st (tokOf t x.1 x.2) with
      | none => rw [if_pos (.inr (S.1 e)), runP_none hx e]
      | some st' =>
        obtain ⟨q1, q2⟩ := S.2 st' e
        rw [if_neg, runP_some hx e, q2]
        · exact fault_run t r st' fun z hz => h z (List.mem_cons_of_mem _ hz)
        · rintro (q | q)
          · exact hx q
          · rw [q1] at q; cases q
/-- where, as the program reckons it -/
def wherePos (t : List Nat) : Option Nat := fault t [0] (toks t)
theorem where_spec (t : List Nat) (h : t.length ≤ 8192) : VaarrmNeutral.encode (answer (.where_ t)) = [match wherePos t with | none => 0 | some p => ((p + 1 : Nat) : Int)] := by
  have e := fault_run t (toks t) (.val []) (toks_gen t)
  have e2 : wherePos t = match runP t (.val []) (toks t) with | .ok _ => none | .error p => some p := e
  unfold answer
  simp only
  rw [if_neg (by omega), e2, readTold_run]
  cases runP t (.val []) (toks t) <;> rfl
theorem where_long (t : List Nat) (h : 8192 < t.length) : VaarrmNeutral.encode (answer (.where_ t)) = [-1] := by
  unfold answer
  simp only
  rw [if_pos h]
  rfl
end NA
/-! The end of a Spec row whose def makes lambdas: the tables of the code objects are tracked beside the arguments. -/
namespace NAx
open PySem PySem.Spec PyProof.Rows L2 LamX
open PySem.W (OpenSpec Codec WData WellAll ReadsW)
mutual
theorem dwUp {K : PySem.W.Frag} {H H' : Hp} (e : Same H H') : ∀ {v : V} {d : WData}, Dw K H v d → Dw K H' v d
  | _, _, .non => .non
  | _, _, .bl b => .bl b
  | _, _, .int i => .int i
  | _, _, .str x => .str x
  | _, _, .byt b => .byt b
  | _, _, .lst s a => .lst (e.seq s) (dwUps e a)
  | _, _, .tup s a => .tup (by
      rcases s with (s | ⟨o, s⟩) | s
      · exact .inl (.inl (e _ _ s))
      · exact .inl (.inr ⟨o, e _ _ s⟩)
      · exact .inr s) (dwUps e a)
theorem dwUps {K : PySem.W.Frag} {H H' : Hp} (e : Same H H') : ∀ {vs : List V} {ds : List WData}, DwAll K H vs ds → DwAll K H' vs ds
  | _, _, .nil => .nil
  | _, _, .cons a r => .cons (dwUp e a) (dwUps e r)
end
/-- the arguments' heap with the tables beside it -/
def withT (T : List Addr) (H : Hp) : Hp := fun b => if b ∈ T then some (.tbl #[]) else H b
theorem withT_in {T : List Addr} {H : Hp} {b : Addr} (h : b ∈ T) : withT T H b = some (.tbl #[]) := if_pos h
theorem withT_out {T : List Addr} {H : Hp} {b : Addr} (h : b ∉ T) : withT T H b = H b := if_neg h
/-- nothing but what is locked, and the tables -/
def OnlyT (T : List Addr) (H : Hp) : Prop := ∀ b, H b = none ∨ b ∈ T ∨ ∃ o u, H b = some (.frz o u)
section
variable {P : Program} {w : World} {K : PySem.W.Frag} {mg mb : Str → Option Value} {CX : CXT} {k : Nat} {fa : Addr} {fd : FuncData} {ps : List Str} {sp : Sp} {s : Shared} {H : Hp} {cs : List (Addr × Addr)}
/-- what is hidden of the heap is what is tracked: namespaces, the written part and the code objects stay -/
theorem hide_ns {b : Addr} {m : Str → Option Value} (no : ∀ {b : Addr} {ob : Obj}, s.heap.get? b = some ob → (∀ vs n, ob.data ≠ .seq vs n) → ob.data ≠ .fields #[] → H b = none) (x : s.heap.Ns b m) : (hidT s.heap H).Ns b m := by
  obtain ⟨ob, es, ep, e, d, r⟩ := x
  exact ⟨ob, es, ep, hidT_get e (no e (fun vs n z => by rw [d] at z; cases z) fun z => by rw [d] at z; cases z), d, r⟩
theorem hide_tab {c T : Addr} (no : ∀ {b : Addr} {ob : Obj}, s.heap.get? b = some ob → (∀ vs n, ob.data ≠ .seq vs n) → ob.data ≠ .fields #[] → H b = none)
    (hns : s.heap.Ns mainGlobals mg) (hT : s.heap.get? T = some { cls := .none, data := .fields #[] }) (C : PySem.W.CodeHd s.heap c T)
    (hbm : ∃ (bm : Addr) (ob : Obj), mg "__builtins__" = some (.ref bm) ∧ bm ≠ builtinsNs ∧ s.heap.get? bm = some ob ∧ ob.cls = .type "module" ∧ ob.dict = some builtinsNs ∧ ob.data = .plain) : TabB (hidT s.heap H) mg c T := by
  obtain ⟨og, gs, gp, ge, gd, _⟩ := hns
  refine ⟨?_, ?_, fun z => ?_⟩
  · obtain ⟨o, us, file, tf, flags, tg, inF, text, tt, e1, r1, r2, r3, rest⟩ := C
    refine ⟨o, us, file, tf, flags, tg, inF, text, tt, hidT_get e1 (no e1 (fun vs n z => ?_) fun z => ?_), r1, r2, r3, rest⟩
    · rw [r2] at z; cases z
    · rw [r2] at z; cases z; simp at r3
  · obtain ⟨bm, ob, b1, b2, b3, b4, b5, b6⟩ := hbm
    refine ⟨bm, ob, b1, b2, fun q => ?_, fun q => ?_, hidT_get b3 (no b3 (fun vs n z => ?_) fun z => ?_), b4, b5, b6⟩
    · rw [q, ge] at b3; cases b3; rw [gd] at b6; cases b6
    · rw [q, hT] at b3; cases b3; cases b6
    · rw [b6] at z; cases z
    · rw [b6] at z; cases z
  · rw [z, hT] at ge; cases ge; cases gd
theorem spec_callT {vals : List Value} {ds : List WData} {R : PySem.W.WRecords} {cl : Str → Option Addr} {d0 : WData}
    (KX : K.In s.heap) (hns : s.heap.Ns mainGlobals mg) (hb : s.heap.Ns builtinsNs mb) (hbb : ∀ x : Str, x ≠ "__name__" → mb x = bootBuiltins x) (hlim : s.heap.NoLimit) (hg : s.gens = #[])
    (hT : ∀ p ∈ cs, s.heap.get? p.2 = some { cls := .none, data := .fields #[] }) (nT : ∀ p ∈ cs, K.lookup p.2 = none) (C : ∀ p ∈ cs, PySem.W.CodeHd s.heap p.1 p.2)
    (hbm : ∃ (bm : Addr) (ob : Obj), mg "__builtins__" = some (.ref bm) ∧ bm ≠ builtinsNs ∧ s.heap.get? bm = some ob ∧ ob.cls = .type "module" ∧ ob.dict = some builtinsNs ∧ ob.data = .plain)
    (hwl : WellAll w.params s.heap vals ds) (hpl : plWs ds = true) (hwt : ∀ d ∈ ds, d.weight ≤ 1048576) (hr : Room k callerA)
    (F : ∀ base : Heap, K.In base → base.Ns mainGlobals mg → (∀ p ∈ cs, TabB base mg p.1 p.2) → FnOk P w K mg base CX k fa fd ps sp)
    (hbind : ∀ (s : Shared) (us : List Value), us.length = ps.length → BindsTo s fd ⟨us, []⟩ (ps.zip us)) (hlen : ds.length = ps.length)
    (hsp : ∀ (H : Hp) (xs : List V), (∀ p ∈ cs, H p.2 = some (.tbl #[])) → DwAll K H xs ds → sp xs H (fun v H' => Dw K H' v d0) fun _ _ _ => False)
    (hCX : ∀ H e s', CX [] H s (fun _ _ _ => False) e s' → False) :
    codeAny (model P w) callerA (.call (.ref fa) ⟨vals, []⟩) (fun r s' => ∃ u as, r = .ok (.ret u) ∧ ReadsW R cl s'.heap u d0 as ∧ OldK s.heap s'.heap ∧ s'.os = s.os ∧ AllBare s'.gens) s := by
  obtain ⟨A, ho, ar⟩ := area_all ds vals hwl hpl hwt
  have isT : ∀ b, b ∈ cs.map (·.2) → s.heap.get? b = some { cls := .none, data := .fields #[] } := fun b hb => by
    obtain ⟨p, hp, rfl⟩ := List.mem_map.mp hb
    exact hT p hp
  have memT : ∀ p ∈ cs, p.2 ∈ cs.map (·.2) := fun p hp => List.mem_map.mpr ⟨p, hp, rfl⟩
  -- no table is an argument
  have apart : ∀ b, b ∈ cs.map (·.2) → argH K s.heap A b = none := fun b hb => by
    cases q : argH K s.heap A b with
    | none => rfl
    | some u =>
      have e := isT b hb
      obtain ⟨_, vs, _, _, ⟨e2, _⟩ | ⟨e2, _⟩⟩ := argH_is ar q <;> (rw [e2] at e; have z := congrArg Obj.data (Option.some.inj e); cases z)
  have up : Same (argH K s.heap A) (withT (cs.map (·.2)) (argH K s.heap A)) := fun b o q => by
    refine (withT_out fun hm => ?_).trans q
    rw [apart b hm] at q; cases q
  have hS := dwUps up (dw_all KX ar ds vals hwl hpl ho)
  have hV := vals_toV ho
  have hok0 : HOk P w (argH K s.heap A) s.heap := argH_ok ar
  have hok : HOk P w (withT (cs.map (·.2)) (argH K s.heap A)) s.heap := fun b u q => by
    by_cases hm : b ∈ cs.map (·.2)
    · rw [withT_in hm] at q
      cases q
      exact isT b hm
    · rw [withT_out hm] at q
      exact (hok0 b u q).stay (fun _ _ _ z => z) (fun d z => up _ _ z) fun d xs z => up _ _ z
  have only : OnlyT (cs.map (·.2)) (withT (cs.map (·.2)) (argH K s.heap A)) := fun b => by
    by_cases hm : b ∈ cs.map (·.2)
    · exact .inr (.inl hm)
    · rw [withT_out hm]
      rcases argH_only (K := K) ar b with z | z
      · exact .inl z
      · exact .inr (.inr z)
  have noK : ∀ b o, K.lookup b = some o → withT (cs.map (·.2)) (argH K s.heap A) b = none := fun b o e => by
    have hm : b ∉ cs.map (·.2) := fun z => by
      obtain ⟨p, hp, rfl⟩ := List.mem_map.mp z
      rw [nT p hp] at e; cases e
    rw [withT_out hm]
    cases q : argH K s.heap A b with
    | none => rfl
    | some u => rw [(argH_is ar q).1] at e; cases e
  have no : ∀ {b : Addr} {ob : Obj}, s.heap.get? b = some ob → (∀ vs n, ob.data ≠ .seq vs n) → ob.data ≠ .fields #[] → withT (cs.map (·.2)) (argH K s.heap A) b = none := fun {b ob} e h1 h2 => by
    have hm : b ∉ cs.map (·.2) := fun z => by
      rw [isT b z] at e; cases e; exact h2 rfl
    rw [withT_out hm]
    cases q : argH K s.heap A b with
    | none => rfl
    | some u =>
      obtain ⟨_, vs, _, _, ⟨e2, _⟩ | ⟨e2, _⟩⟩ := argH_is ar q <;> (rw [e2] at e; cases e; exact (h1 _ _ rfl).elim)
  have hH : ∀ p ∈ cs, withT (cs.map (·.2)) (argH K s.heap A) p.2 = some (.tbl #[]) := fun p hp => withT_in (memT p hp)
  generalize withT (cs.map (·.2)) (argH K s.heap A) = H at hS hok only noK no hH
  have hKb : K.In (hidT s.heap H) := fun b o e => hidT_get (KX b o e) (noK b o e)
  have gl : (hidT s.heap H).Ns mainGlobals mg := hide_ns no hns
  have md : L2.Mod K mg (hidT s.heap H) := ⟨hKb, gl, ⟨mb, hide_ns no hb, hbb⟩, let ⟨mc, h1, h2⟩ := hlim; ⟨mc, hide_ns no h1, h2⟩⟩
  have TB : ∀ p ∈ cs, TabB (hidT s.heap H) mg p.1 p.2 := fun p hp => hide_tab no hns (hT p hp) (C p hp) hbm
  have e0 : Env0 P w K mg (hidT s.heap H) callerA [] s H :=
    { frames := rfl, mod := md, bs := fun b o e => of_hidT e, bsz := Nat.le_of_eq (hidT_size _ _), funs := trivial, frf := fun b z => (nomatch (show b ∈ ([] : List Addr) from z)), hok := hok, bare := .of_eq hg }
  have hl : vals.length = ps.length := (wellAll_len hwl).trans hlen
  refine codeAny_mono ((F _ hKb gl TB).run callerA [] s H ⟨vals, []⟩ vals (vals.map toV) _ _ hr e0 (hbind s vals hl) hV (hsp H _ hH hS)) fun r s' x => ?_
  match r, x with
  | .error e, x => exact (hCX H e s' x).elim
  | .ok .next, x => exact False.elim x
  | .ok .brk, x => exact False.elim x
  | .ok .cont, x => exact False.elim x
  | .ok (.ret u), x =>
    obtain ⟨v, H', os, bare, un, hok', rel, q⟩ := x
    have kept : ∀ b o, b ∉ cs.map (·.2) → s.heap.get? b = some o → s'.heap.get? b = some o := fun b o hm e => by
      cases q2 : H b with
      | none => exact un.keep b o e q2 (fun z => (nomatch (show b ∈ ([] : List Addr) from z))) (by simp)
      | some u2 =>
        rcases only b with z | z | ⟨ob, u3, z⟩
        · rw [q2] at z; cases z
        · exact absurd z hm
        · obtain ⟨e1, _⟩ := hok b _ z
          obtain ⟨e2, _⟩ := hok' b _ (un.frzs b ob _ z)
          rw [e] at e1; cases e1
          exact e2
    have grown : ∀ p ∈ cs, ∃ more : Array Value, s'.heap.get? p.2 = some { cls := .none, data := .fields more } := fun p hp => by
      obtain ⟨more, z⟩ := un.tbls p.2 #[] (hH p hp)
      exact ⟨_, hok' p.2 _ z⟩
    have KX' : K.In s'.heap := fun b o e => kept b o (fun z => by
      obtain ⟨p, hp, rfl⟩ := List.mem_map.mp z
      rw [nT p hp] at e; cases e) (KX b o e)
    obtain ⟨as, hrd⟩ := Dw.reads (R := R) (cl := cl) hok' KX' d0 v u q rel
    refine ⟨u, as, rfl, hrd, ⟨fun b o e => ?_, fun b o e => ?_⟩, os, bare⟩
    · by_cases hm : b ∈ cs.map (·.2)
      · obtain ⟨p, hp, rfl⟩ := List.mem_map.mp hm
        obtain ⟨more, hmore⟩ := grown p hp
        rw [hT p hp] at e
        cases e
        exact .inr (.inl ⟨((C p hp).tab (hT p hp)).isCodeTable, rfl, #[], more, rfl, by rw [Array.empty_append]; exact hmore⟩)
      · exact .inl (kept b o hm e)
    · by_cases hm : b ∈ cs.map (·.2)
      · obtain ⟨p, hp, rfl⟩ := List.mem_map.mp hm
        obtain ⟨more, hmore⟩ := grown p hp
        exact ⟨_, hmore⟩
      · exact ⟨o, kept b o hm e⟩
end
/-- what is to be known of the row's def at the head's heap h: the tables of the code objects that it may grow, its promise -/
def SpecAt (r : OpenSpec) (w : World) (K : PySem.W.Frag) (CX : CXT) (k : Nat) (ps : List Str) (mg : Str → Option Value) (h : Heap) (fa : Addr) : Prop :=
  ∃ (fd : FuncData) (cs : List (Addr × Addr)) (sp : Sp), (∀ p ∈ cs, PySem.W.CodeHd h p.1 p.2 ∧ h.get? p.2 = some (PySem.W.tabObj #[])) ∧ (∀ p ∈ cs, K.lookup p.2 = none) ∧
    (∀ (s : Shared) (us : List Value), us.length = ps.length → BindsTo s fd ⟨us, []⟩ (ps.zip us)) ∧
    (∀ base : Heap, K.In base → base.Ns mainGlobals mg → (∀ p ∈ cs, TabB base mg p.1 p.2) → FnOk r.prog w K mg base CX k fa fd ps sp) ∧
    ∀ (H : Hp) (xs : List V) (a : Codec.denoteAll r.args), (∀ p ∈ cs, H p.2 = some (.tbl #[])) → Codec.withinAll r.args a = true → Codec.app r.args r.asked a = true → DwAll K H xs (Codec.encAll r.args a) →
      sp xs H (fun v H' => Dw K H' v (r.ret.enc (Codec.app r.args r.f a))) fun _ _ _ => False
theorem walk_specT {r : OpenSpec} {k : Nat} {q : Program} {loose : List Str} {XP : (Str → Option Value) → Heap → Prop} {YP : World → Heap → Prop} {d : DefRec} {K : Params → PySem.W.Frag} {CX : CXT} {ps : List Str}
    (hwell : r.wellSaid = true) (hlen : r.args.length = ps.length) (hr : Room k callerA) (hY : ∀ (w : World) (h : Heap), YP w h → (K w.params).In h)
    (F : ∀ (w : World) (mg mb : Str → Option Value) (mean : ExcName → Option Value) (fa : Addr) (h : Heap), (K w.params).In h → Top q (PySem.W.looseW q loose) mean mg mb h → mg d.name = some (.ref fa) → SpecAt r w (K w.params) CX k ps mg h fa)
    (hCX : ∀ (H : Hp) (s : Shared) (e : Value) (s' : Shared), CX [] H s (fun _ _ _ => False) e s' → False) :
    PySem.W.WalkOS q loose XP YP r d [] (fun f vs => PySem.call f vs) := by
  intro w s₀ s₁ mg mb G Y fa o pm cd doc dV kV ho hd hcd hD hmg hg args vals as hpre hlay hrd hwl hlo
  obtain ⟨a, e1, e2⟩ := PySem.W.os_pre_some hpre
  obtain ⟨rfl, hwi⟩ := Codec.encAll_of_decAll r.args args a e1
  have KX := hY w _ Y
  obtain ⟨fd, cs, sp, TT, nT, hb, hF, hsp⟩ := F w mg mb _ fa _ KX G.T hmg
  have run := spec_callT (R := []) (cl := classAt s₀.heap) (d0 := r.ret.enc (Codec.app r.args r.f a)) KX G.T.g G.T.b G.T.builtins G.T.nolimit hg (fun p hp => (TT p hp).2) nT (fun p hp => (TT p hp).1) G.T.bmain hwl (pl_encAll _ _)
    (layable_weight hlay) hr hF hb ((encAll_len _ _).trans hlen) (fun H xs hO hS => hsp H xs a hO hwi e2 hS) fun H e s' => hCX H s₁ e s'
  refine PySem.W.enter_call (codeAny_mono run fun r' s' hq => ?_)
  obtain ⟨u, as', rfl, h1, h2, h3, h4⟩ := hq
  exact ⟨.inl ⟨u, _, as', rfl, fun _ => rfl, h1, (OpenSpec.post_iff hwell hwi _ _).mpr rfl, fun z => Bool.noConfusion (show false = true from z)⟩, h2, h3, h4⟩
/-- the table of a def of the top, from what is written of it -/
theorem tab_at {q : Program} {loose : List Str} {mean : ExcName → Option Value} {mg mb : Str → Option Value} {h : Heap} {K : PySem.W.Frag} {d : DefRec} {x : Str} {f c T : Addr} {oc oc2 : Value} {od od2 : Option Addr} {fd : FuncData} {osl sl2 : Array (Option Value)} {vs : Array Value}
    (TP : Top q loose mean mg mb h) (X : K.In h) (hd : (recsOf q).find? (fun e => e.name == x) = some d) (a : PySem.W.nsIn K mainGlobals x = some (some (.ref f))) (l : K.lookup f = some ⟨oc, od, .func fd, osl⟩) (hc : fd.code = .ref c)
    (lc : K.lookup c = some ⟨oc2, od2, .fields vs, sl2⟩) (hv : vs[11]? = some (.ref T)) : PySem.W.CodeHd h c T ∧ h.get? T = some (PySem.W.tabObj #[]) := by
  refine PySem.W.tab_of TP X hd ?_
  unfold PySem.W.tabIn
  simp only [a, l, hc, lc, hv]
end NAx
/-! Errors of own classes above Exception, each with an __init__ that calls its base's. -/
namespace PySem.NAo
open PySem.W PySem.Calls PyProof.Rows PySem.HandSPX
open Builtin Builtin.ObjectAttr
abbrev exTl : List Value := [.type "Exception", .type "BaseException", .type "object"]
/-- own classes, then Exception and what is above it -/
def Abv (l : List Value) : Prop := ∃ cs : List Addr, l = cs.map Value.ref ++ exTl
theorem Abv.more {l : List Value} (C : Addr) (h : Abv l) : Abv (.ref C :: l) := by
  obtain ⟨cs, rfl⟩ := h
  exact ⟨C :: cs, rfl⟩
theorem Abv.has {l : List Value} (h : Abv l) (T : String) : l.contains (.type T) = exTl.contains (.type T) := by
  obtain ⟨cs, rfl⟩ := h
  induction cs with
  | nil => rfl
  | cons c cs ih => rw [List.map_cons, List.cons_append, List.contains_cons, ih]; rfl
theorem Abv.passes {l : List Value} (h : Abv l) (self : Value) : refuseLoop self "__setattr__" l = pure () := by
  obtain ⟨cs, rfl⟩ := h
  induction cs with
  | nil => exact F.store_Exception.passes self
  | cons c cs ih => rw [List.map_cons, List.cons_append, refuseLoop_ref]; exact ih
theorem Abv.some {l : List Value} (h : Abv l) : l.isEmpty = false := by
  obtain ⟨cs, rfl⟩ := h
  cases cs <;> rfl
section
variable {prog : Program} {w : World} {A : Around} {R : Result → Shared → Prop} {hp : Heap} {g : Array GenState} {d : Drawn} {t : Nat} {os : OsState}
/-- x.name = v where x, an exception, has no dict yet -/
theorem first_store {K : W.Frag} {name : Str} {tk : Tok} {v : Value} {x C : Addr} {fv : Array Value} {cd : ClassData} (X : K.In hp) (hx : hp.get? x = Option.some { cls := .ref C, data := .fields fv })
    (hcd : W.clsIn K C = Option.some cd) (hm : Abv cd.mro) (hh : cd.hasDict = true) (ha : W.findIn K (.ref C) name = Option.some Option.none)
    (hq : ∀ h' tk' dx, (∀ b o, b ≠ x → hp.get? b = Option.some o → h'.get? b = Option.some o) → hp.objs.size ≤ dx → dx ≠ x → h'.get? x = Option.some { cls := .ref C, dict := Option.some dx, data := .fields fv } →
      h'.Ns1 dx (fun y => if y = name then Option.some v else Option.none) → R (.ok (.ret .none)) ⟨h', g, d, tk', os⟩) :
    codeAny (model prog w) A (.call (.builtin "object.__setattr__") ⟨[.ref x, .str name tk, v], []⟩) R ⟨hp, g, d, t, os⟩ := by
  have far : x ≠ hp.objs.size := Nat.ne_of_lt (Heap.lt_size hx)
  have IA : W.InstAt hp x { cls := .ref C, data := .fields fv } C Option.none := ⟨hx, rfl, rfl, trivial⟩
  have atC : W.Looks (model prog w) hp (classData C) cd := W.looks_clsIn X hcd
  have up : W.mroIn K C (.type "object") = Option.some true := by
    unfold W.mroIn
    rw [hcd, Option.bind_some, if_neg (by rw [hm.some]; exact Bool.false_ne_true), hm.has]
    decide +kernel
  have S0 := F.store_object
  have isO : W.Looks (model prog w) hp (isInstance (.ref x) (.type "object")) true := IA.type.andThen (W.looks_mroIn X up)
  have chain : W.Looks (model prog w) hp (mroOf (.ref C)) cd.mro := atC.andThen .now
  have taker : W.Looks (model prog w) hp (storeTaker? Option.none) Option.none := .now
  refine codeAny_call_builtin S0.slot.plain S0.entry ?_
  refine @W.check_slot (model prog w) _ _ ⟨hp, g, d, t, os⟩ "object.__setattr__" "object" "__setattr__" (.ref x) [.str name tk, v] [] _ S0.kind S0.split isO (S0.args (.ref x) (.str name tk) v) ?_
  rw [W.osa_eq, refuse_eq]
  refine wpAny_bind (wpAny_bind (IA.type.at (wpAny_bind (chain.at ?_))))
  rw [hm.passes]
  refine wpAny_pure (wpAny_bind (IA.type.at (wpAny_bind ((W.looks_findIn X ha).at (wpAny_bind (taker.at ?_))))))
  obtain ⟨nm, bs, mro, ns, qn, hd, sn, sb, ab, col, del⟩ := cd
  have hh' : hd = true := hh
  subst hh'
  show wpAny _ _ (storeInOwnDict (.ref x) (.ref C) (.str name tk) name v false) _ _ _
  unfold storeInOwnDict ownDictForStores
  repeat (first | with_reducible refine store_in_new ?_ ?_ | with_reducible refine wpAny_loadPart_at hx ?_ | with_reducible refine atC.at ?_ | wp_step)
  · refine ⟨_, #[], _, (Heap.get?_update_ne _ _ _ _ far.symm).trans (Heap.get?_push_at rfl rfl), rfl, ?_, fun _ => rfl⟩
    intro e he
    exact absurd he (by simp)
  · intro h' tk' hn' same
    have old : (hp.push { cls := .type "dict", data := .dict #[] }).get? x = Option.some { cls := .ref C, data := .fields fv } := Heap.get?_push_of_some _ hx
    refine hq h' tk' hp.objs.size (fun b o hb ho => ?_) (Nat.le_refl _) far.symm ?_ hn'
    · rw [same.2 b (Nat.ne_of_lt (Heap.lt_size ho)), Heap.get?_update_ne _ _ _ _ hb]
      exact Heap.get?_push_of_some _ ho
    · rw [same.2 x far]
      exact Heap.get?_update_self _ old rfl
end
end PySem.NAo

namespace NAx
open PySem PySem.Spec PyProof.Rows L2
/-- what the written part says of an own error's class -/
structure OxC (K : PySem.W.Frag) (C : Addr) : Prop where
  cls : ∃ nm q N bs bm sn sub ab col dd k0 k1 k2 k3 k5, K.lookup C = some (excClassObj nm q C N bs bm true sn sub ab col dd k0 k1 k2 k3 k5 "Exception.__new__") ∧ PySem.NAo.Abv bm
  sa : PySem.W.findIn K (.ref C) "__setattr__" = some (some (.builtin "object.__setattr__"))
  exC : PySem.W.subIn K (.ref C) (.type "BaseException") = some true
  tyC : PySem.W.typeIn K (.ref C) = some (.type "type")
  kC : PySem.W.keepIn K (.ref C) = true
theorem OxC.cd {K : PySem.W.Frag} {C : Addr} (T : OxC K C) : ∃ cd, PySem.W.clsIn K C = some cd ∧ PySem.NAo.Abv cd.mro ∧ cd.hasDict = true := by
  obtain ⟨nm, q, N, bs, bm, sn, sub, ab, col, dd, k0, k1, k2, k3, k5, hC, hbm⟩ := T.cls
  refine ⟨{ name := nm, bases := bs, mro := .ref C :: bm, ns := N, qualname := q, hasDict := true, slotNames := sn, subclasses := sub, abstract := ab, collection := col, hasDel := false }, ?_, hbm.more C, rfl⟩
  unfold PySem.W.clsIn
  rw [hC] <;> rfl
/-- self.f = e in an __init__: the error has no dict as yet -/
def tOxst (K : PySem.W.Frag) (f : Str) (to te : TE) : TS := fun D σ H => te σ H fun y H1 => to σ H1 fun x H2 => ∃ a C : Addr, x = .ref a ∧ OxC K C ∧ PySem.W.findIn K (.ref C) f = some none ∧ H2 a = some (exo a C none) ∧
  ∀ dx, H2 dx = none → dx ≠ a → D.nx σ (upd (upd H2 dx (exd dx [(f, y)])) a (exo a C (some dx)))
section
variable {X : Cx}
theorem ox_store {pins : List (Addr × Obj)} {σ : L2.St} {H : Hp} {s : Shared} {a C : Addr} {f : Str} {y : V} {u : Value} {Q : Unit → Shared → Prop} {E : Value → Shared → Prop} {A : Around}
    (T : OxC X.K C) (I : Inv X pins σ H s) (e : H a = some (exo a C none)) (hno : PySem.W.findIn X.K (.ref C) f = some none) (ry : RelV y u)
    (h : ∀ dx s', H dx = none → dx ≠ a → Inv X pins σ (upd (upd H dx (exd dx [(f, y)])) a (exo a C (some dx))) s' → Q () s') : wpAny (model X.prog X.w) A (setAttr (.ref a) f u) Q E s := by
  obtain ⟨cd, hcl, hm, hh⟩ := T.cd
  obtain ⟨t1, ho⟩ := exo_at I.hok e
  obtain ⟨hp, g, d, t, os⟩ := s
  refine PySem.W.set_plain (od := none) I.kIn ⟨ho, rfl, rfl, trivial⟩ T.sa ?_
  refine PySem.NAo.first_store I.kIn ho hcl hm hh hno fun h' tk' dx k dn dne hx hn => ?_
  have hnd : H dx = none := I.hok.fresh dn
  have notD : ∀ {b : Addr} {o : Obj}, hp.get? b = some o → b ≠ dx := fun {b o} q z => Nat.lt_irrefl _ (Nat.lt_of_lt_of_le (Heap.lt_size (z ▸ q)) dn)
  have notA : ∀ {b : Addr}, H b = none → b ≠ a := fun {b} n z => by
    rw [z, e] at n
    cases n
  have same : ∀ {b : Addr} {o : HO}, H b = some o → exo a C none ≠ o → upd (upd H dx (exd dx [(f, y)])) a (exo a C (some dx)) b = some o := fun {b o} q z => by
    rw [upd_ne (at_ne e q z), upd_ne (ne_of_none q hnd)]
    exact q
  have U : Un X.fs [] H (upd (upd H dx (exd dx [(f, y)])) a (exo a C (some dx))) hp h' :=
    { keep := fun b o q n _ _ => k b o (notA n) q
      slot := fun b o q n _ _ => ⟨o.slots, k b o (notA n) q⟩
      free := fun b o q n _ => by
        rw [upd_ne (notA n), upd_ne (notD q)]
        exact n
      there := fun b o q _ => by
        by_cases hb : b = a
        · exact ⟨_, hb ▸ hx⟩
        · exact ⟨o, k b o hb q⟩
      tups := fun b xs q => same q exo_tup
      frzs := fun b o v q => same q exo_frz
      tbls := fun b ps q => ⟨#[], by rw [same q exo_tbl]; simp⟩ }
  refine h dx _ hnd dne (I.un (t' := tk') U fun b o q => ?_)
  by_cases hb : b = a
  · subst hb
    rw [upd_same] at q
    cases q
    exact exo_ok hx
  · rw [upd_ne hb] at q
    by_cases hd : b = dx
    · subst hd
      rw [upd_same] at q
      cases q
      exact exd_ok hn (relO_put (fs := []) ry fun g => True.intro)
    · rw [upd_ne hd] at q
      refine (I.hok b o q).stay (fun c v hc z => k c v (fun za => ?_) z) (fun c hc => same hc exo_own) fun c xs hc => same hc exo_tup
      rcases hc with hc | hc
      · exact hb (hc.symm.trans za)
      · rw [za, e] at hc
        exact exo_own (Option.some.inj hc)
theorem ps_oxst {o e : Expr} {to te : TE} {f : Str} {p' pos : Pos} (ho : PE X o to) (he : PE X e te) (hs : swapsWith e (some (.Attribute o f p')) pos.line X.env = pure false := by rfl) : PS X (.Assign [.Attribute o f p'] e pos) (tOxst X.K f to te) := by
  refine ⟨fun pins s σ H D I h => ?_⟩
  refine plainObj_wpAny_Assign_Attribute (thn (he.run pins s σ H _ I h) fun v s1 ⟨y, H1, I1, r1, q1⟩ => ?_) hs
  refine thn (ho.run pins s1 σ H1 _ I1 q1) fun u s2 ⟨x, H2, I2, r2, a, C, ex, T, hno, ea, q⟩ => ?_
  subst ex
  obtain rfl : u = Value.ref a := r2
  exact ox_store T I2 ea hno r1 fun dx s' n ne J => ⟨σ, _, J, q dx n ne⟩
/-- B.m(e, ..), B an own class, m a def of it -/
theorem pe_clsfn {CX : CXT} {k : Nat} {C f : Addr} {fd : FuncData} {ps : List Str} {sp : Sp} {E : XK} {x m : Str} {p1 p2 pos : Pos} {e : Expr} {es : List Expr} {t : TA} {mc : Value} {pl : Sem Bool}
    (hg : Gl X x) (hm : X.mg x = some (.ref C)) (rd : PySem.W.readsIn X.K C mc = true) (ga : PySem.W.specialIn X.K (.ref C) "__getattribute__" = some (some (.builtin "type.__getattribute__")))
    (fc : PySem.W.findCls X.K (.ref C) mc m = some (.val (.ref f))) (kf : PySem.W.keepIn X.K (.ref f) = true)
    (F : FnOk X.prog X.w X.K X.mg X.base CX k f fd ps sp) (hr : Room k X.A) (hb : Binds X.K fd ps []) (hx : Passes CX X E) (ha : PA X (e :: es) t)
    (hdb : (x == ("__debug__" : Str)) = false := by decide)
    (hc : eval (.Call (.Attribute (.Name x p1) m p2) (e :: es) [] pos) X.env = (do
      let ov ← eval (.Name x p1) X.env
      standAt p2.atName
      let (f, first) ← holding [ov] (getMethod ov m pl)
      callWith pos f first (backTo pos (starEach (e :: es) X.env)) (backToKw pos (keywordEach [] X.env))) := by rfl)
    (he : starEach (e :: es) X.env = (false, eval e X.env) :: starEach es X.env := by rfl) (hpl : (backTo pos (starEach es X.env)).any (·.1) = false := by rfl) :
    PE X (.Call (.Attribute (.Name x p1) m p2) (e :: es) [] pos) (tCall sp [] E t) := by
  refine ⟨fun pins s σ H Q I h => ?_⟩
  refine PySem.W.methodCall_KW (ld_glob I hg hm ?_ hdb) hc
  refine PySem.W.method_cls I.kIn ga (PySem.W.cls_value I.kIn rd fc rfl ?_)
  refine PySem.W.callWith_K (h₀ := X.base) I.ok.mod.kin kf (thn (ha.run pos pins _ σ H _ (I.tok _) h) fun us s1 ⟨vs, H1, I1, r1, q1⟩ => ⟨I1.kIn, ?_⟩) he hpl
  exact run_fn F hr hb .nil hx I1 r1 q1
/-- C(), C's own __init__ keeping sp -/
def tMkX (C : Addr) (sp : Sp) : L2.St → Hp → XK → Prop := fun _ H Q => ∀ a, H a = none → sp [.ref a] (upd H a (exo a C none))
  (fun v H2 => v = .non ∧ ∃ (d : Addr) (fs : List (Str × V)), H2 a = some (exo a C (some d)) ∧ H2 d = some (exd d fs) ∧ H d = none ∧ Q (.ref C) (some d) (upd (del H2 a) d (.xd fs))) (fun _ _ _ => False)
theorem pmk_ox {CX : CXT} {x : Str} {C fI : Addr} {k : Nat} {fd : FuncData} {ps : List Str} {sp : Sp} {p pos : Pos} (T : OxC X.K C) (iC : PySem.W.findIn X.K (.ref C) "__init__" = some (some (.ref fI))) (tI : PySem.W.typeIn X.K (.ref fI) = some (.type "function"))
    (F1 : FnOk X.prog X.w X.K X.mg X.base CX k fI fd ps sp) (hr : Room (k + 1) X.A) (hb : Binds X.K fd ps []) (hx : Passes CX X (fun _ _ _ => False)) (hg : Gl X x) (hm : X.mg x = some (.ref C)) (hdb : (x == ("__debug__" : Str)) = false := by decide) :
    PMk X (.Call (.Name x p) [] [] pos) (tMkX C sp) := by
  intro pins s σ H Q I h
  obtain ⟨nm, q, N, bs, bm, sn, sub, ab, col, dd, k0, k1, k2, k3, k5, hC, hbm⟩ := T.cls
  refine wpAny_Call_Name_kw (ld_glob I hg hm ?_ hdb)
  refine PySem.W.callWith_K0 I.kIn T.kC ?_
  obtain ⟨hp, g, dr, tk, os⟩ := s
  have big : hp.objs.size ≤ hp.objs.size + 1 := Nat.le_succ _
  have new : H (hp.objs.size + 1) = none := I.hok.fresh big
  have sp1 := h (hp.objs.size + 1) new
  have kk : ∀ b o, hp.get? b = some o → ((hp.push (PySem.W.kdv_tup [])).push (PySem.HandSPX.excO C hp.objs.size)).get? b = some o := fun b o e => Heap.get?_push_of_some _ (Heap.get?_push_of_some _ e)
  have there : ((hp.push (PySem.W.kdv_tup [])).push (PySem.HandSPX.excO C hp.objs.size)).get? (hp.objs.size + 1) = some (PySem.HandSPX.excO C hp.objs.size) := by heap_get
  have I2 := I.laid (t' := tk) (a := hp.objs.size + 1) (o := exo (hp.objs.size + 1) C none) kk big (exo_ok there)
  have r2 : Vals [V.ref (hp.objs.size + 1)] [Value.ref (hp.objs.size + 1)] := .cons rfl .nil
  have hl : [Value.ref (hp.objs.size + 1)].length = ps.length := F1.len _ _ _ _ sp1
  have run := F1.run _ X.stack _ _ ⟨[Value.ref (hp.objs.size + 1)], []⟩ [Value.ref (hp.objs.size + 1)] _ _ (fun _ _ _ => False) (hr.make C [] []) (I2.env0.make C [] []) (hb _ [Value.ref (hp.objs.size + 1)] I2.kIn hl) r2 sp1
  refine wpAny_call (PySem.HandSPX.call_own F.excBase_Exception (fun Y => hbm.has Y) (I.kIn _ _ hC) (PySem.W.looks_findIn I.kIn iC) (fun self => PySem.W.bind_fn I.kIn self tI) (by show 0 ≤ sizeLine; exact Nat.zero_le _) (codeAny_mono run fun r s' hq => ?_))
  match r, hq with
  | .error er, hq => exact hx pins σ _ _ er s' I2 hq
  | .ok .next, hq => exact False.elim hq
  | .ok .brk, hq => exact False.elim hq
  | .ok .cont, hq => exact False.elim hq
  | .ok (.ret u), hq =>
    obtain ⟨v, H2, os2, bare2, un2, hok2, rv, ev, d, fs, ea, ed, hd1, q2⟩ := hq
    subst ev
    obtain ⟨h2, g2, d2, t2, os'⟩ := s'
    exact ⟨rv, mk_end (raises_own T.exC T.tyC) I big kk un2 hok2 os2 bare2 ea ed hd1 q2⟩
/-- err.f in an except suite, whatever own class err is of -/
def tXfA (K : PySem.W.Frag) (a : Addr) (cls : Value) (d : Option Addr) (f : Str) (te : TE) : TE := fun σ H Q => te σ H fun x H1 => x = .ref a ∧ ∃ C, cls = .ref C ∧ XfC K C ∧ PySem.W.findIn K (.ref C) f = some none ∧
  ∃ (dd : Addr) (fs : List (Str × V)) (v : V), d = some dd ∧ H1 dd = some (.xd fs) ∧ fs.lookup f = some v ∧ Q v H1
theorem pe_xfA {a : Addr} {oe : Obj} {cls : Value} {d : Option Addr} {pn : List (Addr × Obj)} {e : Expr} {te : TE} {pos : Pos} {n : Str}
    (hz : Zc cls d oe) (hf : ∃ vs, oe.data = .fields vs) (he : PE (X.suite a ((a, oe) :: pn)) e te) (hb : attributeBase e n X.env (eval e X.env) = eval e X.env := by rfl) :
    PE (X.suite a ((a, oe) :: pn)) (.Attribute e n pos) (tXfA X.K a cls d n te) := by
  refine ⟨fun pins s σ H Q I h => ?_⟩
  refine attr_of hb (thn (he.run pins s σ H _ I h) fun u s1 hh => ?_)
  obtain ⟨x, H1, I1, rx, rfl, C, rfl, T, hno, dd, fs, v, rfl, ea, l, q⟩ := hh
  obtain rfl : u = Value.ref a := rx
  obtain ⟨vs, hd⟩ := hf
  obtain ⟨ha, _⟩ := I1.pin (a, oe) (List.mem_append_left _ List.mem_cons_self)
  obtain ⟨mA, hns, hr⟩ := (show ObjOk X.prog X.w H1 s1.heap dd (.xd fs) from I1.hok dd _ ea)
  obtain ⟨od, ho, hl⟩ := lookIn_ns hns
  obtain ⟨u, hu, ru⟩ := RelO.some_of (v := v) (o := mA n) (by rw [← l]; exact hr n)
  have at_ : PySem.W.InstAt s1.heap a oe C (some od) := ⟨ha, hz.1, by unfold PySem.W.notCls; rw [hd] <;> rfl, by rw [hz.2]; exact ho⟩
  exact HandSPX.exc_get I1.kIn at_ T.ga T.gg T.exC (PySem.W.findObj_own T.hdC hno rfl (by rw [hl, hu])) (handed_of ru) ⟨v, H1, I1.tok _, ru, q⟩
end
end NAx
namespace NAp
open PySem PySem.Spec PyProof.Rows L2 NA NAx
open PySem.W (Codec)
def top (i : Nat) : Stmt := PySem.Challenge.pw_nestarray_s01_where.main.body.getD i (.Pass ⟨0, 0, 0, 0⟩)
abbrev si_Refusal : Stmt := inClass (top 1) 0
abbrev si_LongRefusal : Stmt := inClass (top 2) 0
abbrev s_is_digit : Stmt := top 16
abbrev s_blanks_end : Stmt := top 17
abbrev s_digits_end : Stmt := top 18
abbrev s_digits_start : Stmt := top 19
abbrev s_token_end : Stmt := top 20
abbrev s_tokens_of : Stmt := top 21
abbrev s_can_stand : Stmt := top 22
abbrev s_go_past : Stmt := top 23
abbrev s_fault_position : Stmt := top 24
abbrev s_check_length : Stmt := top 27
abbrev s_where : Stmt := top 29
abbrev s_answered : Stmt := top 30
abbrev s_where_answer : Stmt := top 31
end NAp

namespace NAp
open PySem PySem.Spec PyProof.Rows L2 NA NAx
open PySem.W (Codec)
section
variable {P : Program} {w : World} {K : PySem.W.Frag} {mg : Str → Option Value} {base : Heap} {h : Heap}
/-- a def as it stands behind the top -/
structure DefAt (K : PySem.W.Frag) (mg : Str → Option Value) (x : Str) (st : Stmt) (ps : List Str) (f : Addr) (fd : FuncData) : Prop where
  fn : Fun K x x st f fd
  g : mg x = some (.ref f)
  b : Binds K fd ps []
/-- the bytes of a text as values -/
def bts (t : List Nat) : List V := t.map fun (b : Nat) => V.int (b : Int)
theorem bts_at {t : List Nat} {i : Nat} (h : i < t.length) : atI (bts t) (i : Int) = some (.int (t.getD i 0 : Nat)) := by
  refine atI_nat ?_
  unfold bts
  rw [List.getElem?_map, List.getElem?_eq_getElem h, List.getD_eq_getElem?_getD, List.getElem?_eq_getElem h]
  rfl
theorem bts_len (t : List Nat) : (bts t).length = t.length := by
  unfold bts
  exact List.length_map ..
/-- an int constant of the top -/
def Cn (mg : Str → Option Value) (x : Str) (n : Int) : Prop := ∃ t, mg x = some (.int n t)
theorem pe_cn {X : Cx} {x : Str} {n : Int} {pos : Pos} (h : Cn X.mg x n) (hg : Gl X x := by rfl) (hd : (x == ("__debug__" : Str)) = false := by decide) : PE X (.Name x pos) (tC (.int n)) := by
  obtain ⟨t, h⟩ := h
  exact pe_glob hg h ⟨t, rfl⟩ hd
/-- a tuple constant of the top -/
def Ct (K : PySem.W.Frag) (mg : Str → Option Value) (x : Str) (xs : List V) : Prop := ∃ a, mg x = some (.ref a) ∧ ∀ H, SqT K H a xs
theorem pe_ct {X : Cx} {x : Str} {a : Addr} {pos : Pos} (h : X.mg x = some (.ref a)) (hg : Gl X x := by rfl) (hd : (x == ("__debug__" : Str)) = false := by decide) : PE X (.Name x pos) (tC (.ref a)) := pe_glob hg h rfl hd
theorem inBlanks (c : Nat) : inV (.int (c : Int)) [.int 32, .int 9, .int 10, .int 13] = Vaarrm.blank c := by
  have e : ∀ k : Nat, ((k : Int) == (c : Int)) = (c == k) := fun k => by
    rw [Bool.eq_iff_iff, beq_iff_eq, beq_iff_eq]
    omega
  show ((((32 : Nat) : Int) == (c : Int)) || ((((9 : Nat) : Int) == (c : Int)) || ((((10 : Nat) : Int) == (c : Int)) || ((((13 : Nat) : Int) == (c : Int)) || false)))) = _
  rw [e, e, e, e, Bool.or_false]
  rfl
/-- a text is handed in at a -/
def Tx (K : PySem.W.Frag) (H : Hp) (a : Addr) (t : List Nat) : Prop := SqL K H a (bts t)
/-- a position that is moved on -/
def wScan (a : Addr) (t : List Nat) (i : Nat) (H : Hp) (fin : Nat → Nat) : Nat → L2.St → Hp → Prop := fun m σ H' =>
  ∃ j : Nat, σ = [some (.ref a), some (.int (i : Int)), some (.int (j : Int))] ∧ H' = H ∧ j ≤ t.length ∧ m = t.length - j ∧ fin i = fin j
theorem dec_nat {a b : Nat} {x y : V} (hx : x = .int (a : Int)) (hy : y = .int (b : Int)) : decide (x = y) = decide (a = b) := by
  subst hx hy
  refine decide_eq_decide.mpr ⟨fun e => ?_, fun e => by rw [e]⟩
  have := V.int.inj e
  omega
theorem dec_k {a : Nat} {b : Int} (k : Nat) (h : b = (k : Int)) : decide (V.int (a : Int) = V.int b) = decide (a = k) := by
  subst h
  exact dec_nat rfl rfl
theorem decI (i j : Int) : decide (V.int i = V.int j) = decide (i = j) := decide_eq_decide.mpr ⟨V.int.inj, fun e => by rw [e]⟩
theorem inSigns (c : Nat) : inV (.int (c : Int)) [.int 91, .int 58, .int 93] = isSign c := by
  have e : ∀ k : Nat, ((k : Int) == (c : Int)) = (c == k) := fun k => by
    rw [Bool.eq_iff_iff, beq_iff_eq, beq_iff_eq]
    omega
  show ((((91 : Nat) : Int) == (c : Int)) || ((((58 : Nat) : Int) == (c : Int)) || ((((93 : Nat) : Int) == (c : Int)) || false))) = _
  rw [e, e, e, Bool.or_false]
  rfl
/-- tuples of two numbers at these places -/
def TupsAt (H : Hp) : List Addr → List (Nat × Nat) → Prop
  | [], [] => True
  | q :: qs, x :: r => H q = some (.tup [.int (x.1 : Int), .int (x.2 : Int)]) ∧ TupsAt H qs r
  | _, _ => False
theorem TupsAt.up {H H' : Hp} (k : ∀ b xs, H b = some (.tup xs) → H' b = some (.tup xs)) : ∀ {qs : List Addr} {r : List (Nat × Nat)}, TupsAt H qs r → TupsAt H' qs r
  | [], [], _ => True.intro
  | q :: qs, x :: r, h => ⟨k _ _ h.1, TupsAt.up k h.2⟩
  | [], _ :: _, h => h.elim
  | _ :: _, [], h => h.elim
theorem TupsAt.snoc {H : Hp} {p : Addr} {x : Nat × Nat} (e : H p = some (.tup [.int (x.1 : Int), .int (x.2 : Int)])) : ∀ {qs : List Addr} {r : List (Nat × Nat)}, TupsAt H qs r → TupsAt H (qs ++ [p]) (r ++ [x])
  | [], [], _ => ⟨e, True.intro⟩
  | q :: qs, y :: r, h => ⟨h.1, TupsAt.snoc e h.2⟩
  | [], _ :: _, h => h.elim
  | _ :: _, [], h => h.elim
theorem TupsAt.len {H : Hp} : ∀ {qs : List Addr} {r : List (Nat × Nat)}, TupsAt H qs r → qs.length = r.length
  | [], [], _ => rfl
  | q :: qs, y :: r, h => by rw [List.length_cons, List.length_cons, TupsAt.len h.2]
  | [], _ :: _, h => h.elim
  | _ :: _, [], h => h.elim
theorem TupsAt.at {H : Hp} : ∀ {qs : List Addr} {r : List (Nat × Nat)} {i : Nat} {q : Addr}, TupsAt H qs r → qs[i]? = some q → ∃ x, r[i]? = some x ∧ H q = some (.tup [.int (x.1 : Int), .int (x.2 : Int)])
  | q0 :: qs, y :: r, 0, q, h, e => ⟨y, rfl, by cases e; exact h.1⟩
  | q0 :: qs, y :: r, i + 1, q, h, e => TupsAt.at (i := i) h.2 e
  | [], [], i, q, h, e => by simp at e
  | [], _ :: _, _, _, h, _ => h.elim
  | _ :: _, [], _, _, h, _ => h.elim
/-- a list of tokens stands at p -/
def TokL (H : Hp) (p : Addr) (r : List (Nat × Nat)) : Prop := ∃ qs : List Addr, H p = some (.lst (qs.map V.ref)) ∧ TupsAt H qs r
/-- a list of ints at p -/
abbrev IL (H : Hp) (p : Addr) (l : List Int) : Prop := H p = some (.lst (l.map V.int))
/-- all but what stands at p is as it was -/
def But (p : Addr) (H H' : Hp) : Prop := ∀ b o, b ≠ p → H b = some o → H' b = some o
theorem But.upd {p : Addr} {H : Hp} {o : HO} : But p H (upd H p o) := fun b u hb e => by
  rw [upd_ne hb]
  exact e
theorem But.trans {p : Addr} {H H1 H2 : Hp} (a : But p H H1) (c : But p H1 H2) : But p H H2 := fun b u hb e => c b u hb (a b u hb e)
theorem But.same {p : Addr} {H0 H H' : Hp} (n : H0 p = none) (s : Same H0 H) (b : But p H H') : Same H0 H' := fun c o e => b c o (ne_of_none e n) (s c o e)
theorem ixN_last {n : Nat} (h : 1 ≤ n) : ixN n (-1) = some (n - 1) := by
  unfold ixN
  rw [if_neg (by decide), if_pos (by omega)]
  congr 1
  omega
theorem ixN_zero {n : Nat} (h : 1 ≤ n) : ixN n 0 = some 0 := by
  unfold ixN
  rw [if_pos (by decide), if_pos (by omega)]
  rfl
theorem int_last (l : List Int) (h : l ≠ []) : atI (l.map V.int) (-1) = some (.int (l.getLastD 0)) := by
  unfold atI
  rw [List.length_map, ixN_last (by cases l with | nil => exact absurd rfl h | cons a r => simp), Option.bind_some, List.getElem?_map, getLast_at l h]
  rfl
def optV (o : Option Nat) : V := match o with
  | none => .non
  | some p => .int (p : Int)
/-- an error that is being made, at a: its class keeps no attribute called number, its dict is still to come -/
def Making (K : PySem.W.Frag) (H : Hp) (a : Addr) (n : Int) (Q : VK) : Prop := ∃ C, OxC K C ∧ PySem.W.findIn K (.ref C) "number" = some none ∧ H a = some (exo a C none) ∧
  ∀ dx, H dx = none → dx ≠ a → Q .non (upd (upd H dx (exd dx [("number", .int n)])) a (exo a C (some dx)))
def spRInit (K : PySem.W.Frag) : Sp := fun vs H Q _ => ∃ (a : Addr) (n : Int), vs = [.ref a, .int n] ∧ Making K H a n Q
def spOInit (K : PySem.W.Frag) (n : Int) : Sp := fun vs H Q _ => ∃ a : Addr, vs = [.ref a] ∧ Making K H a n Q
/-- one of the refusals: its class at C, called x, its __init__ at fI -/
structure RefCls (K : PySem.W.Frag) (mg : Str → Option Value) (CR : Addr) (x : Str) (C fI : Addr) : Prop where
  g : mg x = some (.ref C)
  ox : OxC K C
  no : PySem.W.findIn K (.ref C) "number" = some none
  iC : PySem.W.findIn K (.ref C) "__init__" = some (some (.ref fI))
  tI : PySem.W.typeIn K (.ref fI) = some (.type "function")
  xf : XfC K C
  te : PySem.W.exmOne K (.ref C) (.ref CR) = some true
/-- a refusal leaves the def: the number in a dict of its own, all else as it was -/
def Out (E : XK) (C : Addr) (n : Int) (H : Hp) : Prop := ∀ d, H d = none → E (.ref C) (some d) (upd H d (.xd [("number", .int n)]))
theorem heap_back {H : Hp} {a dx : Addr} {o1 o2 o3 o4 : HO} (ha : H a = none) (hd : dx ≠ a) : upd (del (upd (upd (upd H a o1) dx o2) a o3) a) dx o4 = upd H dx o4 := by
  funext b
  by_cases h1 : b = dx
  · rw [h1, upd_same, upd_same]
  · rw [upd_ne h1, upd_ne h1]
    by_cases h2 : b = a
    · rw [h2, del_same, ha]
    · rw [del_ne h2, upd_ne h2, upd_ne h1, upd_ne h2]
/-- raise x() -/
theorem ps_refuse {X : Cx} {W : WX} {x : Str} {CR C fI : Addr} {fd : FuncData} {n : Int} {p pos pos2 : Pos} (hc : X.calm = true) (tk : Takes X W) (T : RefCls X.K X.mg CR x C fI)
    (G : FnOk X.prog X.w X.K X.mg X.base CX0 2 fI fd ["self"] (spOInit X.K n)) (hr : Room 3 X.A) (hb : Binds X.K fd ["self"] []) (hg : Gl X x) (hdb : (x == ("__debug__" : Str)) = false := by decide) :
    PS X (.Raise (some (.Call (.Name x p) [] [] pos)) none pos2) (fun _ σ H => Out (fun cls d H' => W cls d σ H') C n H) := by
  have h := ps_raise (pos := pos2) hc tk (pmk_ox (p := p) (pos := pos) T.ox T.iC T.tI G hr hb pass0 hg T.g hdb)
  refine ⟨fun pins s σ H D I o => h.run pins s σ H D I ?_⟩
  intro a ha
  refine ⟨a, rfl, C, T.ox, T.no, upd_same, fun dx hdx hne => ⟨rfl, dx, [("number", .int n)], upd_same, ?_, ?_, ?_⟩⟩
  · rw [upd_ne hne, upd_same]
  · rw [upd_ne hne] at hdx
    exact hdx
  · rw [upd_ne hne] at hdx
    show W (.ref C) (some dx) σ _
    rw [heap_back ha hne]
    exact o dx hdx
/-- what a call of the desk promises: the list of what is due, new -/
def spDesk1 (K : PySem.W.Frag) (T : Addr) (due : List Nat → List Int) : Sp := fun vs H Q _ => ∃ (a : Addr) (t : List Nat), vs = [.ref a] ∧ Tx K H a t ∧ t.length ≤ 20000 ∧ H T = some (.tbl #[]) ∧
  ∀ (H' : Hp) (p : Addr), H' p = some (.lst ((due t).map V.int)) → Q (.ref p) H'
theorem ext_seq {H H' : Hp} {a : Addr} {xs : List V} (e : LamX.ExtN H H') (h : SqL K H a xs) : SqL K H' a xs := by
  rcases h with (h | ⟨o, h⟩) | h
  · exact .inl (.inl (e _ _ h (fun ps z => by cases z)))
  · exact .inl (.inr ⟨o, e _ _ h (fun ps z => by cases z)⟩)
  · exact .inr h
/-- a refusal with this number leaves the def, whatever class it is of -/
def OutR (K : PySem.W.Frag) (mg : Str → Option Value) (CR : Addr) (E : XK) (n : Int) (H : Hp) : Prop := ∀ (x : Str) (C fI : Addr), RefCls K mg CR x C fI → Out E C n H
end
end NAp

namespace NAp
open PySem PySem.Spec PyProof.Rows L2 NA NAx
open PySem.W (Codec)
section
variable {P : Program} {w : World} {K : PySem.W.Frag} {mg : Str → Option Value} {base : Heap} {h : Heap}
theorem scRInit : FnScope ["self", "number"] ["self", "number"] (defScope si_Refusal) := ⟨rfl, rfl, rfl, by decide +kernel, rfl, by decide +kernel, by decide +kernel⟩
theorem ok_rinit {f : Addr} {fd : FuncData} (F : Fun K "__init__" "Refusal.__init__" si_Refusal f fd) : FnOk P w K mg base CX0 1 f fd ["self", "number"] (spRInit K) := by
  refine F.ok scRInit (fun vs H Q E h => ?_) (fun cdv A outer s H vs Q E hr h => ?_)
  · obtain ⟨a, n, rfl, _⟩ := h
    rfl
  · obtain ⟨a, n, rfl, C, T, no, ha, q⟩ := h
    refine ⟨_, pss_one (ps_oxst (pv 0) (pv 1)), ?_⟩
    exact ⟨_, rfl, _, rfl, a, C, rfl, T, no, ha, q⟩
/-- the class of all refusals, and its __init__ -/
structure RefBase (K : PySem.W.Frag) (mg : Str → Option Value) (CR fR : Addr) (fdR : FuncData) : Prop where
  g : mg "Refusal" = some (.ref CR)
  rd : PySem.W.readsIn K CR (.type "type") = true
  ga : PySem.W.specialIn K (.ref CR) "__getattribute__" = some (some (.builtin "type.__getattribute__"))
  fc : PySem.W.findCls K (.ref CR) (.type "type") "__init__" = some (.val (.ref fR))
  fn : Fun K "__init__" "Refusal.__init__" si_Refusal fR fdR
  b : Binds K fdR ["self", "number"] []
end
end NAp

namespace NAp
open PySem PySem.Spec PyProof.Rows L2 NA NAx
open PySem.W (Codec)
section
variable {P : Program} {w : World} {K : PySem.W.Frag} {mg : Str → Option Value} {base : Heap} {h : Heap}
theorem sci_LongRefusal : FnScope ["self"] ["self"] (defScope si_LongRefusal) := ⟨rfl, rfl, rfl, by decide +kernel, rfl, by decide +kernel, by decide +kernel⟩
theorem ok_init_LongRefusal {f CR fR : Addr} {fd fdR : FuncData} (F : Fun K "__init__" "LongRefusal.__init__" si_LongRefusal f fd) (R : RefBase K mg CR fR fdR) (G : FnOk P w K mg base CX0 1 fR fdR ["self", "number"] (spRInit K)) : FnOk P w K mg base CX0 2 f fd ["self"] (spOInit K (-1)) := by
  refine F.ok sci_LongRefusal (fun vs H Q E h => ?_) (fun cdv A outer s H vs Q E hr h => ?_)
  · obtain ⟨a, rfl, _⟩ := h
    rfl
  · obtain ⟨a, rfl, m⟩ := h
    refine ⟨_, pss_one (ps_expr (pe_clsfn rfl R.g R.rd R.ga R.fc R.fn.kp G hr R.b pass0 (pa_cons (pv 0) (pa_cons (pe_un un_neg pe_int) pa_nil)))), ?_⟩
    exact ⟨_, rfl, _, rfl, a, _, rfl, m⟩
end
end NAp

namespace NAp
open PySem PySem.Spec PyProof.Rows L2 NA NAx
open PySem.W (Codec)
section
variable {P : Program} {w : World} {K : PySem.W.Frag} {mg : Str → Option Value} {base : Heap} {h : Heap}
def spDigit : Sp := fun vs H Q _ => ∃ n : Nat, vs = [.int (n : Int)] ∧ Q (.bl (Vaarrm.digit n)) H
theorem scIsDigit : FnScope ["byte"] ["byte"] (defScope s_is_digit) := ⟨rfl, rfl, rfl, by decide +kernel, rfl, by decide +kernel, by decide +kernel⟩
theorem ok_is_digit {f : Addr} {fd : FuncData} (F : Fun K "is_digit" "is_digit" s_is_digit f fd) (cZ : Cn mg "ZERO" 48) (cN : Cn mg "NINE" 57) : FnOk P w K mg base CX0 1 f fd ["byte"] spDigit := by
  refine F.ok scIsDigit (fun vs H Q E h => ?_) (fun cdv A outer s H vs Q E hr h => ?_)
  · obtain ⟨n, rfl, _⟩ := h
    rfl
  · obtain ⟨n, rfl, q⟩ := h
    refine ⟨_, pss_one (ps_ret (pe_chain op_le op_le (pe_cn cZ) (pv 0) (pe_cn cN))), ?_⟩
    refine ⟨_, rfl, _, _, rfl, rfl, _, rfl, ?_⟩
    by_cases c : (48 : Int) ≤ n
    · rw [decide_eq_true c]
      refine iteT ⟨_, _, rfl, rfl, ?_⟩
      have e : Vaarrm.digit n = decide ((n : Int) ≤ 57) := by
        unfold Vaarrm.digit
        exact decide_eq_decide.mpr (by omega)
      show Q (.bl (decide ((n : Int) ≤ 57))) H
      rw [← e]
      exact q
    · rw [decide_eq_false c]
      refine iteF ?_
      have e : Vaarrm.digit n = false := by
        unfold Vaarrm.digit
        exact decide_eq_false (by omega)
      show Q (.bl false) H
      rw [← e]
      exact q
end
end NAp

namespace NAp
open PySem PySem.Spec PyProof.Rows L2 NA NAx
open PySem.W (Codec)
section
variable {P : Program} {w : World} {K : PySem.W.Frag} {mg : Str → Option Value} {base : Heap} {h : Heap}
def spBlanksEnd (K : PySem.W.Frag) : Sp := fun vs H Q _ => ∃ (a : Addr) (t : List Nat) (i : Nat), vs = [.ref a, .int (i : Int)] ∧ Tx K H a t ∧ i ≤ t.length ∧ Q (.int (blanksEnd t i : Nat)) H
theorem scBlanksEnd : FnScope ["text", "start", "position"] ["text", "start"] (defScope s_blanks_end) := ⟨rfl, rfl, rfl, by decide +kernel, rfl, by decide +kernel, by decide +kernel⟩
theorem ok_blanks_end {f : Addr} {fd : FuncData} (F : Fun K "blanks_end" "blanks_end" s_blanks_end f fd) (hB : Ct K mg "BLANKS" [.int 32, .int 9, .int 10, .int 13]) (hlen : mg "len" = none) : FnOk P w K mg base CX0 1 f fd ["text", "start"] (spBlanksEnd K) := by
  obtain ⟨aB, gB, tB⟩ := hB
  refine F.ok scBlanksEnd (fun vs H Q E h => ?_) (fun cdv A outer s H vs Q E hr h => ?_)
  · obtain ⟨a, t, i, rfl, _⟩ := h
    rfl
  · obtain ⟨a, t, i, rfl, hT, hi, q⟩ := h
    refine ⟨_, pss_cons (ps_set (i := 2) scBlanksEnd.nd rfl (Or.inl rfl) (pv 1))
      (pss_cons (ps_while PassesOwn.never (PW.pt (pw_and (pt_cmpR op_lt (pv 2) (pe_callB call_len_seq (by rfl) hlen PySem.boot_len (pa_cons (pv 0) pa_nil)) (nomark _))
          (pw_and1 (pt_cmpR op_in_seq (pe_ix ix_list (pv 0) (pv 2) (fun _ _ => rfl)) (pe_ct gB) (by rfl)))))
        (pss_one (ps_aug (i := 2) scBlanksEnd.nd rfl (.inl rfl) pe_int ip_add)))
      (pss_one (ps_ret (pv 2)))), ?_⟩
    refine ⟨_, rfl, wScan a t i H (blanksEnd t), ⟨_, i, rfl, rfl, hi, rfl, rfl⟩, ?_⟩
    rintro m σ H' ⟨j, rfl, rfl, hj, rfl, e⟩
    refine ⟨_, rfl, _, rfl, a, _, rfl, .inl hT, _, _, rfl, rfl, _, rfl, ?_⟩
    rw [bts_len]
    by_cases c : j < t.length
    · rw [decide_eq_true (show (j : Int) < (t.length : Int) by omega)]
      refine iteT ⟨_, rfl, _, rfl, a, _, _, _, rfl, rfl, hT, bts_at c, aB, _, rfl, .inr (tB _), rfl, rfl, _, rfl, ?_⟩
      rw [if_neg Bool.false_ne_true, inBlanks]
      by_cases b : Vaarrm.blank (t.getD j 0) = true
      · rw [b]
        refine iteT ⟨fun σ' H2 => ∃ m', m' < t.length - j ∧ wScan a t i H' (blanksEnd t) m' σ' H2, fun _ _ z => z, ?_⟩
        exact ⟨_, rfl, _, _, rfl, rfl, t.length - (j + 1), by omega, j + 1, rfl, rfl, c, rfl, e.trans (blanksEnd_blank c b)⟩
      · rw [Bool.eq_false_iff.mpr b]
        refine iteF ⟨_, rfl, ?_⟩
        rw [blanksEnd_not c b] at e
        rw [e] at q
        exact q
    · rw [decide_eq_false (show ¬ (j : Int) < (t.length : Int) by omega)]
      refine iteF (iteF ⟨_, rfl, ?_⟩)
      rw [blanksEnd_end c] at e
      rw [e] at q
      exact q
end
end NAp

namespace NAp
open PySem PySem.Spec PyProof.Rows L2 NA NAx
open PySem.W (Codec)
section
variable {P : Program} {w : World} {K : PySem.W.Frag} {mg : Str → Option Value} {base : Heap} {h : Heap}
def spDigitsEnd (K : PySem.W.Frag) : Sp := fun vs H Q _ => ∃ (a : Addr) (t : List Nat) (i : Nat), vs = [.ref a, .int (i : Int)] ∧ Tx K H a t ∧ i ≤ t.length ∧ Q (.int (digitsEnd t i : Nat)) H
theorem scDigitsEnd : FnScope ["text", "start", "position"] ["text", "start"] (defScope s_digits_end) := ⟨rfl, rfl, rfl, by decide +kernel, rfl, by decide +kernel, by decide +kernel⟩
theorem ok_digits_end {f fd' : Addr} {fd fdD : FuncData} (F : Fun K "digits_end" "digits_end" s_digits_end f fd) (D : DefAt K mg "is_digit" s_is_digit ["byte"] fd' fdD) (G : FnOk P w K mg base CX0 1 fd' fdD ["byte"] spDigit) (hlen : mg "len" = none) :
    FnOk P w K mg base CX0 2 f fd ["text", "start"] (spDigitsEnd K) := by
  refine F.ok scDigitsEnd (fun vs H Q E h => ?_) (fun cdv A outer s H vs Q E hr h => ?_)
  · obtain ⟨a, t, i, rfl, _⟩ := h
    rfl
  · obtain ⟨a, t, i, rfl, hT, hi, q⟩ := h
    refine ⟨_, pss_cons (ps_set (i := 2) scDigitsEnd.nd rfl (Or.inl rfl) (pv 1))
      (pss_cons (ps_while PassesOwn.never (PW.pt (pw_and (pt_cmpR op_lt (pv 2) (pe_callB call_len_seq (by rfl) hlen PySem.boot_len (pa_cons (pv 0) pa_nil)) (nomark _))
          (pw_and1 (pt_val (pe_call G hr rfl D.g D.fn.kp D.b .nil pass0 (pa_cons (pe_ix ix_list (pv 0) (pv 2) (fun _ _ => rfl)) pa_nil))))))
        (pss_one (ps_aug (i := 2) scDigitsEnd.nd rfl (.inl rfl) pe_int ip_add)))
      (pss_one (ps_ret (pv 2)))), ?_⟩
    refine ⟨_, rfl, wScan a t i H (digitsEnd t), ⟨_, i, rfl, rfl, hi, rfl, rfl⟩, ?_⟩
    rintro m σ H' ⟨j, rfl, rfl, hj, rfl, e⟩
    refine ⟨_, rfl, _, rfl, a, _, rfl, .inl hT, _, _, rfl, rfl, _, rfl, ?_⟩
    rw [bts_len]
    by_cases c : j < t.length
    · rw [decide_eq_true (show (j : Int) < (t.length : Int) by omega)]
      refine iteT ⟨_, rfl, _, rfl, a, _, _, _, rfl, rfl, hT, bts_at c, _, rfl, _, rfl, ?_⟩
      by_cases b : Vaarrm.digit (t.getD j 0) = true
      · rw [b]
        refine iteT ⟨fun σ' H2 => ∃ m', m' < t.length - j ∧ wScan a t i H' (digitsEnd t) m' σ' H2, fun _ _ z => z, ?_⟩
        exact ⟨_, rfl, _, _, rfl, rfl, t.length - (j + 1), by omega, j + 1, rfl, rfl, c, rfl, e.trans (digitsEnd_digit c b)⟩
      · rw [Bool.eq_false_iff.mpr b]
        refine iteF ⟨_, rfl, ?_⟩
        rw [digitsEnd_not c b] at e
        rw [e] at q
        exact q
    · rw [decide_eq_false (show ¬ (j : Int) < (t.length : Int) by omega)]
      refine iteF (iteF ⟨_, rfl, ?_⟩)
      rw [digitsEnd_end c] at e
      rw [e] at q
      exact q
end
end NAp

namespace NAp
open PySem PySem.Spec PyProof.Rows L2 NA NAx
open PySem.W (Codec)
section
variable {P : Program} {w : World} {K : PySem.W.Frag} {mg : Str → Option Value} {base : Heap} {h : Heap}
def spDigitsStart (K : PySem.W.Frag) : Sp := fun vs H Q _ => ∃ (a : Addr) (t : List Nat) (i : Nat), vs = [.ref a, .int (i : Int)] ∧ Tx K H a t ∧ i < t.length ∧ Q (.int (first t i : Nat)) H
theorem scDigitsStart : FnScope ["text", "start"] ["text", "start"] (defScope s_digits_start) := ⟨rfl, rfl, rfl, by decide +kernel, rfl, by decide +kernel, by decide +kernel⟩
theorem ok_digits_start {f : Addr} {fd : FuncData} (F : Fun K "digits_start" "digits_start" s_digits_start f fd) (cM : Cn mg "MINUS" 95) : FnOk P w K mg base CX0 1 f fd ["text", "start"] (spDigitsStart K) := by
  refine F.ok scDigitsStart (fun vs H Q E h => ?_) (fun cdv A outer s H vs Q E hr h => ?_)
  · obtain ⟨a, t, i, rfl, _⟩ := h
    rfl
  · obtain ⟨a, t, i, rfl, hT, hi, q⟩ := h
    refine ⟨_, pss_one (ps_ret (pe_ifExp (pt_cmpR op_eq (pe_ix ix_list (pv 0) (pv 1) (fun _ _ => rfl)) (pe_cn cM) (nomark _)) (pe_op op_add (pv 1) pe_int) (pv 1))), ?_⟩
    refine ⟨_, rfl, _, rfl, a, _, _, _, rfl, rfl, hT, bts_at hi, rfl, _, rfl, ?_⟩
    rw [dec_k (b := 95) 95 rfl]
    unfold first at q
    by_cases c : t.getD i 0 = 95
    · rw [decide_eq_true c]
      rw [if_pos c] at q
      exact iteT ⟨_, rfl, _, _, rfl, rfl, q⟩
    · rw [decide_eq_false c]
      rw [if_neg c] at q
      exact iteF ⟨_, rfl, q⟩
end
end NAp

namespace NAp
open PySem PySem.Spec PyProof.Rows L2 NA NAx
open PySem.W (Codec)
section
variable {P : Program} {w : World} {K : PySem.W.Frag} {mg : Str → Option Value} {base : Heap} {h : Heap}
def spTokenEnd (K : PySem.W.Frag) : Sp := fun vs H Q _ => ∃ (a : Addr) (t : List Nat) (i : Nat), vs = [.ref a, .int (i : Int)] ∧ Tx K H a t ∧ i < t.length ∧ Q (.int (tokenEnd t i : Nat)) H
theorem scTokenEnd : FnScope ["text", "start", "first", "end"] ["text", "start"] (defScope s_token_end) := ⟨rfl, rfl, rfl, by decide +kernel, rfl, by decide +kernel, by decide +kernel⟩
theorem ok_token_end {f f1 f2 : Addr} {fd fd1 fd2 : FuncData} (F : Fun K "token_end" "token_end" s_token_end f fd) (hS : Ct K mg "SIGNS" [.int 91, .int 58, .int 93]) (cZ : Cn mg "ZERO" 48)
    (D1 : DefAt K mg "digits_start" s_digits_start ["text", "start"] f1 fd1) (G1 : FnOk P w K mg base CX0 1 f1 fd1 ["text", "start"] (spDigitsStart K))
    (D2 : DefAt K mg "digits_end" s_digits_end ["text", "start"] f2 fd2) (G2 : FnOk P w K mg base CX0 2 f2 fd2 ["text", "start"] (spDigitsEnd K)) : FnOk P w K mg base CX0 3 f fd ["text", "start"] (spTokenEnd K) := by
  obtain ⟨aS, gS, tS⟩ := hS
  refine F.ok scTokenEnd (fun vs H Q E h => ?_) (fun cdv A outer s H vs Q E hr h => ?_)
  · obtain ⟨a, t, i, rfl, _⟩ := h
    rfl
  · obtain ⟨a, t, i, rfl, hT, hi, q⟩ := h
    have hr1 : Room 1 _ := hr.mono (by decide)
    refine ⟨_, pss_cons (ps_if (pt_cmpR op_in_seq (pe_ix ix_list (pv 0) (pv 1) (fun _ _ => rfl)) (pe_ct gS) (by rfl)) (pss_one (ps_ret (pe_op op_add (pv 1) pe_int))) pss_nil)
      (pss_cons (ps_set (i := 2) scTokenEnd.nd rfl (Or.inl rfl) (pe_call G1 hr1 rfl D1.g D1.fn.kp D1.b .nil pass0 (pa_cons (pv 0) (pa_cons (pv 1) pa_nil))))
      (pss_cons (ps_set (i := 3) scTokenEnd.nd rfl (Or.inl rfl) (pe_call G2 hr rfl D2.g D2.fn.kp D2.b .nil pass0 (pa_cons (pv 0) (pa_cons (pv 2) pa_nil))))
      (pss_cons (ps_if (pt_cmpR op_eq (pv 3) (pv 2) (nomark _)) (pss_one (ps_ret (pv 1))) pss_nil)
      (pss_cons (ps_if (PW.pt (pw_and (pt_cmpR op_eq (pe_ix ix_list (pv 0) (pv 2) (fun _ _ => rfl)) (pe_cn cZ) (nomark _)) (pw_and1 (pt_cmpR op_gt (pe_op op_sub (pv 3) (pv 1)) pe_int (nomark _))))) (pss_one (ps_ret (pv 1))) pss_nil)
      (pss_one (ps_ret (pv 3))))))), ?_⟩
    refine ⟨_, rfl, _, rfl, a, _, _, _, rfl, rfl, hT, bts_at hi, aS, _, rfl, .inr (tS _), rfl, rfl, _, rfl, ?_⟩
    rw [if_neg Bool.false_ne_true, inSigns]
    have hfl := first_le t i
    have hfg := first_ge t i
    have hdg := digitsEnd_ge t (first t i)
    have hdl := digitsEnd_le (t := t) (i := first t i) (by omega)
    unfold tokenEnd at q
    by_cases c0 : isSign (t.getD i 0) = true
    · rw [c0]
      rw [if_pos c0] at q
      exact iteT ⟨_, rfl, _, _, rfl, rfl, q⟩
    · rw [Bool.eq_false_iff.mpr c0]
      rw [if_neg c0] at q
      refine iteF ⟨_, rfl, _, rfl, a, t, i, rfl, hT, hi, ?_⟩
      refine ⟨_, rfl, _, rfl, a, t, first t i, rfl, hT, by omega, ?_⟩
      refine ⟨_, rfl, _, rfl, rfl, _, rfl, ?_⟩
      rw [dec_nat (a := digitsEnd t (first t i)) (b := first t i) rfl rfl]
      by_cases c1 : digitsEnd t (first t i) = first t i
      · rw [decide_eq_true c1]
        rw [if_pos c1] at q
        exact iteT ⟨_, rfl, q⟩
      · rw [decide_eq_false c1]
        rw [if_neg c1] at q
        refine iteF ⟨_, rfl, _, rfl, a, _, _, _, rfl, rfl, hT, bts_at (i := first t i) (by omega), rfl, _, rfl, ?_⟩
        rw [dec_k (b := 48) 48 rfl]
        by_cases c2 : t.getD (first t i) 0 = 48
        · rw [decide_eq_true c2]
          refine iteT ⟨_, rfl, _, rfl, _, _, rfl, rfl, _, _, rfl, rfl, _, rfl, ?_⟩
          by_cases c3 : 1 < digitsEnd t (first t i) - i
          · rw [decide_eq_true (show (1 : Int) < (digitsEnd t (first t i) : Int) - (i : Int) by omega)]
            rw [if_pos ⟨c2, c3⟩] at q
            exact iteT ⟨_, rfl, q⟩
          · rw [decide_eq_false (show ¬ (1 : Int) < (digitsEnd t (first t i) : Int) - (i : Int) by omega)]
            rw [if_neg (fun z => c3 z.2)] at q
            exact iteF ⟨_, rfl, q⟩
        · rw [decide_eq_false c2]
          rw [if_neg (fun z => c2 z.1)] at q
          exact iteF (iteF ⟨_, rfl, q⟩)
end
end NAp

namespace NAp
open PySem PySem.Spec PyProof.Rows L2 NA NAx
open PySem.W (Codec)
section
variable {P : Program} {w : World} {K : PySem.W.Frag} {mg : Str → Option Value} {base : Heap} {h : Heap}
def spTokensOf (K : PySem.W.Frag) : Sp := fun vs H Q _ => ∃ (a : Addr) (t : List Nat), vs = [.ref a] ∧ Tx K H a t ∧ t.length ≤ 8192 ∧ ∀ (H' : Hp) (p : Addr), Same H H' → H p = none → TokL H' p (toks t) → Q (.ref p) H'
theorem scTokensOf : FnScope ["text", "tokens", "start", "end"] ["text"] (defScope s_tokens_of) := ⟨rfl, rfl, rfl, by decide +kernel, rfl, by decide +kernel, by decide +kernel⟩
def wToks (a p : Addr) (t : List Nat) (H : Hp) : Nat → L2.St → Hp → Prop := fun m σ H' =>
  ∃ (v : Option V) (j : Nat) (acc : List (Nat × Nat)), σ = [some (.ref a), some (.ref p), some (.int (j : Int)), v] ∧ Same H H' ∧ TokL H' p acc ∧ j ≤ t.length ∧ m = t.length - j ∧ acc ++ toksAt t j = toks t
theorem ok_tokens_of {f f1 f2 : Addr} {fd fd1 fd2 : FuncData} (F : Fun K "tokens_of" "tokens_of" s_tokens_of f fd) (hlen : mg "len" = none)
    (D1 : DefAt K mg "blanks_end" s_blanks_end ["text", "start"] f1 fd1) (G1 : FnOk P w K mg base CX0 1 f1 fd1 ["text", "start"] (spBlanksEnd K))
    (D2 : DefAt K mg "token_end" s_token_end ["text", "start"] f2 fd2) (G2 : FnOk P w K mg base CX0 3 f2 fd2 ["text", "start"] (spTokenEnd K)) : FnOk P w K mg base CX0 4 f fd ["text"] (spTokensOf K) := by
  refine F.ok scTokensOf (fun vs H Q E h => ?_) (fun cdv A outer s H vs Q E hr h => ?_)
  · obtain ⟨a, t, rfl, _⟩ := h
    rfl
  · obtain ⟨a, t, rfl, hT, hl, q⟩ := h
    have hr1 : Room 1 _ := hr.mono (by decide)
    refine ⟨_, pss_cons (ps_set (i := 1) scTokensOf.nd rfl (Or.inl rfl) (pe_lst pa_nil))
      (pss_cons (ps_set (i := 2) scTokensOf.nd rfl (Or.inl rfl) (pe_call G1 hr1 rfl D1.g D1.fn.kp D1.b .nil pass0 (pa_cons (pv 0) (pa_cons pe_int pa_nil))))
      (pss_cons (ps_while PassesOwn.never (pt_cmpR op_lt (pv 2) (pe_callB call_len_seq (by rfl) hlen PySem.boot_len (pa_cons (pv 0) pa_nil)) (nomark _))
        (pss_cons (ps_set (i := 3) scTokensOf.nd rfl (Or.inl rfl) (pe_call G2 hr rfl D2.g D2.fn.kp D2.b .nil pass0 (pa_cons (pv 0) (pa_cons (pv 2) pa_nil))))
        (pss_cons (ps_expr (pe_bm PySem.F.plainAttrs_list PySem.F.slot_list_append PySem.F.type_list_append mt_append (pv 1) (pa_cons (pe_tup (pa_cons (pv 2) (pa_cons (pv 3) pa_nil))) pa_nil)))
        (pss_cons (ps_if (pt_cmpR op_eq (pv 3) (pv 2) (nomark _)) (pss_one (ps_ret (pv 1))) pss_nil)
        (pss_one (ps_set (i := 2) scTokensOf.nd rfl (Or.inl rfl) (pe_call G1 hr1 rfl D1.g D1.fn.kp D1.b .nil pass0 (pa_cons (pv 0) (pa_cons (pv 3) pa_nil)))))))))
      (pss_one (ps_ret (pv 1))))), ?_⟩
    refine ⟨Nat.zero_le _, fun p hp => ?_⟩
    have s0 : Same H (upd H p (.lst [])) := fun b o e => by
      rw [upd_ne (ne_of_none e hp)]
      exact e
    refine ⟨_, rfl, a, t, 0, rfl, s0.seq hT, Nat.zero_le _, ?_⟩
    refine ⟨wToks a p t H, ⟨_, none, blanksEnd t 0, [], rfl, s0, ⟨[], upd_same, True.intro⟩, blanksEnd_le (Nat.zero_le _), rfl, rfl⟩, ?_⟩
    rintro m σ H' ⟨v, j, acc, rfl, sm, ⟨qs, hqs, htu⟩, hj, rfl, eacc⟩
    refine ⟨_, rfl, _, rfl, a, _, rfl, .inl (sm.seq hT), _, _, rfl, rfl, _, rfl, ?_⟩
    rw [bts_len]
    have hlacc : acc.length ≤ 8192 := by
      have h1 := toks_len t
      have h2 := congrArg List.length eacc
      rw [List.length_append] at h2
      omega
    by_cases c : j < t.length
    · rw [decide_eq_true (show (j : Int) < (t.length : Int) by omega)]
      refine iteT ⟨fun σ' H2 => ∃ m', m' < t.length - j ∧ wToks a p t H m' σ' H2, fun _ _ z => z, ?_⟩
      refine ⟨_, rfl, _, rfl, a, t, j, rfl, sm.seq hT, c, ?_⟩
      refine ⟨_, rfl, .inl ⟨rfl, _, SqL.of hqs⟩, _, rfl, _, rfl, (by show 2 ≤ sizeLine; decide), fun tp htp => ?_⟩
      have ntp : p ≠ tp := ne_of_none hqs htp
      have hq1 : upd H' tp (.tup [.int (j : Int), .int (tokenEnd t j : Int)]) p = some (.lst (qs.map V.ref)) := by
        rw [upd_ne ntp]
        exact hqs
      refine ⟨p, _, _, rfl, rfl, hq1, (by rw [List.length_map, htu.len]; exact Nat.lt_of_le_of_lt hlacc (by decide)), ?_⟩
      have hp0 : H p = none := hp
      have sm2 : Same H (upd (upd H' tp (.tup [.int (j : Int), .int (tokenEnd t j : Int)])) p (.lst (qs.map V.ref ++ [.ref tp]))) := fun b o e => by
        rw [upd_ne (ne_of_none e hp0), upd_ne (ne_of_none (sm b o e) htp)]
        exact sm b o e
      have tk2 : TokL (upd (upd H' tp (.tup [.int (j : Int), .int (tokenEnd t j : Int)])) p (.lst (qs.map V.ref ++ [.ref tp]))) p (acc ++ [(j, tokenEnd t j)]) := by
        refine ⟨qs ++ [tp], ?_, ?_⟩
        · rw [upd_same, List.map_append]
          rfl
        · refine TupsAt.snoc ?_ (htu.up fun b xs e => ?_)
          · rw [upd_ne ntp.symm]
            exact upd_same
          · rw [upd_ne (fun z => by rw [z, hqs] at e; cases e), upd_ne (ne_of_none e htp)]
            exact e
      refine ⟨_, rfl, _, rfl, rfl, _, rfl, ?_⟩
      rw [dec_nat (a := tokenEnd t j) (b := j) rfl rfl]
      by_cases c2 : tokenEnd t j = j
      · rw [decide_eq_true c2]
        refine iteT ⟨_, rfl, ?_⟩
        rw [toksAt_bad c c2] at eacc
        refine q _ p sm2 hp0 ?_
        rw [← eacc]
        rw [c2] at tk2 ⊢
        exact tk2
      · rw [decide_eq_false c2]
        have h1 := tokenEnd_ge t j
        have h2 := tokenEnd_le c
        have h3 := blanksEnd_ge t (tokenEnd t j)
        refine iteF ⟨_, rfl, _, rfl, a, t, tokenEnd t j, rfl, sm2.seq hT, h2, ?_⟩
        refine ⟨t.length - blanksEnd t (tokenEnd t j), by omega, _, _, _, rfl, sm2, tk2, blanksEnd_le h2, rfl, ?_⟩
        rw [toksAt_step c c2] at eacc
        rw [List.append_assoc]
        exact eacc
    · rw [decide_eq_false (show ¬ (j : Int) < (t.length : Int) by omega)]
      refine iteF ⟨_, rfl, ?_⟩
      rw [toksAt_end c, List.append_nil] at eacc
      rw [← eacc] at q
      exact q _ p sm hp ⟨qs, hqs, htu⟩
end
end NAp

namespace NAp
open PySem PySem.Spec PyProof.Rows L2 NA NAx
open PySem.W (Codec)
section
variable {P : Program} {w : World} {K : PySem.W.Frag} {mg : Str → Option Value} {base : Heap} {h : Heap}
def spCanStand : Sp := fun vs H Q _ => ∃ (p : Int) (n : Nat), vs = [.int p, .int (n : Int)] ∧ Q (.bl (canStand p n)) H
theorem scCanStand : FnScope ["place", "byte"] ["place", "byte"] (defScope s_can_stand) := ⟨rfl, rfl, rfl, by decide +kernel, rfl, by decide +kernel, by decide +kernel⟩
theorem ok_can_stand {f f1 : Addr} {fd fd1 : FuncData} (F : Fun K "can_stand" "can_stand" s_can_stand f fd) (c0 : Cn mg "AT_START" 0) (c1 : Cn mg "AMONG_EXTENTS" 1) (c2 : Cn mg "AMONG_ITEMS" 2) (cC : Cn mg "COLON" 58) (cB : Cn mg "CLOSING" 93)
    (D1 : DefAt K mg "is_digit" s_is_digit ["byte"] f1 fd1) (G1 : FnOk P w K mg base CX0 1 f1 fd1 ["byte"] spDigit) : FnOk P w K mg base CX0 2 f fd ["place", "byte"] spCanStand := by
  refine F.ok scCanStand (fun vs H Q E h => ?_) (fun cdv A outer s H vs Q E hr h => ?_)
  · obtain ⟨p, n, rfl, _⟩ := h
    rfl
  · obtain ⟨p, n, rfl, q⟩ := h
    refine ⟨_, pss_cons (ps_if (pt_cmpR op_eq (pv 0) (pe_cn c0) (nomark _)) (pss_one (ps_ret (pe_and (pe_cmpR op_ne (pv 1) (pe_cn cC) (nomark _)) (pe_one (pe_cmpR op_ne (pv 1) (pe_cn cB) (nomark _)))))) pss_nil)
      (pss_cons (ps_if (pt_cmpR op_eq (pv 0) (pe_cn c1) (nomark _)) (pss_one (ps_ret (pe_or (pe_cmpR op_eq (pv 1) (pe_cn cC) (nomark _)) (pe_one (pe_call G1 hr rfl D1.g D1.fn.kp D1.b .nil pass0 (pa_cons (pv 1) pa_nil)))))) pss_nil)
      (pss_cons (ps_if (pt_cmpR op_eq (pv 0) (pe_cn c2) (nomark _)) (pss_one (ps_ret (pe_cmpR op_ne (pv 1) (pe_cn cC) (nomark _)))) pss_nil)
      (pss_one (ps_ret pe_bl)))), ?_⟩
    unfold canStand at q
    have e58 : decide (n = 58) = (n == 58) := rfl
    have e93 : decide (n = 93) = (n == 93) := rfl
    refine ⟨_, rfl, rfl, _, rfl, ?_⟩
    rw [decI]
    by_cases k0 : p = 0
    · rw [decide_eq_true k0]
      rw [if_pos k0] at q
      refine iteT ⟨_, rfl, rfl, _, rfl, ?_⟩
      rw [dec_k (b := 58) 58 rfl]
      by_cases k : n = 58
      · rw [k] at q ⊢
        exact q
      · rw [decide_eq_false k]
        refine iteT ⟨_, rfl, rfl, ?_⟩
        rw [dec_k (b := 93) 93 rfl, e93]
        rw [bne_iff_ne.mpr k] at q
        exact q
    · rw [decide_eq_false k0]
      rw [if_neg k0] at q
      refine iteF ⟨_, rfl, rfl, _, rfl, ?_⟩
      rw [decI]
      by_cases k1 : p = 1
      · rw [decide_eq_true k1]
        rw [if_pos k1] at q
        refine iteT ⟨_, rfl, rfl, _, rfl, ?_⟩
        rw [dec_k (b := 58) 58 rfl]
        by_cases k : n = 58
        · rw [k] at q ⊢
          exact q
        · rw [decide_eq_false k]
          refine iteF ⟨_, rfl, n, rfl, ?_⟩
          rw [show (n == 58) = false from beq_eq_false_iff_ne.mpr k] at q
          exact q
      · rw [decide_eq_false k1]
        rw [if_neg k1] at q
        refine iteF ⟨_, rfl, rfl, _, rfl, ?_⟩
        rw [decI]
        by_cases k2 : p = 2
        · rw [decide_eq_true k2]
          rw [if_pos k2] at q
          refine iteT ⟨_, rfl, rfl, ?_⟩
          rw [dec_k (b := 58) 58 rfl, e58]
          exact q
        · rw [decide_eq_false k2]
          rw [if_neg k2] at q
          exact iteF q
end
end NAp

namespace NAp
open PySem PySem.Spec PyProof.Rows L2 NA NAx
open PySem.W (Codec)
section
variable {P : Program} {w : World} {K : PySem.W.Frag} {mg : Str → Option Value} {base : Heap} {h : Heap}
def spGoPast : Sp := fun vs H Q _ => ∃ (p : Addr) (l : List Int) (n : Nat), vs = [.ref p, .int (n : Int)] ∧ IL H p l ∧ 1 ≤ l.length ∧ (n = 93 → 2 ≤ l.length) ∧ l.length ≤ 9000 ∧ ∀ H', IL H' p (goPast l n) → But p H H' → Q .non H'
theorem scGoPast : FnScope ["places", "byte"] ["places", "byte"] (defScope s_go_past) := ⟨rfl, rfl, rfl, by decide +kernel, rfl, by decide +kernel, by decide +kernel⟩
theorem ok_go_past {f : Addr} {fd : FuncData} (F : Fun K "go_past" "go_past" s_go_past f fd) (c1 : Cn mg "AMONG_EXTENTS" 1) (c2 : Cn mg "AMONG_ITEMS" 2) (c3 : Cn mg "AT_END" 3) (cO : Cn mg "OPENING" 91) (cC : Cn mg "COLON" 58) (cB : Cn mg "CLOSING" 93)
    (hlen : mg "len" = none) : FnOk P w K mg base CX0 1 f fd ["places", "byte"] spGoPast := by
  refine F.ok scGoPast (fun vs H Q E h => ?_) (fun cdv A outer s H vs Q E hr h => ?_)
  · obtain ⟨p, l, n, rfl, _⟩ := h
    rfl
  · obtain ⟨p, l, n, rfl, hp, h1, h93, h9, q⟩ := h
    refine ⟨_, pss_cons (ps_if (pt_cmpR op_eq (pv 1) (pe_cn cO) (nomark _)) (pss_one (ps_expr (pe_bm PySem.F.plainAttrs_list PySem.F.slot_list_append PySem.F.type_list_append mt_append (pv 0) (pa_cons (pe_cn c1) pa_nil))))
        (pss_one (ps_if (pt_cmpR op_eq (pv 1) (pe_cn cC) (nomark _)) (pss_one (ps_asg (pe_cn c2) (pg_sub (pv 0) (pe_un un_neg pe_int) set_list)))
          (pss_one (ps_if (pt_cmpR op_eq (pv 1) (pe_cn cB) (nomark _)) (pss_one (ps_expr (pe_bm0 PySem.F.plainAttrs_list PySem.F.slot_list_pop PySem.F.type_list_pop mt_pop (pv 0)))) pss_nil)))))
      (pss_one (ps_if (pt_cmpR op_eq (pe_callB call_len_seq (by rfl) hlen PySem.boot_len (pa_cons (pv 0) pa_nil)) pe_int (nomark _)) (pss_one (ps_asg (pe_cn c3) (pg_sub (pv 0) pe_int set_list))) pss_nil)), ?_⟩
    -- the second half, from any heap in which the first has ended
    have back : ∀ H1 : Hp, IL H1 p (goPast1 l n) → But p H H1 → 1 ≤ (goPast1 l n).length →
        tIfS (tTest (tOp rEq (tCB (fun xs H Q => ∃ p ys, xs = [.ref p] ∧ (SqL K H p ys ∨ SqT K H p ys) ∧ Q (.int ys.length) H) (tCons (tVar 0) tNil)) (tC (.int 1)))) (tAsg (tC (.int 3)) (gSub (tVar 0) (tC (.int 0)) rSetL)) tNext
          { nx := fun _ H' => Q .non H', rt := Q } (L2.start ["places", "byte"] [.ref p, .int (n : Int)]) H1 := by
      intro H1 hp1 hb hne
      refine ⟨_, rfl, p, _, rfl, .inl (SqL.of hp1), rfl, _, rfl, ?_⟩
      rw [List.length_map, dec_k (b := 1) 1 rfl]
      by_cases k : (goPast1 l n).length = 1
      · rw [decide_eq_true k]
        refine iteT ⟨_, rfl, p, _, 0, 0, rfl, rfl, hp1, (by rw [List.length_map]; exact ixN_zero hne), ?_⟩
        refine q _ ?_ (hb.trans But.upd)
        show upd H1 p _ p = _
        rw [upd_same]
        unfold goPast
        rw [if_pos k, List.map_set]
      · rw [decide_eq_false k]
        refine iteF (q _ ?_ hb)
        show H1 p = _
        rw [hp1]
        unfold goPast
        rw [if_neg k]
    refine ⟨_, rfl, rfl, _, rfl, ?_⟩
    rw [dec_k (b := 91) 91 rfl]
    by_cases k1 : n = 91
    · rw [decide_eq_true k1]
      refine iteT ⟨_, rfl, .inl ⟨rfl, _, SqL.of hp⟩, p, _, _, rfl, rfl, hp, (by rw [List.length_map]; exact Nat.lt_of_le_of_lt h9 (by decide)), ?_⟩
      have e : goPast1 l n = l ++ [1] := by
        unfold goPast1
        rw [if_pos k1]
      refine back _ ?_ But.upd (by rw [e]; simp)
      show upd H p _ p = _
      rw [upd_same, e, List.map_append]
      rfl
    · rw [decide_eq_false k1]
      refine iteF ⟨_, rfl, rfl, _, rfl, ?_⟩
      rw [dec_k (b := 58) 58 rfl]
      by_cases k2 : n = 58
      · rw [decide_eq_true k2]
        have e : goPast1 l n = l.set (l.length - 1) 2 := by
          unfold goPast1
          rw [if_neg k1, if_pos k2]
        refine iteT ⟨_, rfl, _, rfl, p, _, -1, l.length - 1, rfl, rfl, hp, (by rw [List.length_map]; exact ixN_last h1), ?_⟩
        refine back _ ?_ But.upd (by rw [e, List.length_set]; exact h1)
        show upd H p _ p = _
        rw [upd_same, e, List.map_set]
      · rw [decide_eq_false k2]
        refine iteF ⟨_, rfl, rfl, _, rfl, ?_⟩
        rw [dec_k (b := 93) 93 rfl]
        by_cases k3 : n = 93
        · rw [decide_eq_true k3]
          have e : goPast1 l n = l.dropLast := by
            unfold goPast1
            rw [if_neg k1, if_neg k2, if_pos k3]
          have hl2 := h93 k3
          refine iteT ⟨_, rfl, .inl ⟨rfl, _, SqL.of hp⟩, p, _, .int (l.getLastD 0), rfl, rfl, hp, ?_, ?_⟩
          · rw [List.length_map, List.getElem?_map, getLast_at l (by intro z; rw [z] at h1; simp at h1)]
            rfl
          refine back _ ?_ But.upd (by rw [e, List.length_dropLast]; omega)
          show upd H p _ p = _
          rw [upd_same, e, List.map_dropLast]
        · rw [decide_eq_false k3]
          have e : goPast1 l n = l := by
            unfold goPast1
            rw [if_neg k1, if_neg k2, if_neg k3]
          refine iteF (back H (e.symm ▸ hp) (fun b o _ z => z) (by rw [e]; exact h1))
end
end NAp

namespace NAp
open PySem PySem.Spec PyProof.Rows L2 NA NAx
open PySem.W (Codec)
section
variable {P : Program} {w : World} {K : PySem.W.Frag} {mg : Str → Option Value} {base : Heap} {h : Heap}
def spFault (K : PySem.W.Frag) : Sp := fun vs H Q _ => ∃ (a tp : Addr) (t : List Nat) (r : List (Nat × Nat)), vs = [.ref a, .ref tp] ∧ Tx K H a t ∧ TokL H tp r ∧ Genuine t r ∧ r.length ≤ 8192 ∧
  ∀ H', Same H H' → Q (optV (fault t [0] r)) H'
theorem scFault : FnScope ["text", "tokens", "places", "start", "end"] ["text", "tokens"] (defScope s_fault_position) := ⟨rfl, rfl, rfl, by decide +kernel, rfl, by decide +kernel, by decide +kernel⟩
theorem ok_fault {f f1 f2 : Addr} {fd fd1 fd2 : FuncData} (F : Fun K "fault_position" "fault_position" s_fault_position f fd) (c0 : Cn mg "AT_START" 0) (c3 : Cn mg "AT_END" 3) (hlen : mg "len" = none)
    (D1 : DefAt K mg "can_stand" s_can_stand ["place", "byte"] f1 fd1) (G1 : FnOk P w K mg base CX0 2 f1 fd1 ["place", "byte"] spCanStand)
    (D2 : DefAt K mg "go_past" s_go_past ["places", "byte"] f2 fd2) (G2 : FnOk P w K mg base CX0 1 f2 fd2 ["places", "byte"] spGoPast) : FnOk P w K mg base CX0 3 f fd ["text", "tokens"] (spFault K) := by
  refine F.ok scFault (fun vs H Q E h => ?_) (fun cdv A outer s H vs Q E hr h => ?_)
  · obtain ⟨a, tp, t, r, rfl, _⟩ := h
    rfl
  · obtain ⟨a, tp, t, r, rfl, hT, ⟨qs, hqs, htu⟩, hg, hl, q⟩ := h
    have hr1 : Room 1 _ := hr.mono (by decide)
    refine ⟨_, pss_cons (ps_set (i := 2) scFault.nd rfl (Or.inl rfl) (pe_lst (pa_cons (pe_cn c0) pa_nil)))
      (pss_cons (ps_for PassesOwn.never rfl (pi_list (pv 1)) (pg_tup rfl (pgs_cons (pg_name (i := 3) scFault.nd rfl (Or.inl rfl)) (pgs_cons (pg_name (i := 4) scFault.nd rfl (Or.inl rfl)) pgs_nil)))
        (pss_cons (ps_if (PW.pt (pw_or (pt_cmpR op_eq (pv 4) (pv 3) (nomark _)) (pw_or1 (pt_not (pt_val (pe_call G1 hr rfl D1.g D1.fn.kp D1.b .nil pass0 (pa_cons (pe_ix ix_list (pv 2) (pe_un un_neg pe_int) (fun _ _ => rfl)) (pa_cons (pe_ix ix_list (pv 0) (pv 3) (fun _ _ => rfl)) pa_nil))))))))
          (pss_one (ps_ret (pv 3))) pss_nil)
        (pss_one (ps_expr (pe_call G2 hr1 rfl D2.g D2.fn.kp D2.b .nil pass0 (pa_cons (pv 2) (pa_cons (pe_ix ix_list (pv 0) (pv 3) (fun _ _ => rfl)) pa_nil)))))))
      (pss_one (ps_ret (pe_ifExp (pt_cmpR op_eq (pe_ix ix_list (pv 2) (pe_un un_neg pe_int) (fun _ _ => rfl)) (pe_cn c3) (nomark _)) pe_non (pe_callB call_len_seq (by rfl) hlen PySem.boot_len (pa_cons (pv 0) pa_nil)))))), ?_⟩
    refine ⟨(by show 1 ≤ sizeLine; decide), fun pl hpl => ?_⟩
    have s0 : Same H (upd H pl (.lst [.int 0])) := fun b o e => by
      rw [upd_ne (ne_of_none e hpl)]
      exact e
    refine ⟨_, rfl, tp, rfl, ⟨_, SqL.of (s0 _ _ hqs)⟩, for_list (K := K) (a := tp) (xs := qs.map V.ref) (fun i σ H' => ∃ (v1 v2 : Option V) (st : PSt), σ = [some (.ref a), some (.ref tp), some (.ref pl), v1, v2] ∧ Same H H' ∧ IL H' pl (enc st) ∧
        (enc st).length ≤ i + 1 ∧ fault t (enc st) (r.drop i) = fault t [0] r) ⟨none, none, .val [], rfl, s0, upd_same, Nat.le_refl _, rfl⟩ (fun i σ H' _ ⟨_, _, _, _, s5, _⟩ => SqL.of (s5 _ _ hqs)) ?_ ?_⟩
    · rintro i y σ H' hi ⟨v1, v2, st, rfl, sm, hil, hle, hf⟩
      obtain ⟨qa, hqa, rfl⟩ : ∃ z, qs[i]? = some z ∧ y = V.ref z := by
        rw [List.getElem?_map] at hi
        obtain ⟨z, e1, e2⟩ := Option.map_eq_some_iff.mp hi
        exact ⟨z, e1, e2.symm⟩
      obtain ⟨x, hx, htx⟩ := htu.at hqa
      have hxr : x ∈ r := List.mem_of_getElem? hx
      obtain ⟨g1, g2⟩ := hg x hxr
      have hi2 : i < r.length := (List.getElem?_eq_some_iff.mp hx).1
      have hdrop : r.drop i = x :: r.drop (i + 1) := by
        rw [List.drop_eq_getElem_cons hi2]
        congr 1
        exact (List.getElem?_eq_some_iff.mp hx).2
      have hne : enc st ≠ [] := fun z => by
        have := enc_pos st
        rw [z] at this
        simp at this
      have hf' : fault t [0] r = if x.2 = x.1 ∨ canStand ((enc st).getLastD 0) (t.getD x.1 0) = false then some x.1 else fault t (goPast (enc st) (t.getD x.1 0)) (r.drop (i + 1)) := by
        rw [← hf, hdrop]
        rfl
      refine ⟨qa, _, rfl, SqT.of (sm _ _ htx), rfl, _, _, rfl, _, _, rfl, rfl, ?_⟩
      refine ⟨_, rfl, _, rfl, rfl, _, rfl, ?_⟩
      rw [dec_nat (a := x.2) (b := x.1) rfl rfl]
      by_cases k1 : x.2 = x.1
      · rw [decide_eq_true k1]
        rw [if_pos (.inl k1)] at hf'
        refine iteT (iteT ⟨_, rfl, ?_⟩)
        rw [hf'] at q
        exact q _ sm
      · rw [decide_eq_false k1]
        refine iteF ⟨_, rfl, _, rfl, pl, _, _, _, rfl, rfl, SqL.of hil, int_last _ hne, _, rfl, _, rfl, a, _, _, _, rfl, rfl, sm.seq hT, bts_at g1, _, _, rfl, _, rfl, ?_⟩
        by_cases k2 : canStand ((enc st).getLastD 0) (t.getD x.1 0) = true
        · rw [k2]
          rw [if_neg (by rintro (z | z); exact k1 z; rw [k2] at z; cases z)] at hf'
          obtain ⟨st', e1⟩ : ∃ st', goPast (enc st) (t.getD x.1 0) = enc st' := by
            have S := step_like (t := t) (s := x.1) (e := x.2) g2 k1 st
            cases e : stp st (tokOf t x.1 x.2) with
            | none =>
              have := S.1 e
              rw [k2] at this
              cases this
            | some st' => exact ⟨st', (S.2 st' e).2⟩
          refine iteF ⟨_, rfl, _, rfl, _, rfl, a, _, _, _, rfl, rfl, sm.seq hT, bts_at g1, pl, enc st, _, rfl, hil, enc_pos st, fun z => enc_pop (st := st) (by rw [← z]; exact k2), by omega, fun H2 h2 b2 => ?_⟩
          refine ⟨_, _, st', rfl, b2.same hpl sm, e1 ▸ h2, ?_, ?_⟩
          · have := goPast_len (enc st) (t.getD x.1 0)
            rw [e1] at this
            omega
          · rw [← e1]
            exact hf'.symm
        · rw [Bool.eq_false_iff.mpr k2]
          rw [if_pos (.inr (Bool.eq_false_iff.mpr k2))] at hf'
          refine iteT ⟨_, rfl, ?_⟩
          rw [hf'] at q
          exact q _ sm
    · rintro σ H' ⟨v1, v2, st, rfl, sm, hil, hle, hf⟩
      rw [List.length_map, htu.len, List.drop_length] at hf
      have hne : enc st ≠ [] := fun z => by
        have := enc_pos st
        rw [z] at this
        simp at this
      refine ⟨_, rfl, _, rfl, pl, _, _, _, rfl, rfl, SqL.of hil, int_last _ hne, rfl, _, rfl, ?_⟩
      rw [decI]
      have hf' : fault t [0] r = if (enc st).getLastD 0 = 3 then none else some t.length := by
        rw [← hf]
        rfl
      by_cases k : (enc st).getLastD 0 = 3
      · rw [decide_eq_true k]
        rw [if_pos k] at hf'
        refine iteT ?_
        rw [hf'] at q
        exact q _ sm
      · rw [decide_eq_false k]
        rw [if_neg k] at hf'
        refine iteF ⟨_, rfl, a, _, rfl, .inl (sm.seq hT), ?_⟩
        rw [bts_len]
        rw [hf'] at q
        exact q _ sm
end
end NAp

namespace NAp
open PySem PySem.Spec PyProof.Rows L2 NA NAx
open PySem.W (Codec)
section
variable {P : Program} {w : World} {K : PySem.W.Frag} {mg : Str → Option Value} {base : Heap} {h : Heap}
def spCheckLength (K : PySem.W.Frag) (CL : Addr) : Sp := fun vs H Q E => ∃ (a : Addr) (t : List Nat), vs = [.ref a] ∧ Tx K H a t ∧ (8192 < t.length → Out E CL (-1) H) ∧ (t.length ≤ 8192 → Q .non H)
theorem scCheckLength : FnScope ["text"] ["text"] (defScope s_check_length) := ⟨rfl, rfl, rfl, by decide +kernel, rfl, by decide +kernel, by decide +kernel⟩
theorem ok_check_length {f CR CL fL : Addr} {fd fdL : FuncData} (F : Fun K "check_length" "check_length" s_check_length f fd) (hlen : mg "len" = none) (cL : Cn mg "LONGEST_TEXT" 8192) (T : RefCls K mg CR "LongRefusal" CL fL)
    (G : FnOk P w K mg base CX0 2 fL fdL ["self"] (spOInit K (-1))) (hb : Binds K fdL ["self"] []) : FnOk P w K mg base (L2.CX P w) 4 f fd ["text"] (spCheckLength K CL) := by
  refine F.okX scCheckLength (fun vs H Q E h => ?_) (fun cdv A outer s H vs Q E hr h => ?_)
  · obtain ⟨a, t, rfl, _⟩ := h
    rfl
  · obtain ⟨a, t, rfl, hT, hE, hQ⟩ := h
    refine ⟨_, pss_one (ps_if (pt_cmpR op_gt (pe_callB call_len_seq (by rfl) hlen PySem.boot_len (pa_cons (pv 0) pa_nil)) (pe_cn cL) (nomark _)) (pss_one (ps_refuse rfl (takes_of rfl rfl rfl rfl) T G hr hb (by rfl))) pss_nil), ?_⟩
    refine ⟨_, rfl, a, _, rfl, .inl hT, _, _, rfl, rfl, _, rfl, ?_⟩
    rw [bts_len]
    by_cases c : 8192 < t.length
    · rw [decide_eq_true (show (8192 : Int) < (t.length : Int) by omega)]
      exact iteT (hE c)
    · rw [decide_eq_false (show ¬ (8192 : Int) < (t.length : Int) by omega)]
      exact iteF (hQ (by omega))
end
end NAp

namespace NAp
open PySem PySem.Spec PyProof.Rows L2 NA NAx
open PySem.W (Codec)
section
variable {P : Program} {w : World} {K : PySem.W.Frag} {mg : Str → Option Value} {base : Heap} {h : Heap}
/-! ### answered: try: return work() / except Refusal as refusal: return [refusal.number] -/
def sgAns : Scope := { kind := .function, names := [("work", .local), ("refusal", .local), ("Refusal", .globalImplicit)], isGenerator := false, isCoroutine := false, more := [] }
def bgAns (p1 p2 p3 p4 p5 p6 p7 p8 p9 p10 : Pos) : List Stmt :=
  [.Try [.Return (some (.Call (.Name "work" p1) [] [] p2)) p3] [.ExceptHandler (some (.Name "Refusal" p4)) (some "refusal") [.Return (some (.List [.Attribute (.Name "refusal" p5) "number" p6] p7)) p8] p9] [] [] p10]
/-- what answered makes of the lambda's reading -/
def TAns (K : PySem.W.Frag) (CR : Addr) : (XK → Hp → VK → Prop) → Hp → VK → Prop := fun tl H Q =>
  tl (fun cls d H' => ∃ (C dd : Addr) (n : Int), cls = .ref C ∧ d = some dd ∧ PySem.W.exmOne K (.ref C) (.ref CR) = some true ∧ XfC K C ∧ PySem.W.findIn K (.ref C) "number" = some none ∧ H' dd = some (.xd [("number", .int n)]) ∧
    ∀ p, H' p = none → Q (.ref p) (upd H' p (.lst [.int n]))) H Q
theorem ans_gives {X : Cx} {q : Str} {g CR : Addr} {cdg : Value} {p1 p2 p3 p4 p5 p6 p7 p8 p9 p10 : Pos} (hme : X.mg "Refusal" = some (.ref CR)) :
    LamX.GivesTo X ["work", "refusal"] "answered" sgAns g cdg (bgAns p1 p2 p3 p4 p5 p6 p7 p8 p9 p10) "work" q (TAns X.K CR) := by
  intro f c' s H Q tl act hc h
  refine ⟨_, pss_one (ps_try_as (X := (cxOf C8.CX0 X.prog X.w X.K X.mg X.base ["work", "refusal"] "answered" sgAns g cdg X.A X.stack s H C8.E0).nox) (i := 1) (c := .ref CR)
      (tb := fun W D σ H => ∃ Ech : XK, (∀ cls d (σ' : L2.St) H', Ech cls d H' → σ'.length = 2 → W cls d σ' H') ∧ σ[0]? = some (some (.ref f)) ∧ H c' = some (LamX.CodeO c' q) ∧ tl Ech H D.rt)
      rfl rfl (show (["work", "refusal"] : List Str).Nodup by decide +kernel) rfl rfl ⟨rfl, by decide, .inl hme⟩ LamX.takes0 (fun W pn xe tk _ => ?_)
      (fun a oe cls d pn hz hf => pss_one (ps_ret (pe_lst (by exact (pa_cons (pe_xfA hz hf (pv 1)) pa_nil)))))), ?_⟩
  · refine ⟨fun pins s' σ H' D I h' => ?_⟩
    obtain ⟨Ech, hW, h1, h2, h3⟩ := h'
    have tk' : Takes ((cxOf C8.CX0 X.prog X.w X.K X.mg X.base ["work", "refusal"] "answered" sgAns g cdg X.A X.stack s H C8.E0).nox.tr pn xe) (fun cls d σ H => σ.length = 2 → W cls d σ H) :=
      fun u s' ⟨a, B, sI, pins, σ, H, cls, d, e, I, nb, up, sky, na, os, ag, k⟩ => tk u s' ⟨a, B, sI, pins, σ, H, cls, d, e, I, nb, up, sky, na, os, ag, k I.len⟩
    exact (pss_one (ps_ret (pos := p3) (act _ pn xe Ech p1 p2 tk' hW))).run pins s' σ H' D I ⟨h1, h2, h3⟩
  · refine ⟨_, ?_, rfl, hc, h⟩
    rintro cls d σ' H' ⟨C, dd, n, rfl, rfl, ex, xf, no, hd, k⟩ hl
    refine ⟨true, ex, fun _ a ha => ?_, fun z => Bool.noConfusion z⟩
    have hs : (σ'.set 1 (some (V.ref a)))[1]? = some (some (V.ref a)) := by
      rw [List.getElem?_set_self (by omega)]
    refine ⟨_, hs, rfl, C, rfl, xf, no, dd, _, .int n, rfl, hd, ?_, (by show 1 ≤ sizeLine; decide), k⟩
    simp [List.lookup]
theorem scAnswered : FnScope ["work", "refusal"] ["work"] (defScope s_answered) := ⟨rfl, rfl, rfl, by decide +kernel, rfl, by decide +kernel, by decide +kernel⟩
/-- what answered wishes of a refusal -/
def AnsE (K : PySem.W.Frag) (CR : Addr) (Q : VK) : XK := fun cls d H' => ∃ (C dd : Addr) (n : Int), cls = .ref C ∧ d = some dd ∧ PySem.W.exmOne K (.ref C) (.ref CR) = some true ∧ XfC K C ∧ PySem.W.findIn K (.ref C) "number" = some none ∧ H' dd = some (.xd [("number", .int n)]) ∧
  ∀ p, H' p = none → Q (.ref p) (upd H' p (.lst [.int n]))
theorem ans_out {CR : Addr} {Q : VK} {n : Int} {H' : Hp} (q : ∀ (H2 : Hp) (p : Addr), H2 p = some (.lst ([n].map V.int)) → Q (.ref p) H2) : OutR K mg CR (AnsE K CR Q) n H' := fun x C fI T d hd =>
  ⟨C, d, n, rfl, rfl, T.te, T.xf, T.no, upd_same, fun p _ => q _ p upd_same⟩
/-- a call of the desk over one text v: answered(lambda: ..) -/
theorem desk_one {x : Str} {st : Stmt} {f fA c T CR : Addr} {fdA : FuncData} {oc kV doc pm ct : Value} {od an : Option Addr} {osl : Array (Option Value)} {k : Nat} {due : List Nat → List Int} {params : Arguments} {body : Expr} {scope : Scope} {p1 p2 p3 p4 : Pos} {t : XK → TE}
    (hst : defBody st = [.Return (some (.Call (.Name "answered" p1) [.Lambda params body scope p2] [] p3)) p4])
    (sc : FnScope ["v"] ["v"] (defScope st)) (hgl : (defScope st).names.lookup ("answered" : Str) = some .globalImplicit)
    (lk : K.lookup f = some ⟨oc, od, .func (PySem.W.fnOf x x (defArgs st) (defBody st) (defScope st) .none kV doc pm an (.ref c) ct), osl⟩) (hcd : PySem.W.codeIn K (.ref c) x = true)
    (TB : LamX.TabB base mg c T) (DA : DefAt K mg "answered" s_answered ["work"] fA fdA) (gR : mg "Refusal" = some (.ref CR)) (LS : LamX.LamS (defScope st) scope)
    (hdef : ∀ env, defaultsOf params env = ([], [])) (hbind : ∀ (q : Str) (cl : List (Str × Addr)) (pm cv ctv : Value), bindArgs (PySem.W.kla_fn "<lambda>" q params body scope cl pm cv ctv) ⟨[], []⟩ = pure [])
    (hbody : ∀ (cdv : Value) (s0 : Shared) (H0 : Hp) (E0 : XK) (A0 : Around) (outer0 : List Env) (A : Around) (outer : List Env) (s : Shared) (H : Hp) (E : XK) (f' c' : Addr),
      Room k (A.deeper (LamX.lamEnv (cxOf CX0 P w K mg base ["v"] x (defScope st) f cdv A0 outer0 s0 H0 E0) scope s.heap.objs.size f' c')) → PE (LamX.lamCx (cxOf CX0 P w K mg base ["v"] x (defScope st) f cdv A0 outer0 s0 H0 E0) A outer s H E scope f' c') body (t E))
    (hread : ∀ (a : Addr) (tx : List Nat) (H : Hp) (Q : VK), Tx K H a tx → tx.length ≤ 20000 → (∀ (H' : Hp) (p : Addr), H' p = some (.lst ((due tx).map V.int)) → Q (.ref p) H') → t (AnsE K CR Q) (L2.start ["v"] [.ref a]) H Q) :
    FnOk P w K mg base CX0 (k + 3) f (PySem.W.fnOf x x (defArgs st) (defBody st) (defScope st) .none kV doc pm an (.ref c) ct) ["v"] (spDesk1 K T due) := by
  obtain ⟨oc1, od1, kV1, doc1, pm1, an1, cdv1, ct1, osl1, rfl, lk1, hcd1⟩ := DA.fn.ex
  refine fn_of lk hcd sc (fun vs H Q E h => ?_) (fun A outer s H vs Q E hr h => ?_)
  · obtain ⟨a, tx, rfl, _⟩ := h
    rfl
  · obtain ⟨a, tx, rfl, hT, hl, hTb, q⟩ := h
    rw [hst]
    refine ⟨_, pss_one (ps_ret (LamX.pe_lamcall (k := k) (T := [(T, _)]) (TT := TAns K CR) (Ng := ["work", "refusal"]) (t := t) hgl DA.g DA.fn.kp lk1 hcd1 DA.b scAnswered rfl (.inl rfl) (ans_gives gR) TB rfl
      (List.mem_singleton.mpr rfl) (fun p hp _ => by rw [List.mem_singleton.mp hp]) hr LS (hdef _) hbind
      (fun A' outer' s' H' E' f' c' hr' => hbody (.ref c) s H E A outer A' outer' s' H' E' f' c' hr'))), ?_⟩
    refine ⟨fun p hp => ?_, fun H1 e1 t1 => ?_⟩
    · rw [List.mem_singleton.mp hp]
      exact LamX.TabS.nil hTb
    · exact hread a tx H1 Q (ext_seq e1 hT) hl q
end
end NAp

namespace NAp
open PySem PySem.Spec PyProof.Rows L2 NA NAx
open PySem.W (Codec)
section
variable {P : Program} {w : World} {K : PySem.W.Frag} {mg : Str → Option Value} {base : Heap} {h : Heap}
def whereInt (t : List Nat) : Int := match wherePos t with
  | none => 0
  | some p => ((p + 1 : Nat) : Int)
def spWhereAnswer (K : PySem.W.Frag) (CL : Addr) : Sp := fun vs H Q E => ∃ (a : Addr) (t : List Nat), vs = [.ref a] ∧ Tx K H a t ∧ (8192 < t.length → Out E CL (-1) H) ∧
  (t.length ≤ 8192 → ∀ (H' : Hp) (p : Addr), H' p = some (.lst [.int (whereInt t)]) → Q (.ref p) H')
theorem scWhereAnswer : FnScope ["text", "position"] ["text"] (defScope s_where_answer) := ⟨rfl, rfl, rfl, by decide +kernel, rfl, by decide +kernel, by decide +kernel⟩
theorem ok_where_answer {f f1 f2 f3 CL : Addr} {fd fd1 fd2 fd3 : FuncData} (F : Fun K "where_answer" "where_answer" s_where_answer f fd)
    (D1 : DefAt K mg "check_length" s_check_length ["text"] f1 fd1) (G1 : FnOk P w K mg base (L2.CX P w) 4 f1 fd1 ["text"] (spCheckLength K CL))
    (D2 : DefAt K mg "tokens_of" s_tokens_of ["text"] f2 fd2) (G2 : FnOk P w K mg base CX0 4 f2 fd2 ["text"] (spTokensOf K))
    (D3 : DefAt K mg "fault_position" s_fault_position ["text", "tokens"] f3 fd3) (G3 : FnOk P w K mg base CX0 3 f3 fd3 ["text", "tokens"] (spFault K)) : FnOk P w K mg base (L2.CX P w) 5 f fd ["text"] (spWhereAnswer K CL) := by
  refine F.okX scWhereAnswer (fun vs H Q E h => ?_) (fun cdv A outer s H vs Q E hr h => ?_)
  · obtain ⟨a, t, rfl, _⟩ := h
    rfl
  · obtain ⟨a, t, rfl, hT, hE, hQ⟩ := h
    have hr3 : Room 3 _ := hr.mono (by decide)
    refine ⟨_, pss_cons (ps_expr (pe_call G1 hr rfl D1.g D1.fn.kp D1.b .nil (passes_call (takes_of rfl rfl rfl rfl) (fun _ _ _ _ z => z)) (pa_cons (pv 0) pa_nil)))
      (pss_cons (ps_set (i := 1) scWhereAnswer.nd rfl (Or.inl rfl) (pe_call G3 hr3 rfl D3.g D3.fn.kp D3.b .nil pass0 (pa_cons (pv 0) (pa_cons (pe_call G2 hr rfl D2.g D2.fn.kp D2.b .nil pass0 (pa_cons (pv 0) pa_nil)) pa_nil))))
      (pss_one (ps_ret (pe_lst (pa_cons (pe_ifExp (pt_cmpR op_isN (pv 1) pe_non (nomark _)) pe_int (pe_op op_add (pv 1) pe_int)) pa_nil))))), ?_⟩
    refine ⟨_, rfl, a, t, rfl, hT, fun c => hE c, fun c => ?_⟩
    refine ⟨_, rfl, _, rfl, a, t, rfl, hT, c, fun H1 p1 s1 n1 tk1 => ?_⟩
    refine ⟨a, p1, t, _, rfl, s1.seq hT, tk1, toks_gen t, Nat.le_trans (toks_len t) c, fun H2 s2 => ?_⟩
    have hw : fault t [0] (toks t) = wherePos t := rfl
    rw [hw]
    refine ⟨_, rfl, rfl, _, rfl, ?_⟩
    have hQ' := hQ c
    unfold whereInt at hQ'
    cases e : wherePos t with
    | none =>
      rw [e] at hQ'
      exact iteT ⟨(by show 1 ≤ sizeLine; decide), fun p hp => hQ' _ p upd_same⟩
    | some n =>
      rw [e] at hQ'
      refine iteF ⟨_, rfl, _, _, rfl, rfl, (by show 1 ≤ sizeLine; decide), fun p hp => hQ' _ p ?_⟩
      rw [upd_same]
      simp
end
end NAp

namespace NAp
open PySem PySem.Spec PyProof.Rows L2 NA NAx
open PySem.W (Codec)
section
variable {P : Program} {w : World} {K : PySem.W.Frag} {mg : Str → Option Value} {base : Heap} {h : Heap}
theorem scWhere : FnScope ["v"] ["v"] (defScope s_where) := ⟨rfl, rfl, rfl, by decide +kernel, rfl, by decide +kernel, by decide +kernel⟩
def dueWhere (t : List Nat) : List Int := if 8192 < t.length then [-1] else [whereInt t]
theorem ok_where {f fA fW c T CR CL fL : Addr} {fdA fdW : FuncData} {oc kV doc pm ct : Value} {od an : Option Addr} {osl : Array (Option Value)}
    (lk : K.lookup f = some ⟨oc, od, .func (PySem.W.fnOf "where" "where" (defArgs s_where) (defBody s_where) (defScope s_where) .none kV doc pm an (.ref c) ct), osl⟩) (hcd : PySem.W.codeIn K (.ref c) "where" = true)
    (TB : LamX.TabB base mg c T) (DA : DefAt K mg "answered" s_answered ["work"] fA fdA) (gR : mg "Refusal" = some (.ref CR)) (TL : RefCls K mg CR "LongRefusal" CL fL)
    (DW : DefAt K mg "where_answer" s_where_answer ["text"] fW fdW) (GW : FnOk P w K mg base (L2.CX P w) 5 fW fdW ["text"] (spWhereAnswer K CL)) :
    FnOk P w K mg base CX0 8 f (PySem.W.fnOf "where" "where" (defArgs s_where) (defBody s_where) (defScope s_where) .none kV doc pm an (.ref c) ct) ["v"] (spDesk1 K T dueWhere) := by
  obtain ⟨oc1, od1, kV1, doc1, pm1, an1, cdv1, ct1, osl1, rfl, lk1, hcd1⟩ := DA.fn.ex
  refine fn_of lk hcd scWhere (fun vs H Q E h => ?_) (fun A outer s H vs Q E hr h => ?_)
  · obtain ⟨a, t, rfl, _⟩ := h
    rfl
  · obtain ⟨a, t, rfl, hT, hl, hTb, q⟩ := h
    refine ⟨_, pss_one (ps_ret (LamX.pe_lamcall (k := 5) (T := [(T, _)]) (TT := TAns K CR) (Ng := ["work", "refusal"]) (t := fun E => tCall (spWhereAnswer K CL) [] E (tCons (tVar 0) tNil)) rfl DA.g DA.fn.kp lk1 hcd1 DA.b scAnswered rfl (.inl rfl) (ans_gives gR) TB rfl
      (List.mem_singleton.mpr rfl) (fun p hp _ => by rw [List.mem_singleton.mp hp]) hr (LamX.lamS_by (sc := defScope s_where) (by decide +kernel)) rfl (fun _ _ _ _ _ => rfl)
      (fun A outer s H E f c' hr' => pe_call GW hr' rfl DW.g DW.fn.kp DW.b .nil (passes_call (takes_of rfl rfl rfl rfl) (fun _ _ _ _ z => z)) (pa_cons (pv 0) pa_nil)))), ?_⟩
    refine ⟨fun p hp => ?_, fun H1 e1 t1 => ?_⟩
    · rw [List.mem_singleton.mp hp]
      exact LamX.TabS.nil hTb
    · refine ⟨_, rfl, a, t, rfl, ext_seq e1 hT, fun c => ?_, fun c H2 p hp => ?_⟩
      · intro d hd
        refine ⟨CL, d, -1, rfl, rfl, TL.te, TL.xf, TL.no, upd_same, fun p hp => q _ p ?_⟩
        rw [upd_same]
        unfold dueWhere
        rw [if_pos c]
        rfl
      · refine q _ p ?_
        rw [hp]
        unfold dueWhere
        rw [if_neg (by omega)]
        rfl

theorem due_where (ns : List Int) (hb : ∀ x ∈ ns, 0 ≤ x ∧ x ≤ 255) : PyVaarrm.where_ ns = dueWhere (ns.map Int.toNat) := by
  have hB : NeutralIO.bytes ns = true := List.all_eq_true.mpr fun x hx => by
    have := hb x hx
    rw [decide_eq_true this.1, decide_eq_true this.2]
    rfl
  have e : VaarrmNeutral.text ns = some (ns.map Int.toNat) := if_pos hB
  have e2 : PyVaarrm.where_ ns = VaarrmNeutral.encode (Vaarrm.answer (.where_ (ns.map Int.toNat))) := by
    unfold PyVaarrm.where_ VaarrmNeutral.step VaarrmNeutral.callOf
    simp only [e]
    rfl
  rw [e2]
  unfold dueWhere
  by_cases c : 8192 < (ns.map Int.toNat).length
  · rw [if_pos c, where_long _ c]
  · rw [if_neg c, where_spec _ (by omega)]
    rfl
end
end NAp

namespace NAp
open PySem PySem.Spec PyProof.Rows L2 NA NAx
open PySem.W (Codec)
section
variable {P : Program} {w : World} {K : PySem.W.Frag} {mg : Str → Option Value} {base : Heap} {h : Heap}
/-! ### the desk: arguments of any kinds -/
/-- what a call of the desk promises: Pre says what is handed in, and what is due of it -/
def spDesk (T : Addr) (Pre : List V → Hp → List Int → Prop) : Sp := fun vs H Q _ => ∃ due : List Int, Pre vs H due ∧ H T = some (.tbl #[]) ∧
  ∀ (H' : Hp) (p : Addr), H' p = some (.lst (due.map V.int)) → Q (.ref p) H'
/-- a call of the desk: answered(lambda: ..) -/
theorem desk_any {x : Str} {ps : List Str} {st : Stmt} {f fA c T CR : Addr} {fdA : FuncData} {oc kV doc pm ct : Value} {od an : Option Addr} {osl : Array (Option Value)} {k : Nat} {Pre : List V → Hp → List Int → Prop} {params : Arguments} {body : Expr} {scope : Scope} {p1 p2 p3 p4 : Pos} {t : XK → TE}
    (hst : defBody st = [.Return (some (.Call (.Name "answered" p1) [.Lambda params body scope p2] [] p3)) p4])
    (sc : FnScope ps ps (defScope st)) (hgl : (defScope st).names.lookup ("answered" : Str) = some .globalImplicit)
    (lk : K.lookup f = some ⟨oc, od, .func (PySem.W.fnOf x x (defArgs st) (defBody st) (defScope st) .none kV doc pm an (.ref c) ct), osl⟩) (hcd : PySem.W.codeIn K (.ref c) x = true)
    (TB : LamX.TabB base mg c T) (DA : DefAt K mg "answered" s_answered ["work"] fA fdA) (gR : mg "Refusal" = some (.ref CR)) (LS : LamX.LamS (defScope st) scope)
    (hdef : ∀ env, defaultsOf params env = ([], [])) (hbind : ∀ (q : Str) (cl : List (Str × Addr)) (pm cv ctv : Value), bindArgs (PySem.W.kla_fn "<lambda>" q params body scope cl pm cv ctv) ⟨[], []⟩ = pure [])
    (hbody : ∀ (cdv : Value) (s0 : Shared) (H0 : Hp) (E0 : XK) (A0 : Around) (outer0 : List Env) (A : Around) (outer : List Env) (s : Shared) (H : Hp) (E : XK) (f' c' : Addr),
      Room k (A.deeper (LamX.lamEnv (cxOf CX0 P w K mg base ps x (defScope st) f cdv A0 outer0 s0 H0 E0) scope s.heap.objs.size f' c')) → PE (LamX.lamCx (cxOf CX0 P w K mg base ps x (defScope st) f cdv A0 outer0 s0 H0 E0) A outer s H E scope f' c') body (t E))
    (hlen : ∀ vs H due, Pre vs H due → vs.length = ps.length) (hext : ∀ vs H H1 due, LamX.ExtN H H1 → Pre vs H due → Pre vs H1 due)
    (hread : ∀ (vs : List V) (H : Hp) (Q : VK) (due : List Int), Pre vs H due → (∀ (H' : Hp) (p : Addr), H' p = some (.lst (due.map V.int)) → Q (.ref p) H') → t (AnsE K CR Q) (L2.start ps vs) H Q) :
    FnOk P w K mg base CX0 (k + 3) f (PySem.W.fnOf x x (defArgs st) (defBody st) (defScope st) .none kV doc pm an (.ref c) ct) ps (spDesk T Pre) := by
  obtain ⟨oc1, od1, kV1, doc1, pm1, an1, cdv1, ct1, osl1, rfl, lk1, hcd1⟩ := DA.fn.ex
  refine fn_of lk hcd sc (fun vs H Q E h => ?_) (fun A outer s H vs Q E hr h => ?_)
  · obtain ⟨due, hp, _⟩ := h
    exact hlen vs H due hp
  · obtain ⟨due, hp, hTb, q⟩ := h
    rw [hst]
    refine ⟨_, pss_one (ps_ret (LamX.pe_lamcall (k := k) (T := [(T, _)]) (TT := TAns K CR) (Ng := ["work", "refusal"]) (t := t) hgl DA.g DA.fn.kp lk1 hcd1 DA.b scAnswered rfl (.inl rfl) (ans_gives gR) TB rfl
      (List.mem_singleton.mpr rfl) (fun p hp _ => by rw [List.mem_singleton.mp hp]) hr LS (hdef _) hbind
      (fun A' outer' s' H' E' f' c' hr' => hbody (.ref c) s H E A outer A' outer' s' H' E' f' c' hr'))), ?_⟩
    refine ⟨fun p hp => ?_, fun H1 e1 t1 => ?_⟩
    · rw [List.mem_singleton.mp hp]
      exact LamX.TabS.nil hTb
    · exact hread vs H1 Q due (hext vs H H1 due e1 hp) q
/-- one text -/
def preT (K : PySem.W.Frag) (due : List Nat → List Int) : List V → Hp → List Int → Prop := fun vs H d => ∃ (a : Addr) (t : List Nat), vs = [.ref a] ∧ Tx K H a t ∧ t.length ≤ 20000 ∧ d = due t
/-- two texts -/
def preTT (K : PySem.W.Frag) (due : List Nat → List Nat → List Int) : List V → Hp → List Int → Prop := fun vs H d => ∃ (a b : Addr) (t u : List Nat), vs = [.ref a, .ref b] ∧ Tx K H a t ∧ t.length ≤ 20000 ∧ Tx K H b u ∧ u.length ≤ 20000 ∧ d = due t u
/-- a list of ints, none of them great -/
def Pl (K : PySem.W.Frag) (H : Hp) (b : Addr) (l : List Int) : Prop := SqL K H b (l.map V.int) ∧ l.length ≤ 2000 ∧ ∀ n ∈ l, -1000000000000000000 ≤ n ∧ n ≤ 1000000000000000000
theorem Pl.ext {H H1 : Hp} {b : Addr} {l : List Int} (e : LamX.ExtN H H1) (p : Pl K H b l) : Pl K H1 b l := ⟨ext_seq e p.1, p.2⟩
theorem Pl.up {H H1 : Hp} {b : Addr} {l : List Int} (e : Same H H1) (p : Pl K H b l) : Pl K H1 b l := ⟨e.seq p.1, p.2⟩
/-- a text and a list -/
def preTL (K : PySem.W.Frag) (due : List Nat → List Int → List Int) : List V → Hp → List Int → Prop := fun vs H d => ∃ (a b : Addr) (t : List Nat) (l : List Int), vs = [.ref a, .ref b] ∧ Tx K H a t ∧ t.length ≤ 20000 ∧ Pl K H b l ∧ d = due t l
/-- a text, a list, a text -/
def preTLT (K : PySem.W.Frag) (due : List Nat → List Int → List Nat → List Int) : List V → Hp → List Int → Prop := fun vs H d => ∃ (a b c : Addr) (t : List Nat) (l : List Int) (u : List Nat), vs = [.ref a, .ref b, .ref c] ∧ Tx K H a t ∧ t.length ≤ 20000 ∧ Pl K H b l ∧ Tx K H c u ∧ u.length ≤ 20000 ∧ d = due t l u
/-- a number and a text -/
def preKT (K : PySem.W.Frag) (due : Int → List Nat → List Int) : List V → Hp → List Int → Prop := fun vs H d => ∃ (k : Int) (a : Addr) (t : List Nat), vs = [.int k, .ref a] ∧ (-1000000000000000000 ≤ k ∧ k ≤ 1000000000000000000) ∧ Tx K H a t ∧ t.length ≤ 20000 ∧ d = due k t
/-- a number and two texts -/
def preKTT (K : PySem.W.Frag) (due : Int → List Nat → List Nat → List Int) : List V → Hp → List Int → Prop := fun vs H d => ∃ (k : Int) (a b : Addr) (t u : List Nat), vs = [.int k, .ref a, .ref b] ∧ (-1000000000000000000 ≤ k ∧ k ≤ 1000000000000000000) ∧ Tx K H a t ∧ t.length ≤ 20000 ∧ Tx K H b u ∧ u.length ≤ 20000 ∧ d = due k t u
/-- a number and a list -/
def preKL (K : PySem.W.Frag) (due : Int → List Int → List Int) : List V → Hp → List Int → Prop := fun vs H d => ∃ (k : Int) (b : Addr) (l : List Int), vs = [.int k, .ref b] ∧ (-1000000000000000000 ≤ k ∧ k ≤ 1000000000000000000) ∧ Pl K H b l ∧ d = due k l
theorem preT_len {due : List Nat → List Int} : ∀ vs H d, preT K due vs H d → vs.length = 1 := fun _ _ _ ⟨_, _, e, _⟩ => by rw [e]; rfl
theorem preTT_len {due : List Nat → List Nat → List Int} : ∀ vs H d, preTT K due vs H d → vs.length = 2 := fun _ _ _ ⟨_, _, _, _, e, _⟩ => by rw [e]; rfl
theorem preTL_len {due : List Nat → List Int → List Int} : ∀ vs H d, preTL K due vs H d → vs.length = 2 := fun _ _ _ ⟨_, _, _, _, e, _⟩ => by rw [e]; rfl
theorem preTLT_len {due : List Nat → List Int → List Nat → List Int} : ∀ vs H d, preTLT K due vs H d → vs.length = 3 := fun _ _ _ ⟨_, _, _, _, _, _, e, _⟩ => by rw [e]; rfl
theorem preKT_len {due : Int → List Nat → List Int} : ∀ vs H d, preKT K due vs H d → vs.length = 2 := fun _ _ _ ⟨_, _, _, e, _⟩ => by rw [e]; rfl
theorem preKTT_len {due : Int → List Nat → List Nat → List Int} : ∀ vs H d, preKTT K due vs H d → vs.length = 3 := fun _ _ _ ⟨_, _, _, _, _, e, _⟩ => by rw [e]; rfl
theorem preKL_len {due : Int → List Int → List Int} : ∀ vs H d, preKL K due vs H d → vs.length = 2 := fun _ _ _ ⟨_, _, _, e, _⟩ => by rw [e]; rfl
theorem preT_ext {due : List Nat → List Int} : ∀ vs H H1 d, LamX.ExtN H H1 → preT K due vs H d → preT K due vs H1 d := fun _ _ _ _ x ⟨a, t, e, h, r⟩ => ⟨a, t, e, ext_seq x h, r⟩
theorem preTT_ext {due : List Nat → List Nat → List Int} : ∀ vs H H1 d, LamX.ExtN H H1 → preTT K due vs H d → preTT K due vs H1 d := fun _ _ _ _ x ⟨a, b, t, u, e, h, l, h2, r⟩ => ⟨a, b, t, u, e, ext_seq x h, l, ext_seq x h2, r⟩
theorem preTL_ext {due : List Nat → List Int → List Int} : ∀ vs H H1 d, LamX.ExtN H H1 → preTL K due vs H d → preTL K due vs H1 d := fun _ _ _ _ x ⟨a, b, t, l, e, h, hl, p, r⟩ => ⟨a, b, t, l, e, ext_seq x h, hl, p.ext x, r⟩
theorem preTLT_ext {due : List Nat → List Int → List Nat → List Int} : ∀ vs H H1 d, LamX.ExtN H H1 → preTLT K due vs H d → preTLT K due vs H1 d := fun _ _ _ _ x ⟨a, b, c, t, l, u, e, h, hl, p, h2, r⟩ => ⟨a, b, c, t, l, u, e, ext_seq x h, hl, p.ext x, ext_seq x h2, r⟩
theorem preKT_ext {due : Int → List Nat → List Int} : ∀ vs H H1 d, LamX.ExtN H H1 → preKT K due vs H d → preKT K due vs H1 d := fun _ _ _ _ x ⟨k, a, t, e, hk, h, r⟩ => ⟨k, a, t, e, hk, ext_seq x h, r⟩
theorem preKTT_ext {due : Int → List Nat → List Nat → List Int} : ∀ vs H H1 d, LamX.ExtN H H1 → preKTT K due vs H d → preKTT K due vs H1 d := fun _ _ _ _ x ⟨k, a, b, t, u, e, hk, h, l, h2, r⟩ => ⟨k, a, b, t, u, e, hk, ext_seq x h, l, ext_seq x h2, r⟩
theorem preKL_ext {due : Int → List Int → List Int} : ∀ vs H H1 d, LamX.ExtN H H1 → preKL K due vs H d → preKL K due vs H1 d := fun _ _ _ _ x ⟨k, b, l, e, hk, p, r⟩ => ⟨k, b, l, e, hk, p.ext x, r⟩
end
end NAp

namespace NAp
open PySem PySem.Spec PyProof.Rows L2 NA NAx
open PySem.W (Codec)
section
variable {P : Program} {w : World} {K : PySem.W.Frag} {mg : Str → Option Value} {base : Heap} {h : Heap}
/-! ### what the top has written, as it is looked up -/
/-- how the arguments of a def meet its parameters -/
def BindsAs (x q : Str) (st : Stmt) (ps : List Str) : Prop := ∀ (kV doc pm : Value) (an : Option Addr) (cdv ct : Value) (us : List Value), us.length = ps.length →
  bindArgs (PySem.W.fnOf x q (defArgs st) (defBody st) (defScope st) .none kV doc pm an cdv ct) ⟨us, []⟩ = pure (ps.zip us)
/-- the def of the statement st is written at f -/
def Wr (K : PySem.W.Frag) (x q : Str) (st : Stmt) (f : Addr) : Prop := ∃ (oc : Value) (od an : Option Addr) (osl : Array (Option Value)) (kV doc pm cdv ct : Value),
  K.lookup f = some ⟨oc, od, .func (PySem.W.fnOf x q (defArgs st) (defBody st) (defScope st) .none kV doc pm an cdv ct), osl⟩ ∧ PySem.W.codeIn K cdv q = true ∧ PySem.W.keepIn K (.ref f) = true
theorem wr_mk {x q : Str} {st : Stmt} {f : Addr} {oc : Value} {od an : Option Addr} {osl : Array (Option Value)} {kV doc pm cdv ct : Value}
    (l : K.lookup f = some ⟨oc, od, .func (PySem.W.fnOf x q (defArgs st) (defBody st) (defScope st) .none kV doc pm an cdv ct), osl⟩) (c : PySem.W.codeIn K cdv q = true) (k : PySem.W.keepIn K (.ref f) = true) : Wr K x q st f := ⟨oc, od, an, osl, kV, doc, pm, cdv, ct, l, c, k⟩
theorem Wr.fn {x q : Str} {st : Stmt} {f : Addr} (d : Wr K x q st f) : ∃ fd, Fun K x q st f fd := by
  obtain ⟨oc, od, an, osl, kV, doc, pm, cdv, ct, l, c, k⟩ := d
  exact ⟨_, fun_mk l c k⟩
def DF (K : PySem.W.Frag) (x : Str) (st : Stmt) : Prop := ∃ f, PySem.W.nsIn K mainGlobals x = some (some (.ref f)) ∧ Wr K x x st f
theorem df_mk {x : Str} {st : Stmt} {f : Addr} (a : PySem.W.nsIn K mainGlobals x = some (some (.ref f))) (d : Wr K x x st f) : DF K x st := ⟨f, a, d⟩
theorem DF.at {x : Str} {st : Stmt} {ps : List Str} (d : DF K x st) (b : BindsAs x x st ps) (X : K.In h) (G : h.Ns mainGlobals mg) : ∃ f fd, DefAt K mg x st ps f fd := by
  obtain ⟨f, a, d⟩ := d
  obtain ⟨fd, F⟩ := d.fn
  exact ⟨f, fd, F, PySem.W.mg_of X G a, F.binds b⟩
def CnF (K : PySem.W.Frag) (x : Str) (n : Int) : Prop := ∃ t, PySem.W.nsIn K mainGlobals x = some (some (.int n t))
theorem cnf_mk {x : Str} {n : Int} {t : Tok} (a : PySem.W.nsIn K mainGlobals x = some (some (.int n t))) : CnF K x n := ⟨t, a⟩
theorem CnF.at {x : Str} {n : Int} (c : CnF K x n) (X : K.In h) (G : h.Ns mainGlobals mg) : Cn mg x n := by
  obtain ⟨t, a⟩ := c
  exact ⟨t, PySem.W.mg_of X G a⟩
def CtF (K : PySem.W.Frag) (x : Str) (xs : List V) : Prop := ∃ (a : Addr) (its : Array Value) (n : Nat) (dd : Option Addr) (sl : Array (Option Value)), PySem.W.nsIn K mainGlobals x = some (some (.ref a)) ∧ K.lookup a = some ⟨.type "tuple", dd, .seq its n, sl⟩ ∧ its.size ≤ sizeLine ∧ Vals xs its.toList
theorem ctf_mk {x : Str} {xs : List V} {a : Addr} {its : Array Value} {n : Nat} {dd : Option Addr} {sl : Array (Option Value)} (e : PySem.W.nsIn K mainGlobals x = some (some (.ref a))) (l : K.lookup a = some ⟨.type "tuple", dd, .seq its n, sl⟩) (z : its.size ≤ sizeLine)
    (v : Vals xs its.toList) : CtF K x xs := ⟨a, its, n, dd, sl, e, l, z, v⟩
theorem CtF.at {x : Str} {xs : List V} (c : CtF K x xs) (X : K.In h) (G : h.Ns mainGlobals mg) : Ct K mg x xs := by
  obtain ⟨a, its, n, dd, sl, e, l, z, v⟩ := c
  exact ⟨a, PySem.W.mg_of X G e, fun _ => .inr ⟨_, its, n, l, rfl, rfl, z, v⟩⟩
/-- the class of all refusals -/
structure BaseF (K : PySem.W.Frag) (CR : Addr) : Prop where
  a : PySem.W.nsIn K mainGlobals "Refusal" = some (some (.ref CR))
  rd : PySem.W.readsIn K CR (.type "type") = true
  ga : PySem.W.specialIn K (.ref CR) "__getattribute__" = some (some (.builtin "type.__getattribute__"))
  fc : ∃ fR, PySem.W.findCls K (.ref CR) (.type "type") "__init__" = some (.val (.ref fR)) ∧ Wr K "__init__" "Refusal.__init__" si_Refusal fR
  ex : PySem.W.subIn K (.ref CR) (.type "BaseException") = some true
  ic : PySem.W.isClsIn K CR = true
  ty : PySem.W.typeIn K (.ref CR) = some (.type "type")
theorem basef_mk {CR fR : Addr} (a : PySem.W.nsIn K mainGlobals "Refusal" = some (some (.ref CR))) (rd : PySem.W.readsIn K CR (.type "type") = true) (ga : PySem.W.specialIn K (.ref CR) "__getattribute__" = some (some (.builtin "type.__getattribute__")))
    (fc : PySem.W.findCls K (.ref CR) (.type "type") "__init__" = some (.val (.ref fR))) (w : Wr K "__init__" "Refusal.__init__" si_Refusal fR) (ex : PySem.W.subIn K (.ref CR) (.type "BaseException") = some true) (ic : PySem.W.isClsIn K CR = true)
    (ty : PySem.W.typeIn K (.ref CR) = some (.type "type")) : BaseF K CR := ⟨a, rd, ga, ⟨fR, fc, w⟩, ex, ic, ty⟩
theorem BaseF.at {CR : Addr} (B : BaseF K CR) (X : K.In h) (G : h.Ns mainGlobals mg) : ∃ fR fdR, RefBase K mg CR fR fdR := by
  obtain ⟨fR, fc, w⟩ := B.fc
  obtain ⟨fd, F⟩ := w.fn
  exact ⟨fR, fd, PySem.W.mg_of X G B.a, B.rd, B.ga, fc, F, F.binds fun _ _ _ _ _ _ us hl => match us, hl with | [_, _], _ => rfl⟩
/-- an error of the class at C is what «except S» names, S a class above C -/
theorem exm_of {C S : Addr} (h1 : PySem.W.subIn K (.ref S) (.type "BaseException") = some true) (h2 : PySem.W.isClsIn K S = true) (h3 : PySem.W.typeIn K (.ref S) = some (.type "type")) (h4 : PySem.W.subIn K (.ref C) (.ref S) = some true) :
    PySem.W.exmOne K (.ref C) (.ref S) = some true := by
  have e2 : ((PySem.W.clsIn K S).isSome && PySem.W.typeIn K (.ref S) == some (.type "type")) = true := by
    rw [show (PySem.W.clsIn K S).isSome = true from h2, h3] <;> rfl
  have e3 : PySem.W.kitCls K (.ref C) (.ref S) = some true := (if_pos e2).trans h4
  unfold PySem.W.exmOne
  rw [h1]
  exact e3
/-- a refusal's class, called x: q is the name of its __init__, st the def -/
structure RefF (K : PySem.W.Frag) (CR : Addr) (x q : Str) (st : Stmt) (C fI : Addr) : Prop where
  a : PySem.W.nsIn K mainGlobals x = some (some (.ref C))
  cls : ∃ nm q N bs sn sub ab col dd k0 k1 k2 k3 k5, K.lookup C = some (excClassObj nm q C N bs [.ref CR, .type "Exception", .type "BaseException", .type "object"] true sn sub ab col dd k0 k1 k2 k3 k5 "Exception.__new__")
  sa : PySem.W.findIn K (.ref C) "__setattr__" = some (some (.builtin "object.__setattr__"))
  ga : PySem.W.findIn K (.ref C) "__getattribute__" = some (some (.builtin "BaseException.__getattribute__"))
  gg : PySem.W.findIn K (.ref C) "__getattr__" = some none
  no : PySem.W.findIn K (.ref C) "number" = some none
  iC : PySem.W.findIn K (.ref C) "__init__" = some (some (.ref fI))
  tI : PySem.W.typeIn K (.ref fI) = some (.type "function")
  kC : PySem.W.keepIn K (.ref C) = true
  ex : PySem.W.subIn K (.ref C) (.type "BaseException") = some true
  ty : PySem.W.typeIn K (.ref C) = some (.type "type")
  hd : PySem.W.hasDictIn K C = true
  up : PySem.W.subIn K (.ref C) (.ref CR) = some true
  w : Wr K "__init__" q st fI
theorem reff_mk {CR : Addr} {x q : Str} {st : Stmt} {C fI : Addr} {nm qn : Str} {N : Addr} {bs : List Value} {sn : List Str} {sub : List Value} {ab : Bool} {col : Option Bool} {dd : Option Addr} {m0 m1 m2 m3 m5 : Option Value}
    (a : PySem.W.nsIn K mainGlobals x = some (some (.ref C))) (l : K.lookup C = some (excClassObj nm qn C N bs [.ref CR, .type "Exception", .type "BaseException", .type "object"] true sn sub ab col dd m0 m1 m2 m3 m5 "Exception.__new__"))
    (sa : PySem.W.findIn K (.ref C) "__setattr__" = some (some (.builtin "object.__setattr__"))) (ga : PySem.W.findIn K (.ref C) "__getattribute__" = some (some (.builtin "BaseException.__getattribute__"))) (gg : PySem.W.findIn K (.ref C) "__getattr__" = some none)
    (no : PySem.W.findIn K (.ref C) "number" = some none) (iC : PySem.W.findIn K (.ref C) "__init__" = some (some (.ref fI))) (tI : PySem.W.typeIn K (.ref fI) = some (.type "function")) (kC : PySem.W.keepIn K (.ref C) = true)
    (ex : PySem.W.subIn K (.ref C) (.type "BaseException") = some true) (ty : PySem.W.typeIn K (.ref C) = some (.type "type")) (hd : PySem.W.hasDictIn K C = true) (up : PySem.W.subIn K (.ref C) (.ref CR) = some true) (w : Wr K "__init__" q st fI) :
    ∃ C fI, RefF K CR x q st C fI := ⟨C, fI, a, ⟨_, _, _, _, _, _, _, _, _, _, _, _, _, _, l⟩, sa, ga, gg, no, iC, tI, kC, ex, ty, hd, up, w⟩
theorem RefF.at {CR C fI : Addr} {x q : Str} {st : Stmt} (R : RefF K CR x q st C fI) (B : BaseF K CR) (X : K.In h) (G : h.Ns mainGlobals mg) : RefCls K mg CR x C fI where
  g := PySem.W.mg_of X G R.a
  ox := by
    obtain ⟨nm, q, N, bs, sn, sub, ab, col, dd, k0, k1, k2, k3, k5, l⟩ := R.cls
    exact ⟨⟨nm, q, N, bs, _, sn, sub, ab, col, dd, k0, k1, k2, k3, k5, l, [CR], rfl⟩, R.sa, R.ex, R.ty, R.kC⟩
  no := R.no
  iC := R.iC
  tI := R.tI
  xf := ⟨R.ga, R.gg, R.ex, R.hd⟩
  te := exm_of B.ex B.ic B.ty R.up
/-- the row's def: its code object, the table of that -/
structure TopF (K : PySem.W.Frag) (x : Str) (st : Stmt) (f c T : Addr) : Prop where
  a : PySem.W.nsIn K mainGlobals x = some (some (.ref f))
  l : ∃ (oc : Value) (od an : Option Addr) (osl : Array (Option Value)) (kV doc pm ct : Value), K.lookup f = some ⟨oc, od, .func (PySem.W.fnOf x x (defArgs st) (defBody st) (defScope st) .none kV doc pm an (.ref c) ct), osl⟩
  cd : PySem.W.codeIn K (.ref c) x = true
  lc : ∃ (oc2 : Value) (od2 : Option Addr) (vs : Array Value) (sl2 : Array (Option Value)), K.lookup c = some ⟨oc2, od2, .fields vs, sl2⟩ ∧ vs[11]? = some (.ref T)
  nT : K.lookup T = none
theorem topf_mk {x : Str} {st : Stmt} {f c T : Addr} {oc oc2 : Value} {od an od2 : Option Addr} {osl sl2 : Array (Option Value)} {kV doc pm ct : Value} {vs : Array Value} (a : PySem.W.nsIn K mainGlobals x = some (some (.ref f)))
    (l : K.lookup f = some ⟨oc, od, .func (PySem.W.fnOf x x (defArgs st) (defBody st) (defScope st) .none kV doc pm an (.ref c) ct), osl⟩) (cd : PySem.W.codeIn K (.ref c) x = true) (lc : K.lookup c = some ⟨oc2, od2, .fields vs, sl2⟩) (hv : vs[11]? = some (.ref T))
    (nT : K.lookup T = none) : ∃ f c T, TopF K x st f c T := ⟨f, c, T, a, ⟨_, _, _, _, _, _, _, _, l⟩, cd, ⟨_, _, _, _, lc, hv⟩, nT⟩
theorem bts_back (ns : List Int) (hb : ∀ x ∈ ns, 0 ≤ x ∧ x ≤ 255) : bts (ns.map Int.toNat) = ns.map V.int := by
  unfold bts
  rw [List.map_map]
  refine List.map_congr_left fun x hx => ?_
  have := hb x hx
  show V.int ((x.toNat : Nat) : Int) = V.int x
  rw [Int.toNat_of_nonneg this.1]
theorem tx_back {H : Hp} {a : Addr} {ns : List Int} (hb : ∀ x ∈ ns, 0 ≤ x ∧ x ≤ 255) (hs : SqL K H a (ns.map V.int)) : Tx K H a (ns.map Int.toNat) := by
  show SqL K H a (bts (ns.map Int.toNat))
  rw [bts_back _ hb]
  exact hs
end
end NAp

namespace NAp
open PySem PySem.Spec PyProof.Rows L2 NA NAx
open PySem.W (Codec)
section
variable {P : Program} {w : World} {K : PySem.W.Frag} {mg : Str → Option Value} {base : Heap} {h : Heap}
theorem all_mk {w : World} {K : PySem.W.Frag} {q : Program} {loose : List Str} {mean : ExcName → Option Value} {mg mb : Str → Option Value} {h : Heap} {fa CR : Addr} {d : DefRec} (X : K.In h) (TP : Top q loose mean mg mb h) (hfa : mg "where" = some (.ref fa))
    (hrec : (recsOf q).find? (fun e => e.name == ("where" : Str)) = some d)
    (base : BaseF K CR)
    (r_LongRefusal : ∃ C fI, RefF K CR "LongRefusal" "LongRefusal.__init__" si_LongRefusal C fI)
    (c_BLANKS : CtF K "BLANKS" [.int 32, .int 9, .int 10, .int 13])
    (c_OPENING : CnF K "OPENING" 91)
    (c_COLON : CnF K "COLON" 58)
    (c_CLOSING : CnF K "CLOSING" 93)
    (c_SIGNS : CtF K "SIGNS" [.int 91, .int 58, .int 93])
    (c_MINUS : CnF K "MINUS" 95)
    (c_ZERO : CnF K "ZERO" 48)
    (c_NINE : CnF K "NINE" 57)
    (c_AT_START : CnF K "AT_START" 0)
    (c_AMONG_EXTENTS : CnF K "AMONG_EXTENTS" 1)
    (c_AMONG_ITEMS : CnF K "AMONG_ITEMS" 2)
    (c_AT_END : CnF K "AT_END" 3)
    (c_LONGEST_TEXT : CnF K "LONGEST_TEXT" 8192)
    (n_len : PySem.W.nsIn K mainGlobals "len" = some none)
    (d_is_digit : DF K "is_digit" s_is_digit)
    (d_blanks_end : DF K "blanks_end" s_blanks_end)
    (d_digits_end : DF K "digits_end" s_digits_end)
    (d_digits_start : DF K "digits_start" s_digits_start)
    (d_token_end : DF K "token_end" s_token_end)
    (d_tokens_of : DF K "tokens_of" s_tokens_of)
    (d_can_stand : DF K "can_stand" s_can_stand)
    (d_go_past : DF K "go_past" s_go_past)
    (d_fault_position : DF K "fault_position" s_fault_position)
    (d_check_length : DF K "check_length" s_check_length)
    (d_answered : DF K "answered" s_answered)
    (d_where_answer : DF K "where_answer" s_where_answer)
    (t : ∃ f c T, TopF K "where" s_where f c T) :
    SpecAt PySem.Challenge.rw_nestarray_s01_where w K CX0 8 ["v"] mg h fa := by
  have G := TP.g
  obtain ⟨f, c, T, t⟩ := t
  obtain ⟨oc, od, an, osl, kV, doc, pm, ct, lk⟩ := t.l
  obtain ⟨oc2, od2, vs, sl2, lc, hv⟩ := t.lc
  have tab := tab_at TP X hrec t.a lk rfl lc hv
  cases hfa.symm.trans (PySem.W.mg_of X G t.a)
  obtain ⟨fR, fdR, RB⟩ := base.at X G
  obtain ⟨C_LongRefusal, fI_LongRefusal, r_LongRefusal⟩ := r_LongRefusal
  have T_LongRefusal := r_LongRefusal.at base X G
  obtain ⟨fd_LongRefusal, F_LongRefusal⟩ := r_LongRefusal.w.fn
  have b_LongRefusal := F_LongRefusal.binds (ps := ["self"]) fun _ _ _ _ _ _ us hl => match us, hl with | [_], _ => rfl
  replace c_BLANKS := c_BLANKS.at X G
  replace c_OPENING := c_OPENING.at X G
  replace c_COLON := c_COLON.at X G
  replace c_CLOSING := c_CLOSING.at X G
  replace c_SIGNS := c_SIGNS.at X G
  replace c_MINUS := c_MINUS.at X G
  replace c_ZERO := c_ZERO.at X G
  replace c_NINE := c_NINE.at X G
  replace c_AT_START := c_AT_START.at X G
  replace c_AMONG_EXTENTS := c_AMONG_EXTENTS.at X G
  replace c_AMONG_ITEMS := c_AMONG_ITEMS.at X G
  replace c_AT_END := c_AT_END.at X G
  replace c_LONGEST_TEXT := c_LONGEST_TEXT.at X G
  replace n_len := PySem.W.mg_none_of X G n_len
  obtain ⟨f_is_digit, fd_is_digit, D_is_digit⟩ := d_is_digit.at (ps := ["byte"]) (fun _ _ _ _ _ _ us hl => match us, hl with | [_], _ => rfl) X G
  obtain ⟨f_blanks_end, fd_blanks_end, D_blanks_end⟩ := d_blanks_end.at (ps := ["text", "start"]) (fun _ _ _ _ _ _ us hl => match us, hl with | [_, _], _ => rfl) X G
  obtain ⟨f_digits_end, fd_digits_end, D_digits_end⟩ := d_digits_end.at (ps := ["text", "start"]) (fun _ _ _ _ _ _ us hl => match us, hl with | [_, _], _ => rfl) X G
  obtain ⟨f_digits_start, fd_digits_start, D_digits_start⟩ := d_digits_start.at (ps := ["text", "start"]) (fun _ _ _ _ _ _ us hl => match us, hl with | [_, _], _ => rfl) X G
  obtain ⟨f_token_end, fd_token_end, D_token_end⟩ := d_token_end.at (ps := ["text", "start"]) (fun _ _ _ _ _ _ us hl => match us, hl with | [_, _], _ => rfl) X G
  obtain ⟨f_tokens_of, fd_tokens_of, D_tokens_of⟩ := d_tokens_of.at (ps := ["text"]) (fun _ _ _ _ _ _ us hl => match us, hl with | [_], _ => rfl) X G
  obtain ⟨f_can_stand, fd_can_stand, D_can_stand⟩ := d_can_stand.at (ps := ["place", "byte"]) (fun _ _ _ _ _ _ us hl => match us, hl with | [_, _], _ => rfl) X G
  obtain ⟨f_go_past, fd_go_past, D_go_past⟩ := d_go_past.at (ps := ["places", "byte"]) (fun _ _ _ _ _ _ us hl => match us, hl with | [_, _], _ => rfl) X G
  obtain ⟨f_fault_position, fd_fault_position, D_fault_position⟩ := d_fault_position.at (ps := ["text", "tokens"]) (fun _ _ _ _ _ _ us hl => match us, hl with | [_, _], _ => rfl) X G
  obtain ⟨f_check_length, fd_check_length, D_check_length⟩ := d_check_length.at (ps := ["text"]) (fun _ _ _ _ _ _ us hl => match us, hl with | [_], _ => rfl) X G
  obtain ⟨f_answered, fd_answered, D_answered⟩ := d_answered.at (ps := ["work"]) (fun _ _ _ _ _ _ us hl => match us, hl with | [_], _ => rfl) X G
  obtain ⟨f_where_answer, fd_where_answer, D_where_answer⟩ := d_where_answer.at (ps := ["text"]) (fun _ _ _ _ _ _ us hl => match us, hl with | [_], _ => rfl) X G
  refine ⟨PySem.W.fnOf "where" "where" (defArgs s_where) (defBody s_where) (defScope s_where) .none kV doc pm an (.ref c) ct, [(c, T)], spDesk1 K T dueWhere, fun p hp => ?_, fun p hp => ?_, fun s us hu => match us, hu with | [_], _ => .of_eq rfl, fun bs hK hG hTB => ?_, fun H xs a hH hwi hask hx => ?_⟩
  · rw [List.mem_singleton.mp hp]
    exact tab
  · rw [List.mem_singleton.mp hp]
    exact t.nT
  · have G_Refusal : FnOk PySem.Challenge.rw_nestarray_s01_where.prog w K mg bs CX0 1 fR fdR ["self", "number"] (spRInit K) := ok_rinit RB.fn
    have G_LongRefusal : FnOk PySem.Challenge.rw_nestarray_s01_where.prog w K mg bs CX0 2 fI_LongRefusal fd_LongRefusal ["self"] (spOInit K (-1)) := ok_init_LongRefusal F_LongRefusal RB G_Refusal
    have G_is_digit : FnOk PySem.Challenge.rw_nestarray_s01_where.prog w K mg bs CX0 1 f_is_digit fd_is_digit ["byte"] (spDigit) := ok_is_digit D_is_digit.fn c_ZERO c_NINE
    have G_blanks_end : FnOk PySem.Challenge.rw_nestarray_s01_where.prog w K mg bs CX0 1 f_blanks_end fd_blanks_end ["text", "start"] (spBlanksEnd K) := ok_blanks_end D_blanks_end.fn c_BLANKS n_len
    have G_digits_end : FnOk PySem.Challenge.rw_nestarray_s01_where.prog w K mg bs CX0 2 f_digits_end fd_digits_end ["text", "start"] (spDigitsEnd K) := ok_digits_end D_digits_end.fn D_is_digit G_is_digit n_len
    have G_digits_start : FnOk PySem.Challenge.rw_nestarray_s01_where.prog w K mg bs CX0 1 f_digits_start fd_digits_start ["text", "start"] (spDigitsStart K) := ok_digits_start D_digits_start.fn c_MINUS
    have G_token_end : FnOk PySem.Challenge.rw_nestarray_s01_where.prog w K mg bs CX0 3 f_token_end fd_token_end ["text", "start"] (spTokenEnd K) := ok_token_end D_token_end.fn c_SIGNS c_ZERO D_digits_start G_digits_start D_digits_end G_digits_end
    have G_tokens_of : FnOk PySem.Challenge.rw_nestarray_s01_where.prog w K mg bs CX0 4 f_tokens_of fd_tokens_of ["text"] (spTokensOf K) := ok_tokens_of D_tokens_of.fn n_len D_blanks_end G_blanks_end D_token_end G_token_end
    have G_can_stand : FnOk PySem.Challenge.rw_nestarray_s01_where.prog w K mg bs CX0 2 f_can_stand fd_can_stand ["place", "byte"] (spCanStand) := ok_can_stand D_can_stand.fn c_AT_START c_AMONG_EXTENTS c_AMONG_ITEMS c_COLON c_CLOSING D_is_digit G_is_digit
    have G_go_past : FnOk PySem.Challenge.rw_nestarray_s01_where.prog w K mg bs CX0 1 f_go_past fd_go_past ["places", "byte"] (spGoPast) := ok_go_past D_go_past.fn c_AMONG_EXTENTS c_AMONG_ITEMS c_AT_END c_OPENING c_COLON c_CLOSING n_len
    have G_fault_position : FnOk PySem.Challenge.rw_nestarray_s01_where.prog w K mg bs CX0 3 f_fault_position fd_fault_position ["text", "tokens"] (spFault K) := ok_fault D_fault_position.fn c_AT_START c_AT_END n_len D_can_stand G_can_stand D_go_past G_go_past
    have G_check_length : FnOk PySem.Challenge.rw_nestarray_s01_where.prog w K mg bs (L2.CX PySem.Challenge.rw_nestarray_s01_where.prog w) 4 f_check_length fd_check_length ["text"] (spCheckLength K C_LongRefusal) := ok_check_length D_check_length.fn n_len c_LONGEST_TEXT T_LongRefusal G_LongRefusal b_LongRefusal
    have G_where_answer : FnOk PySem.Challenge.rw_nestarray_s01_where.prog w K mg bs (L2.CX PySem.Challenge.rw_nestarray_s01_where.prog w) 5 f_where_answer fd_where_answer ["text"] (spWhereAnswer K C_LongRefusal) := ok_where_answer D_where_answer.fn D_check_length G_check_length D_tokens_of G_tokens_of D_fault_position G_fault_position
    exact ok_where lk t.cd (hTB _ (List.mem_singleton.mpr rfl)) D_answered RB.g T_LongRefusal D_where_answer G_where_answer
  · cases hx with
    | cons h1 h2 =>
      cases h2
      cases h1 with
      | lst hs ha =>
        have e := ints_dw a.1 _ ha
        subst e
        have q : ((Codec.inLen 0 20000 a.1 && a.1.all (Codec.inInt 0 255)) && true) = true := hwi
        rw [Bool.and_eq_true, Bool.and_eq_true] at q
        have hb : ∀ x ∈ a.1, 0 ≤ x ∧ x ≤ 255 := fun x hx => Codec.inInt_iff.mp (List.all_eq_true.mp q.1.2 x hx)
        refine ⟨_, a.1.map Int.toNat, rfl, tx_back hb hs, ?_, hH _ (List.mem_singleton.mpr rfl), fun H' p hp => ?_⟩
        · rw [List.length_map]
          exact (Codec.inNat_iff.mp q.1.1).2
        · have e : Codec.app PySem.Challenge.rw_nestarray_s01_where.args PySem.Challenge.rw_nestarray_s01_where.f a = dueWhere (a.1.map Int.toNat) := due_where a.1 hb
          rw [e]
          exact .lst (SqL.of hp) (dw_ints _)
end
end NAp

open PySem PySem.W PyProof.Rows
set_option maxRecDepth 100000 in
set_option maxHeartbeats 8000000 in
theorem PySem.Challenge.cw_nestarray_s01_where_holds : PySem.Challenge.rw_nestarray_s01_where.Holds := by
  w_on; k_headS; (case hw => exact ⟨[.list []], by decide +kernel, by decide +kernel⟩)
  k_fillS
  refine NAx.walk_specT (r := PySem.Challenge.rw_nestarray_s01_where) (k := 8) (CX := L2.CX0) (ps := ["v"]) (by decide +kernel) rfl ⟨rfl, by decide, by decide⟩ (fun w h Y => PySem.W.kIn_of Y) ?F (fun _ _ _ _ z => z)
  case F =>
    intro w mg mb mean fa h KX TP hmg
    refine' NAp.all_mk KX TP hmg ?hrec ?base ?r_LongRefusal ?c_BLANKS ?c_OPENING ?c_COLON ?c_CLOSING ?c_SIGNS ?c_MINUS ?c_ZERO ?c_NINE ?c_AT_START ?c_AMONG_EXTENTS ?c_AMONG_ITEMS ?c_AT_END ?c_LONGEST_TEXT ?n_len ?d_is_digit ?d_blanks_end ?d_digits_end ?d_digits_start ?d_token_end ?d_tokens_of ?d_can_stand ?d_go_past ?d_fault_position ?d_check_length ?d_answered ?d_where_answer ?t
    (case hrec => rfl)
    (case base => refine' NAp.basef_mk ?a ?rd ?ga ?fc ?w ?ex ?ic ?ty; (case a => k_is); (case rd => k_is); (case ga => k_is); (case fc => k_is); (case w => (refine' NAp.wr_mk ?l ?c ?k; (case l => k_is); (case c => k_is); (case k => k_is))); (case ex => k_is); (case ic => k_is); (case ty => k_is))
    (case r_LongRefusal => refine' NAp.reff_mk ?a ?l ?sa ?ga ?gg ?no ?iC ?tI ?kC ?ex ?ty ?hd ?up ?w; (case a => k_is); (case l => k_is); (case sa => k_is); (case ga => k_is); (case gg => k_is); (case no => k_is); (case iC => k_is); (case tI => k_is); (case kC => k_is); (case ex => k_is); (case ty => k_is); (case hd => k_is); (case up => k_is); (case w => (refine' NAp.wr_mk ?l ?c ?k; (case l => k_is); (case c => k_is); (case k => k_is))))
    (case c_BLANKS => refine' NAp.ctf_mk ?e ?l ?z ?v; (case e => k_is); (case l => k_is); (case z => decide); (case v => exact .cons ⟨_, rfl⟩ (.cons ⟨_, rfl⟩ (.cons ⟨_, rfl⟩ (.cons ⟨_, rfl⟩ (.nil))))))
    (case c_OPENING => refine' NAp.cnf_mk ?a; (case a => k_is))
    (case c_COLON => refine' NAp.cnf_mk ?a; (case a => k_is))
    (case c_CLOSING => refine' NAp.cnf_mk ?a; (case a => k_is))
    (case c_SIGNS => refine' NAp.ctf_mk ?e ?l ?z ?v; (case e => k_is); (case l => k_is); (case z => decide); (case v => exact .cons ⟨_, rfl⟩ (.cons ⟨_, rfl⟩ (.cons ⟨_, rfl⟩ (.nil)))))
    (case c_MINUS => refine' NAp.cnf_mk ?a; (case a => k_is))
    (case c_ZERO => refine' NAp.cnf_mk ?a; (case a => k_is))
    (case c_NINE => refine' NAp.cnf_mk ?a; (case a => k_is))
    (case c_AT_START => refine' NAp.cnf_mk ?a; (case a => k_is))
    (case c_AMONG_EXTENTS => refine' NAp.cnf_mk ?a; (case a => k_is))
    (case c_AMONG_ITEMS => refine' NAp.cnf_mk ?a; (case a => k_is))
    (case c_AT_END => refine' NAp.cnf_mk ?a; (case a => k_is))
    (case c_LONGEST_TEXT => refine' NAp.cnf_mk ?a; (case a => k_is))
    (case n_len => k_is)
    (case d_is_digit => refine' NAp.df_mk ?a ?d; (case a => k_is); (case d => (refine' NAp.wr_mk ?l ?c ?k; (case l => k_is); (case c => k_is); (case k => k_is))))
    (case d_blanks_end => refine' NAp.df_mk ?a ?d; (case a => k_is); (case d => (refine' NAp.wr_mk ?l ?c ?k; (case l => k_is); (case c => k_is); (case k => k_is))))
    (case d_digits_end => refine' NAp.df_mk ?a ?d; (case a => k_is); (case d => (refine' NAp.wr_mk ?l ?c ?k; (case l => k_is); (case c => k_is); (case k => k_is))))
    (case d_digits_start => refine' NAp.df_mk ?a ?d; (case a => k_is); (case d => (refine' NAp.wr_mk ?l ?c ?k; (case l => k_is); (case c => k_is); (case k => k_is))))
    (case d_token_end => refine' NAp.df_mk ?a ?d; (case a => k_is); (case d => (refine' NAp.wr_mk ?l ?c ?k; (case l => k_is); (case c => k_is); (case k => k_is))))
    (case d_tokens_of => refine' NAp.df_mk ?a ?d; (case a => k_is); (case d => (refine' NAp.wr_mk ?l ?c ?k; (case l => k_is); (case c => k_is); (case k => k_is))))
    (case d_can_stand => refine' NAp.df_mk ?a ?d; (case a => k_is); (case d => (refine' NAp.wr_mk ?l ?c ?k; (case l => k_is); (case c => k_is); (case k => k_is))))
    (case d_go_past => refine' NAp.df_mk ?a ?d; (case a => k_is); (case d => (refine' NAp.wr_mk ?l ?c ?k; (case l => k_is); (case c => k_is); (case k => k_is))))
    (case d_fault_position => refine' NAp.df_mk ?a ?d; (case a => k_is); (case d => (refine' NAp.wr_mk ?l ?c ?k; (case l => k_is); (case c => k_is); (case k => k_is))))
    (case d_check_length => refine' NAp.df_mk ?a ?d; (case a => k_is); (case d => (refine' NAp.wr_mk ?l ?c ?k; (case l => k_is); (case c => k_is); (case k => k_is))))
    (case d_answered => refine' NAp.df_mk ?a ?d; (case a => k_is); (case d => (refine' NAp.wr_mk ?l ?c ?k; (case l => k_is); (case c => k_is); (case k => k_is))))
    (case d_where_answer => refine' NAp.df_mk ?a ?d; (case a => k_is); (case d => (refine' NAp.wr_mk ?l ?c ?k; (case l => k_is); (case c => k_is); (case k => k_is))))
    (case t => refine' NAp.topf_mk ?a ?l ?cd ?lc ?hv ?nT; (case a => k_is); (case l => k_is); (case cd => k_is); (case lc => k_is); (case hv => rfl); (case nT => rfl))
#print axioms PySem.Challenge.cw_nestarray_s01_where_holds
