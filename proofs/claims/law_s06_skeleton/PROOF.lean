import PyProof.Rows.All
import Wide.All
import OpenK.AllK
import Wide.FinOn
import PyProof.EqAt
import PyProof.EqKinds
import PyProof.TupleCall
import Open.SpecLaws
import KE.OsGo
import HandS.ForSpec
import HandS.Lambda
import HandS.ExcInit
import HandS.ExcField
import HandS.SortKw
import HandS.IsInst
import HandS.Comp
import HandS.Text
import HandS.Iter
import HandS.Walk
import KE.DataMinMax
import HandS.TupLe
import HandS.Zip
import HandS.Rev
import HandS.More
import HandS.Nested
import PySem.Challenge.RW_nestarray_s06_skeleton
set_option Elab.async false
set_option linter.all false
set_option maxRecDepth 100000
set_option maxHeartbeats 4000000
namespace NA
open Vaarrm

/-! ### the program's tokens, by positions -/
def blanksEnd (t : List Nat) (i : Nat) : Nat := i + ((t.drop i).takeWhile blank).length
def digitsEnd (t : List Nat) (i : Nat) : Nat := i + ((t.drop i).takeWhile digit).length
def isSign (c : Nat) : Bool := c == 91 || (c == 58 || c == 93)
def first (t : List Nat) (s : Nat) : Nat := if t.getD s 0 = 95 then s + 1 else s
def tokenEnd (t : List Nat) (s : Nat) : Nat :=
  if isSign (t.getD s 0) = true then s + 1
  else if digitsEnd t (first t s) = first t s then s
  else if t.getD (first t s) 0 = 48 ∧ 1 < digitsEnd t (first t s) - s then s
  else digitsEnd t (first t s)
def toksF : Nat → List Nat → Nat → List (Nat × Nat)
  | 0, _, _ => []
  | k + 1, t, s => if s < t.length then (s, tokenEnd t s) :: (if tokenEnd t s = s then [] else toksF k t (blanksEnd t (tokenEnd t s))) else []
def toksAt (t : List Nat) (s : Nat) : List (Nat × Nat) := toksF (t.length + 1 - s) t s
def toks (t : List Nat) : List (Nat × Nat) := toksAt t (blanksEnd t 0)
def numTold (t : List Nat) (s e : Nat) : Int :=
  if t.getD s 0 = 95 then -((valueOf ((t.drop (first t s)).take (e - first t s)) : Nat) : Int) else ((valueOf ((t.drop (first t s)).take (e - first t s)) : Nat) : Int)
def tokOf (t : List Nat) (s e : Nat) : Token := if isSign (t.getD s 0) = true then .sign (t.getD s 0) else .num (numTold t s e)
def specToks (t : List Nat) : List (Nat × Nat) → Toks
  | [] => [(t.length, .none)]
  | x :: r => if x.2 = x.1 then [(x.1, .none)] else (x.1, tokOf t x.1 x.2) :: specToks t r

theorem takeWhile_len_le {α : Type} (p : α → Bool) : ∀ l : List α, (l.takeWhile p).length ≤ l.length
  | [] => Nat.le_refl _
  | a :: r => by
    rw [List.takeWhile_cons]
    split
    · simp only [List.length_cons]; exact Nat.succ_le_succ (takeWhile_len_le p r)
    · exact Nat.zero_le _
theorem digitsEnd_le {t : List Nat} {i : Nat} (h : i ≤ t.length) : digitsEnd t i ≤ t.length := by
  unfold digitsEnd
  have := takeWhile_len_le digit (t.drop i)
  rw [List.length_drop] at this
  omega
theorem digitsEnd_ge (t : List Nat) (i : Nat) : i ≤ digitsEnd t i := Nat.le_add_right _ _
theorem blanksEnd_le {t : List Nat} {i : Nat} (h : i ≤ t.length) : blanksEnd t i ≤ t.length := by
  unfold blanksEnd
  have := takeWhile_len_le blank (t.drop i)
  rw [List.length_drop] at this
  omega
theorem blanksEnd_ge (t : List Nat) (i : Nat) : i ≤ blanksEnd t i := Nat.le_add_right _ _
theorem first_ge (t : List Nat) (s : Nat) : s ≤ first t s := by unfold first; split <;> omega
theorem first_le (t : List Nat) (s : Nat) : first t s ≤ s + 1 := by unfold first; split <;> omega
theorem tokenEnd_ge (t : List Nat) (s : Nat) : s ≤ tokenEnd t s := by
  unfold tokenEnd
  have h1 := first_ge t s
  have h2 := digitsEnd_ge t (first t s)
  split
  · omega
  · split
    · omega
    · split <;> omega
theorem tokenEnd_le {t : List Nat} {s : Nat} (h : s < t.length) : tokenEnd t s ≤ t.length := by
  unfold tokenEnd
  have h1 := first_le t s
  have h2 := digitsEnd_le (t := t) (i := first t s) (by omega)
  split
  · omega
  · split
    · omega
    · split <;> omega
theorem toksF_more : ∀ (k k' : Nat) (t : List Nat) (s : Nat), t.length < s + k → t.length < s + k' → toksF k t s = toksF k' t s
  | 0, 0, _, _, _, _ => rfl
  | 0, k' + 1, t, s, h, _ => by
    show [] = if s < t.length then _ else _
    rw [if_neg (by omega)]
  | k + 1, 0, t, s, _, h => by
    show (if s < t.length then _ else _) = []
    rw [if_neg (by omega)]
  | k + 1, k' + 1, t, s, h, h' => by
    show (if s < t.length then (s, tokenEnd t s) :: (if tokenEnd t s = s then [] else toksF k t (blanksEnd t (tokenEnd t s))) else []) = if s < t.length then (s, tokenEnd t s) :: (if tokenEnd t s = s then [] else toksF k' t (blanksEnd t (tokenEnd t s))) else []
    by_cases c : tokenEnd t s = s
    · rw [if_pos c, if_pos c]
    · have h1 := tokenEnd_ge t s
      have h2 := blanksEnd_ge t (tokenEnd t s)
      rw [if_neg c, if_neg c, toksF_more k k' t _ (by omega) (by omega)]
theorem toksAt_end {t : List Nat} {s : Nat} (h : ¬ s < t.length) : toksAt t s = [] := by
  unfold toksAt
  cases e : t.length + 1 - s with
  | zero => rfl
  | succ k => exact if_neg h
theorem toksAt_bad {t : List Nat} {s : Nat} (h : s < t.length) (c : tokenEnd t s = s) : toksAt t s = [(s, s)] := by
  unfold toksAt
  obtain ⟨k, e⟩ : ∃ k, t.length + 1 - s = k + 1 := ⟨t.length - s, by omega⟩
  rw [e]
  show (if s < t.length then (s, tokenEnd t s) :: (if tokenEnd t s = s then [] else toksF k t (blanksEnd t (tokenEnd t s))) else []) = _
  rw [if_pos h, if_pos c, c]
theorem toksAt_step {t : List Nat} {s : Nat} (h : s < t.length) (c : tokenEnd t s ≠ s) : toksAt t s = (s, tokenEnd t s) :: toksAt t (blanksEnd t (tokenEnd t s)) := by
  unfold toksAt
  obtain ⟨k, e⟩ : ∃ k, t.length + 1 - s = k + 1 := ⟨t.length - s, by omega⟩
  rw [e]
  show (if s < t.length then (s, tokenEnd t s) :: (if tokenEnd t s = s then [] else toksF k t (blanksEnd t (tokenEnd t s))) else []) = _
  have h1 := tokenEnd_ge t s
  have h2 := blanksEnd_ge t (tokenEnd t s)
  rw [if_pos h, if_neg c, toksF_more k (t.length + 1 - blanksEnd t (tokenEnd t s)) t _ (by omega) (by omega)]

/-! ### the text by its rest -/
theorem drop_cons {t : List Nat} {s : Nat} (h : s < t.length) : t.drop s = t.getD s 0 :: t.drop (s + 1) := by
  rw [List.drop_eq_getElem_cons h, List.getD_eq_getElem?_getD, List.getElem?_eq_getElem h]
  rfl
theorem drop_takeWhile {α : Type} (p : α → Bool) : ∀ l : List α, l.drop (l.takeWhile p).length = l.dropWhile p
  | [] => rfl
  | a :: r => by
    rw [List.takeWhile_cons, List.dropWhile_cons]
    split
    · exact drop_takeWhile p r
    · rfl
theorem take_takeWhile {α : Type} (p : α → Bool) : ∀ l : List α, l.take (l.takeWhile p).length = l.takeWhile p
  | [] => rfl
  | a :: r => by
    rw [List.takeWhile_cons]
    split
    · simp only [List.length_cons, List.take_succ_cons]; rw [take_takeWhile p r]
    · rfl
theorem blanksEnd_blank {t : List Nat} {p : Nat} (h : p < t.length) (b : blank (t.getD p 0) = true) : blanksEnd t p = blanksEnd t (p + 1) := by
  unfold blanksEnd
  rw [drop_cons h, List.takeWhile_cons, if_pos b, List.length_cons]
  omega
theorem blanksEnd_not {t : List Nat} {p : Nat} (h : p < t.length) (b : ¬ blank (t.getD p 0) = true) : blanksEnd t p = p := by
  unfold blanksEnd
  rw [drop_cons h, List.takeWhile_cons, if_neg b]
  rfl
theorem blanksEnd_end {t : List Nat} {p : Nat} (h : ¬ p < t.length) : blanksEnd t p = p := by
  unfold blanksEnd
  rw [List.drop_of_length_le (by omega)]
  rfl
theorem digitsEnd_digit {t : List Nat} {p : Nat} (h : p < t.length) (b : digit (t.getD p 0) = true) : digitsEnd t p = digitsEnd t (p + 1) := by
  unfold digitsEnd
  rw [drop_cons h, List.takeWhile_cons, if_pos b, List.length_cons]
  omega
theorem digitsEnd_not {t : List Nat} {p : Nat} (h : p < t.length) (b : ¬ digit (t.getD p 0) = true) : digitsEnd t p = p := by
  unfold digitsEnd
  rw [drop_cons h, List.takeWhile_cons, if_neg b]
  rfl
theorem digitsEnd_end {t : List Nat} {p : Nat} (h : ¬ p < t.length) : digitsEnd t p = p := by
  unfold digitsEnd
  rw [List.drop_of_length_le (by omega)]
  rfl
theorem getD_digits {t : List Nat} {f : Nat} (h : f < t.length) : ((t.drop f).takeWhile digit).head? = if digit (t.getD f 0) = true then some (t.getD f 0) else none := by
  rw [drop_cons h, List.takeWhile_cons]
  split <;> rfl
/-- the specification's tokens are the program's -/
theorem lex : ∀ (k : Nat) (t : List Nat) (p : Nat), p ≤ t.length → t.length - p < k → tokensIn t.length k (t.drop p) = specToks t (toksAt t (blanksEnd t p))
  | 0, _, _, _, h => absurd h (Nat.not_lt_zero _)
  | k + 1, t, p, hp, hk => by
    by_cases h : p < t.length
    · rw [drop_cons h]
      have hl : (t.drop (p + 1)).length = t.length - (p + 1) := List.length_drop ..
      simp only [tokensIn]
      have ep : t.length - ((t.drop (p + 1)).length + 1) = p := by rw [hl]; omega
      rw [ep]
      by_cases hb : blank (t.getD p 0) = true
      · rw [if_pos hb, lex k t (p + 1) h (by omega), blanksEnd_blank h hb]
      · rw [if_neg hb, blanksEnd_not h hb]
        by_cases hs : t.getD p 0 = 91 ∨ t.getD p 0 = 58 ∨ t.getD p 0 = 93
        · have hs' : isSign (t.getD p 0) = true := by
            unfold isSign
            rcases hs with e | e | e <;> rw [e] <;> rfl
          have ht : tokenEnd t p = p + 1 := by unfold tokenEnd; rw [if_pos hs']
          rw [if_pos hs, lex k t (p + 1) h (by omega), toksAt_step h (by rw [ht]; omega), ht]
          show _ = if p + 1 = p then _ else _
          rw [if_neg (by omega)]
          show _ = (p, tokOf t p (p + 1)) :: _
          unfold tokOf
          rw [if_pos hs']
        · have hs' : ¬ isSign (t.getD p 0) = true := by
            intro e
            unfold isSign at e
            simp only [Bool.or_eq_true, beq_iff_eq] at e
            exact hs e
          rw [if_neg hs]
          -- the digits
          have eds : (if t.getD p 0 = 95 then (t.drop (p + 1)).takeWhile digit else (t.getD p 0 :: t.drop (p + 1)).takeWhile digit) = (t.drop (first t p)).takeWhile digit := by
            unfold first
            by_cases c : t.getD p 0 = 95
            · rw [if_pos c, if_pos c]
            · rw [if_neg c, if_neg c, ← drop_cons h]
          have ers : (if t.getD p 0 = 95 then (t.drop (p + 1)).dropWhile digit else (t.getD p 0 :: t.drop (p + 1)).dropWhile digit) = t.drop (digitsEnd t (first t p)) := by
            have e0 : t.drop (digitsEnd t (first t p)) = (t.drop (first t p)).dropWhile digit := by
              unfold digitsEnd
              rw [← List.drop_drop, drop_takeWhile]
            rw [e0]
            unfold first
            by_cases c : t.getD p 0 = 95
            · rw [if_pos c, if_pos c]
            · rw [if_neg c, if_neg c, ← drop_cons h]
          rw [eds, ers]
          have hfle := first_le t p
          have hfge := first_ge t p
          have hde := digitsEnd_ge t (first t p)
          have hdl := digitsEnd_le (t := t) (i := first t p) (by omega)
          have elen : ((t.drop (first t p)).takeWhile digit).length = digitsEnd t (first t p) - first t p := by unfold digitsEnd; omega
          by_cases c1 : digitsEnd t (first t p) = first t p
          · -- no digits
            have ht : tokenEnd t p = p := by unfold tokenEnd; rw [if_neg hs', if_pos c1]
            have en : (t.drop (first t p)).takeWhile digit = [] := List.length_eq_zero_iff.mp (by rw [elen]; omega)
            rw [en, if_neg (by simp), toksAt_bad h ht]
            show _ = if p = p then _ else _
            rw [if_pos rfl]
          · have hfl : first t p < t.length := by omega
            have hhead := getD_digits hfl
            have hdig : digit (t.getD (first t p) 0) = true := by
              by_cases hd : digit (t.getD (first t p) 0) = true
              · exact hd
              · rw [if_neg hd] at hhead
                have : (t.drop (first t p)).takeWhile digit = [] := List.head?_eq_none_iff.mp hhead
                rw [this] at elen
                simp at elen
                omega
            rw [if_pos hdig] at hhead
            by_cases c2 : t.getD (first t p) 0 = 48 ∧ 1 < digitsEnd t (first t p) - p
            · have ht : tokenEnd t p = p := by unfold tokenEnd; rw [if_neg hs', if_neg c1, if_pos c2]
              rw [if_neg, toksAt_bad h ht]
              · show _ = if p = p then _ else _
                rw [if_pos rfl]
              · rintro ⟨_, _, q, q2⟩
                rw [hhead, c2.1] at q
                rcases q with q | q
                · apply q2
                  by_cases c : t.getD p 0 = 95
                  · refine ⟨c, ?_⟩
                    obtain ⟨x, e⟩ : ∃ x, (t.drop (first t p)).takeWhile digit = [x] := List.length_eq_one_iff.mp q
                    rw [e] at hhead ⊢
                    have := Option.some.inj hhead
                    rw [this, c2.1]
                  · have e1 : first t p = p := by unfold first; rw [if_neg c]
                    rw [elen] at q
                    omega
                · exact q rfl
            · have ht : tokenEnd t p = digitsEnd t (first t p) := by unfold tokenEnd; rw [if_neg hs', if_neg c1, if_neg c2]
              have hne : tokenEnd t p ≠ p := by omega
              rw [if_pos, lex k t _ hdl (by omega), toksAt_step h hne, ht]
              · show _ = if digitsEnd t (first t p) = p then _ else _
                rw [if_neg (show ¬ digitsEnd t (first t p) = p by omega)]
                show _ = (p, tokOf t p (digitsEnd t (first t p))) :: _
                unfold tokOf numTold
                have ev : (t.drop (first t p)).take (digitsEnd t (first t p) - first t p) = (t.drop (first t p)).takeWhile digit := by rw [← elen]; exact take_takeWhile digit _
                rw [if_neg hs', ev]
              · refine ⟨?_, ?_, ?_, ?_⟩
                · by_cases c : t.getD p 0 = 95
                  · exact .inl c
                  · right
                    have e1 : first t p = p := by unfold first; rw [if_neg c]
                    rw [e1] at hdig
                    exact hdig
                · cases e : (t.drop (first t p)).takeWhile digit with
                  | nil => rw [e] at elen; simp at elen; omega
                  | cons a r => rfl
                · rw [hhead, elen]
                  by_cases c : t.getD (first t p) 0 = 48
                  · left
                    have : ¬ 1 < digitsEnd t (first t p) - p := fun z => c2 ⟨c, z⟩
                    omega
                  · right
                    intro z
                    exact c (Option.some.inj z)
                · rintro ⟨c, q⟩
                  rw [q] at hhead elen
                  have e48 : t.getD (first t p) 0 = 48 := (Option.some.inj hhead).symm
                  have e1 : first t p = p + 1 := by unfold first; rw [if_pos c]
                  have : digitsEnd t (first t p) - first t p = 1 := elen.symm
                  exact c2 ⟨e48, by omega⟩
    · have e : p = t.length := by omega
      rw [blanksEnd_end h, toksAt_end h, e, List.drop_length]
      rfl
theorem tokens_eq (t : List Nat) : tokens t = specToks t (toks t) := by
  have := lex (t.length + 1) t 0 (Nat.zero_le _) (by omega)
  rw [List.drop_zero] at this
  exact this

/-! ### the form: one machine for the specification and the program -/
inductive PSt where
  | val (o : List (List Int × List Told))
  | ext (xs : List Int) (o : List (List Int × List Told))
  | fin (x : Told)
def stp : PSt → Token → Option PSt
  | .val [], .num n => some (.fin (.num n))
  | .val ((s, l) :: o), .num n => some (.val ((s, .num n :: l) :: o))
  | .val o, .sign c => if c = 91 then some (.ext [] o) else if c = 93 then (match o with
    | [] => none
    | (s, l) :: [] => some (.fin (.arr s l.reverse))
    | (s, l) :: (t, m) :: o => some (.val ((t, .arr s l.reverse :: m) :: o))) else none
  | .val _, .none => none
  | .ext xs o, .num n => if n < 0 then none else some (.ext (n :: xs) o)
  | .ext xs o, .sign c => if c = 58 then some (.val ((xs.reverse, []) :: o)) else none
  | .ext _ _, .none => none
  | .fin _, _ => none
def runP (t : List Nat) : PSt → List (Nat × Nat) → Except Nat Told
  | .fin x, [] => .ok x
  | _, [] => .error t.length
  | st, x :: r => if x.2 = x.1 then .error x.1 else match stp st (tokOf t x.1 x.2) with
    | none => .error x.1
    | some st' => runP t st' r
theorem runP_cons (t : List Nat) (st : PSt) (x : Nat × Nat) (r : List (Nat × Nat)) : runP t st (x :: r) = if x.2 = x.1 then .error x.1 else match stp st (tokOf t x.1 x.2) with
    | none => .error x.1
    | some st' => runP t st' r := by
  cases st <;> rfl
theorem runP_bad {t : List Nat} {st : PSt} {x : Nat × Nat} {r : List (Nat × Nat)} (h : x.2 = x.1) : runP t st (x :: r) = .error x.1 := by
  rw [runP_cons, if_pos h]
theorem runP_none {t : List Nat} {st : PSt} {x : Nat × Nat} {r : List (Nat × Nat)} (h : ¬ x.2 = x.1) (e : stp st (tokOf t x.1 x.2) = none) : runP t st (x :: r) = .error x.1 := by
  rw [runP_cons, if_neg h, e]
theorem runP_some {t : List Nat} {st st' : PSt} {x : Nat × Nat} {r : List (Nat × Nat)} (h : ¬ x.2 = x.1) (e : stp st (tokOf t x.1 x.2) = some st') : runP t st (x :: r) = runP t st' r := by
  rw [runP_cons, if_neg h, e]
theorem specToks_bad {t : List Nat} {x : Nat × Nat} {r : List (Nat × Nat)} (h : x.2 = x.1) : specToks t (x :: r) = [(x.1, .none)] := if_pos h
theorem specToks_ok {t : List Nat} {x : Nat × Nat} {r : List (Nat × Nat)} (h : ¬ x.2 = x.1) : specToks t (x :: r) = (x.1, tokOf t x.1 x.2) :: specToks t r := if_neg h
theorem tokOf_not_none (t : List Nat) (s e : Nat) : tokOf t s e ≠ .none := by
  unfold tokOf
  split <;> intro h <;> cases h
theorem specToks_ne (t : List Nat) (r : List (Nat × Nat)) : (specToks t r).isEmpty = false := by
  cases r with
  | nil => rfl
  | cons x r =>
    by_cases h : x.2 = x.1
    · rw [specToks_bad h]; rfl
    · rw [specToks_ok h]; rfl

theorem ext_run (t : List Nat) : ∀ (r : List (Nat × Nat)) (xs : List Int) (o : List (List Int × List Told)),
    (∀ p, extents (specToks t r) = .error p → runP t (.ext xs o) r = .error p) ∧
    (∀ y, extents (specToks t r) = .ok y → ∃ r', y.2 = specToks t r' ∧ r'.length < r.length ∧ (∀ z ∈ r', z ∈ r) ∧ runP t (.ext xs o) r = runP t (.val ((xs.reverse ++ y.1, []) :: o)) r')
  | [], xs, o => by
    refine ⟨fun p h => ?_, fun y h => ?_⟩
    · have e : t.length = p := Except.error.inj h
      rw [← e]; rfl
    · cases h
  | x :: r, xs, o => by
    by_cases hx : x.2 = x.1
    · rw [specToks_bad hx]
      refine ⟨fun p h => ?_, fun y h => ?_⟩
      · have e : x.1 = p := Except.error.inj h
        rw [← e]; exact runP_bad hx
      · cases h
    · rw [specToks_ok hx]
      cases ht : tokOf t x.1 x.2 with
      | none => exact absurd ht (tokOf_not_none _ _ _)
      | sign c =>
        by_cases hc : c = 58
        · have e1 : extents ((x.1, Token.sign c) :: specToks t r) = .ok ([], specToks t r) := by
            show (if c = 58 then _ else _) = _
            rw [if_pos hc]
          rw [e1]
          refine ⟨fun p h => (by cases h), fun y h => ?_⟩
          have e := Except.ok.inj h
          subst e
          refine ⟨r, rfl, by simp, fun z hz => List.mem_cons_of_mem _ hz, ?_⟩
          rw [List.append_nil]
          refine runP_some hx ?_
          rw [ht]
          show (if c = 58 then _ else _) = _
          rw [if_pos hc]
        · have e1 : extents ((x.1, Token.sign c) :: specToks t r) = .error x.1 := by
            show (if c = 58 then _ else _) = _
            rw [if_neg hc]
          rw [e1]
          refine ⟨fun p h => ?_, fun y h => by cases h⟩
          have e : x.1 = p := Except.error.inj h
          rw [← e]
          refine runP_none hx ?_
          rw [ht]
          show (if c = 58 then _ else _) = _
          rw [if_neg hc]
      | num n =>
        by_cases hn : n < 0
        · have e1 : extents ((x.1, Token.num n) :: specToks t r) = .error x.1 := by
            simp only [extents]
            rw [if_pos hn]
          rw [e1]
          refine ⟨fun p h => ?_, fun y h => by cases h⟩
          have e : x.1 = p := Except.error.inj h
          rw [← e]
          refine runP_none hx ?_
          rw [ht]
          show (if n < 0 then _ else _) = _
          rw [if_pos hn]
        · have hs : runP t (.ext xs o) (x :: r) = runP t (.ext (n :: xs) o) r := by
            refine runP_some hx ?_
            rw [ht]
            show (if n < 0 then _ else _) = _
            rw [if_neg hn]
          rw [hs]
          have ih := ext_run t r (n :: xs) o
          cases e0 : extents (specToks t r) with
          | error q =>
            have e1 : extents ((x.1, Token.num n) :: specToks t r) = .error q := by
              simp only [extents]
              rw [if_neg hn, e0]
            rw [e1]
            refine ⟨fun p h => ?_, fun y h => by cases h⟩
            have e : q = p := Except.error.inj h
            rw [← e]
            exact ih.1 q e0
          | ok y0 =>
            have e1 : extents ((x.1, Token.num n) :: specToks t r) = .ok (n :: y0.1, y0.2) := by
              simp only [extents]
              rw [if_neg hn, e0]
            rw [e1]
            refine ⟨fun p h => (by cases h), fun y h => ?_⟩
            have e := Except.ok.inj h
            subst e
            obtain ⟨r', q1, q2, q3, q4⟩ := ih.2 y0 e0
            refine ⟨r', q1, by simp only [List.length_cons]; omega, fun z hz => List.mem_cons_of_mem _ (q3 z hz), ?_⟩
            rw [q4, List.reverse_cons, List.append_assoc]
            rfl

theorem val_run (t : List Nat) : ∀ (k : Nat) (r : List (Nat × Nat)) (o : List (List Int × List Told)), r.length < k →
    (∀ p, Vaarrm.values k o (specToks t r) = .error p → runP t (.val o) r = .error p) ∧
    (∀ y, Vaarrm.values k o (specToks t r) = .ok y → ∃ r', y.2 = specToks t r' ∧ (∀ z ∈ r', z ∈ r) ∧ runP t (.val o) r = runP t (.fin y.1) r')
  | 0, _, _, h => absurd h (Nat.not_lt_zero _)
  | k + 1, [], o, _ => by
    refine ⟨fun p h => ?_, fun y h => ?_⟩
    · have e : t.length = p := Except.error.inj h
      rw [← e]; rfl
    · cases h
  | k + 1, x :: r, o, hk => by
    have hk' : r.length < k := by simp only [List.length_cons] at hk; omega
    by_cases hx : x.2 = x.1
    · rw [specToks_bad hx]
      refine ⟨fun p h => ?_, fun y h => ?_⟩
      · have e : x.1 = p := Except.error.inj h
        rw [← e]; exact runP_bad hx
      · cases h
    · rw [specToks_ok hx]
      cases ht : tokOf t x.1 x.2 with
      | none => exact absurd ht (tokOf_not_none _ _ _)
      | num n =>
        cases o with
        | nil =>
          have e1 : Vaarrm.values (k + 1) [] ((x.1, Token.num n) :: specToks t r) = .ok (.num n, specToks t r) := by simp only [Vaarrm.values]
          rw [e1]
          refine ⟨fun p h => (by cases h), fun y h => ?_⟩
          have e := Except.ok.inj h
          subst e
          refine ⟨r, rfl, fun z hz => List.mem_cons_of_mem _ hz, ?_⟩
          refine runP_some hx ?_
          rw [ht]; rfl
        | cons a o =>
          obtain ⟨s, l⟩ := a
          have e1 : Vaarrm.values (k + 1) ((s, l) :: o) ((x.1, Token.num n) :: specToks t r) = Vaarrm.values k ((s, .num n :: l) :: o) (specToks t r) := by
            simp only [Vaarrm.values]
            rw [if_neg (by rw [specToks_ne]; exact Bool.false_ne_true)]
          have hs : runP t (.val ((s, l) :: o)) (x :: r) = runP t (.val ((s, .num n :: l) :: o)) r := by
            refine runP_some hx ?_
            rw [ht]; rfl
          rw [e1, hs]
          have ih := val_run t k r ((s, .num n :: l) :: o) hk'
          refine ⟨ih.1, fun y h => ?_⟩
          obtain ⟨r', q1, q2, q3⟩ := ih.2 y h
          exact ⟨r', q1, fun z hz => List.mem_cons_of_mem _ (q2 z hz), q3⟩
      | sign c =>
        by_cases h91 : c = 91
        · have hs : runP t (.val o) (x :: r) = runP t (.ext [] o) r := by
            refine runP_some hx ?_
            rw [ht, h91]
            cases o <;> rfl
          rw [hs]
          have ie := ext_run t r [] o
          cases e0 : extents (specToks t r) with
          | error q =>
            have e1 : Vaarrm.values (k + 1) o ((x.1, Token.sign c) :: specToks t r) = .error q := by
              simp only [Vaarrm.values]
              rw [if_pos h91, e0]
            rw [e1]
            refine ⟨fun p h => ?_, fun y h => by cases h⟩
            have e : q = p := Except.error.inj h
            rw [← e]
            exact ie.1 q e0
          | ok y0 =>
            obtain ⟨r', q1, q2, q3, q4⟩ := ie.2 y0 e0
            have e1 : Vaarrm.values (k + 1) o ((x.1, Token.sign c) :: specToks t r) = Vaarrm.values k ((y0.1, []) :: o) (specToks t r') := by
              simp only [Vaarrm.values]
              rw [if_pos h91, e0, ← q1]
            rw [e1, q4]
            have ih := val_run t k r' ((y0.1, []) :: o) (by omega)
            refine ⟨ih.1, fun y h => ?_⟩
            obtain ⟨r'', w1, w2, w3⟩ := ih.2 y h
            exact ⟨r'', w1, fun z hz => List.mem_cons_of_mem _ (q3 z (w2 z hz)), w3⟩
        · by_cases h93 : c = 93
          · cases o with
            | nil =>
              have e1 : Vaarrm.values (k + 1) [] ((x.1, Token.sign c) :: specToks t r) = .error x.1 := by
                simp only [Vaarrm.values]
                rw [if_neg h91, if_pos h93]
              rw [e1]
              refine ⟨fun p h => ?_, fun y h => by cases h⟩
              have e : x.1 = p := Except.error.inj h
              rw [← e]
              refine runP_none hx ?_
              rw [ht, h93]; rfl
            | cons a o =>
              obtain ⟨s, l⟩ := a
              cases o with
              | nil =>
                have e1 : Vaarrm.values (k + 1) [(s, l)] ((x.1, Token.sign c) :: specToks t r) = .ok (.arr s l.reverse, specToks t r) := by
                  simp only [Vaarrm.values]
                  rw [if_neg h91, if_pos h93]
                rw [e1]
                refine ⟨fun p h => (by cases h), fun y h => ?_⟩
                have e := Except.ok.inj h
                subst e
                refine ⟨r, rfl, fun z hz => List.mem_cons_of_mem _ hz, ?_⟩
                refine runP_some hx ?_
                rw [ht, h93]; rfl
              | cons b o =>
                obtain ⟨u, m⟩ := b
                have e1 : Vaarrm.values (k + 1) ((s, l) :: (u, m) :: o) ((x.1, Token.sign c) :: specToks t r) = Vaarrm.values k ((u, .arr s l.reverse :: m) :: o) (specToks t r) := by
                  simp only [Vaarrm.values]
                  rw [if_neg h91, if_pos h93]
                have hs : runP t (.val ((s, l) :: (u, m) :: o)) (x :: r) = runP t (.val ((u, .arr s l.reverse :: m) :: o)) r := by
                  refine runP_some hx ?_
                  rw [ht, h93]; rfl
                rw [e1, hs]
                have ih := val_run t k r ((u, .arr s l.reverse :: m) :: o) hk'
                refine ⟨ih.1, fun y h => ?_⟩
                obtain ⟨r', q1, q2, q3⟩ := ih.2 y h
                exact ⟨r', q1, fun z hz => List.mem_cons_of_mem _ (q2 z hz), q3⟩
          · have e1 : Vaarrm.values (k + 1) o ((x.1, Token.sign c) :: specToks t r) = .error x.1 := by
              simp only [Vaarrm.values]
              rw [if_neg h91, if_neg h93]
            rw [e1]
            refine ⟨fun p h => ?_, fun y h => by cases h⟩
            have e : x.1 = p := Except.error.inj h
            rw [← e]
            refine runP_none hx ?_
            rw [ht]
            cases o with
            | nil =>
              show (if c = 91 then _ else if c = 93 then _ else _) = _
              rw [if_neg h91, if_neg h93]
            | cons a o =>
              show (if c = 91 then _ else if c = 93 then _ else _) = _
              rw [if_neg h91, if_neg h93]

theorem toksF_lt : ∀ (k : Nat) (t : List Nat) (s : Nat) (z : Nat × Nat), z ∈ toksF k t s → z.1 < t.length
  | 0, _, _, _, h => by cases h
  | k + 1, t, s, z, h => by
    have h : z ∈ if s < t.length then (s, tokenEnd t s) :: (if tokenEnd t s = s then [] else toksF k t (blanksEnd t (tokenEnd t s))) else [] := h
    by_cases c : s < t.length
    · rw [if_pos c] at h
      rcases List.mem_cons.mp h with e | e
      · rw [e]; exact c
      · by_cases c2 : tokenEnd t s = s
        · rw [if_pos c2] at e; cases e
        · rw [if_neg c2] at e; exact toksF_lt k t _ z e
    · rw [if_neg c] at h; cases h
theorem toksF_len : ∀ (k : Nat) (t : List Nat) (s : Nat), s ≤ t.length → (toksF k t s).length + s ≤ t.length
  | 0, _, _, h => by simpa [toksF] using h
  | k + 1, t, s, h => by
    show (if s < t.length then (s, tokenEnd t s) :: (if tokenEnd t s = s then [] else toksF k t (blanksEnd t (tokenEnd t s))) else []).length + s ≤ _
    by_cases c : s < t.length
    · rw [if_pos c]
      by_cases c2 : tokenEnd t s = s
      · rw [if_pos c2]; simp; omega
      · rw [if_neg c2]
        have h1 := tokenEnd_ge t s
        have h2 := blanksEnd_ge t (tokenEnd t s)
        have h3 := blanksEnd_le (tokenEnd_le c)
        have := toksF_len k t (blanksEnd t (tokenEnd t s)) h3
        simp only [List.length_cons]
        omega
    · rw [if_neg c]; simpa using h
theorem toks_lt (t : List Nat) (z : Nat × Nat) (h : z ∈ toks t) : z.1 < t.length := toksF_lt _ _ _ _ h
theorem toks_len (t : List Nat) : (toks t).length ≤ t.length := by
  have := toksF_len (t.length + 1 - blanksEnd t 0) t (blanksEnd t 0) (blanksEnd_le (Nat.zero_le _))
  unfold toks toksAt
  omega
theorem readTold_run (t : List Nat) : readTold t = runP t (.val []) (toks t) := by
  unfold readTold
  rw [tokens_eq]
  have V := val_run t (t.length + 2) (toks t) [] (by have := toks_len t; omega)
  cases e : Vaarrm.values (t.length + 2) [] (specToks t (toks t)) with
  | error p => exact (V.1 p e).symm
  | ok x =>
    obtain ⟨r', q1, q2, q3⟩ := V.2 x e
    rw [q3]
    show (match x.2 with
      | (p, .none) :: _ => if p = t.length then Except.ok x.1 else .error p
      | ts => .error (here ts)) = _
    rw [q1]
    cases r' with
    | nil =>
      show (if t.length = t.length then _ else _) = _
      rw [if_pos rfl]; rfl
    | cons z r =>
      by_cases hz : z.2 = z.1
      · rw [specToks_bad hz, runP_bad hz]
        show (if z.1 = t.length then _ else _) = _
        rw [if_neg (Nat.ne_of_lt (toks_lt t z (q2 z (List.mem_cons_self ..))))]
      · rw [specToks_ok hz, runP_none hz (by rfl)]
        cases ht : tokOf t z.1 z.2 with
        | none => exact absurd ht (tokOf_not_none _ _ _)
        | num n => rfl
        | sign c => rfl
end NA
namespace NA
open Vaarrm

/-! ### the program's look at the form -/
def canStand (place : Int) (b : Nat) : Bool :=
  if place = 0 then (b != 58 && b != 93) else if place = 1 then (b == 58 || digit b) else if place = 2 then b != 58 else false
def goPast1 (l : List Int) (b : Nat) : List Int := if b = 91 then l ++ [1] else if b = 58 then l.set (l.length - 1) 2 else if b = 93 then l.dropLast else l
def goPast (l : List Int) (b : Nat) : List Int := if (goPast1 l b).length = 1 then (goPast1 l b).set 0 3 else goPast1 l b
def fault (t : List Nat) : List Int → List (Nat × Nat) → Option Nat
  | l, [] => if l.getLastD 0 = 3 then none else some t.length
  | l, x :: r => if x.2 = x.1 ∨ canStand (l.getLastD 0) (t.getD x.1 0) = false then some x.1 else fault t (goPast l (t.getD x.1 0)) r
def enc : PSt → List Int
  | .val o => 0 :: List.replicate o.length 2
  | .ext _ o => 0 :: (List.replicate o.length 2 ++ [1])
  | .fin _ => [3]
theorem fold_pos : ∀ (l : List Nat) (n : Nat), 0 < n → 0 < l.foldl (fun n c => 10 * n + (c - 48)) n
  | [], _, h => h
  | c :: l, n, h => by
    rw [List.foldl_cons]
    exact fold_pos l _ (by omega)
/-- what the first byte of a token tells -/
theorem tok_cases {t : List Nat} {s e : Nat} (he : e = tokenEnd t s) (hn : ¬ e = s) :
    (isSign (t.getD s 0) = true ∧ tokOf t s e = .sign (t.getD s 0)) ∨
    (isSign (t.getD s 0) = false ∧ t.getD s 0 = 95 ∧ tokOf t s e = .num (numTold t s e) ∧ numTold t s e < 0) ∨
    (isSign (t.getD s 0) = false ∧ digit (t.getD s 0) = true ∧ tokOf t s e = .num (numTold t s e) ∧ 0 ≤ numTold t s e) := by
  by_cases hs : isSign (t.getD s 0) = true
  · exact .inl ⟨hs, if_pos hs⟩
  · have hs' : isSign (t.getD s 0) = false := by simpa using hs
    right
    have ht : tokOf t s e = .num (numTold t s e) := if_neg hs
    have hfge := first_ge t s
    have hfle := first_le t s
    have hde := digitsEnd_ge t (first t s)
    unfold tokenEnd at he
    rw [if_neg hs] at he
    by_cases c1 : digitsEnd t (first t s) = first t s
    · rw [if_pos c1] at he; exact absurd he hn
    · rw [if_neg c1] at he
      by_cases c2 : t.getD (first t s) 0 = 48 ∧ 1 < digitsEnd t (first t s) - s
      · rw [if_pos c2] at he; exact absurd he hn
      · rw [if_neg c2] at he
        have elen : ((t.drop (first t s)).takeWhile digit).length = digitsEnd t (first t s) - first t s := by unfold digitsEnd; omega
        have hfl : first t s < t.length := by
          have h1 := takeWhile_len_le digit (t.drop (first t s))
          rw [List.length_drop] at h1
          omega
        have hdc : (t.drop (first t s)).takeWhile digit = if digit (t.getD (first t s) 0) = true then t.getD (first t s) 0 :: (t.drop (first t s + 1)).takeWhile digit else [] := by
          rw [drop_cons hfl, List.takeWhile_cons]
        have hdig : digit (t.getD (first t s) 0) = true := by
          by_cases hd : digit (t.getD (first t s) 0) = true
          · exact hd
          · rw [if_neg hd] at hdc
            rw [hdc] at elen
            simp at elen
            omega
        rw [if_pos hdig] at hdc
        have ev : (t.drop (first t s)).take (e - first t s) = (t.drop (first t s)).takeWhile digit := by rw [he, ← elen]; exact take_takeWhile digit _
        by_cases c : t.getD s 0 = 95
        · left
          refine ⟨hs', c, ht, ?_⟩
          have ef : first t s = s + 1 := by unfold first; rw [if_pos c]
          have h48 : t.getD (first t s) 0 ≠ 48 := fun z => c2 ⟨z, by omega⟩
          have hpos : 0 < valueOf ((t.drop (first t s)).takeWhile digit) := by
            rw [hdc]
            unfold valueOf
            rw [List.foldl_cons]
            refine fold_pos _ _ ?_
            unfold digit at hdig
            have := of_decide_eq_true hdig
            omega
          unfold numTold
          rw [if_pos c, ev]
          omega
        · right
          have ef : first t s = s := by unfold first; rw [if_neg c]
          rw [ef] at hdig
          refine ⟨hs', hdig, ht, ?_⟩
          unfold numTold
          rw [if_neg c]
          omega
theorem sign_cases {c : Nat} (h : isSign c = true) : c = 91 ∨ c = 58 ∨ c = 93 := by
  unfold isSign at h
  simpa only [Bool.or_eq_true, beq_iff_eq] using h
theorem digit_iff {c : Nat} : digit c = true ↔ 48 ≤ c ∧ c ≤ 57 := by
  unfold digit
  exact decide_eq_true_iff
theorem last_rep (n : Nat) (h : 0 < n) : ((0 : Int) :: List.replicate n 2).getLastD 0 = 2 := by
  obtain ⟨m, rfl⟩ : ∃ m, n = m + 1 := ⟨n - 1, by omega⟩
  rw [List.replicate_succ', ← List.cons_append]
  exact List.getLastD_concat ..
def encLast : PSt → Int
  | .val [] => 0
  | .val (_ :: _) => 2
  | .ext _ _ => 1
  | .fin _ => 3
theorem enc_last : ∀ st : PSt, (enc st).getLastD 0 = encLast st
  | .val [] => rfl
  | .val (_ :: _) => last_rep _ (by simp)
  | .ext _ o => by
    show ((0 : Int) :: (List.replicate o.length 2 ++ [1])).getLastD 0 = 1
    rw [← List.cons_append]
    exact List.getLastD_concat ..
  | .fin _ => rfl
theorem set_last2 (l : List Int) (x y : Int) : (l ++ [x]).set ((l ++ [x]).length - 1) y = l ++ [y] := by
  rw [List.length_append, List.length_singleton, Nat.add_sub_cancel, List.set_append_right _ _ (Nat.le_refl _), Nat.sub_self]
  rfl
/-- one token: the two machines go alike -/
theorem step_like {t : List Nat} {s e : Nat} (he : e = tokenEnd t s) (hn : ¬ e = s) (st : PSt) :
    (stp st (tokOf t s e) = none → canStand ((enc st).getLastD 0) (t.getD s 0) = false) ∧
    (∀ st', stp st (tokOf t s e) = some st' → canStand ((enc st).getLastD 0) (t.getD s 0) = true ∧ goPast (enc st) (t.getD s 0) = enc st') := by
  rw [enc_last]
  rcases tok_cases he hn with ⟨h1, h2⟩ | ⟨h1, h2, h3, h4⟩ | ⟨h1, h2, h3, h4⟩
  · -- a sign
    rw [h2]
    rcases sign_cases h1 with e1 | e1 | e1 <;> rw [e1]
    · -- [
      match st with
      | .val o =>
        refine ⟨fun h => ?_, fun st' h => ?_⟩
        · cases o <;> cases h
        · have e2 : st' = .ext [] o := by cases o <;> exact (Option.some.inj h).symm
          subst e2
          refine ⟨by cases o <;> rfl, ?_⟩
          have e3 : goPast1 (enc (.val o)) 91 = enc (.ext [] o) := rfl
          unfold goPast
          rw [e3, if_neg]
          simp [enc]
      | .ext xs o => exact ⟨fun h => rfl, fun st' h => by cases h⟩
      | .fin x => exact ⟨fun h => rfl, fun st' h => by cases h⟩
    · -- :
      match st with
      | .val o => exact ⟨fun h => (by cases o <;> rfl), fun st' h => (by cases o <;> cases h)⟩
      | .ext xs o =>
        refine ⟨fun h => (by cases h), fun st' h => ?_⟩
        have e2 : st' = .val ((xs.reverse, []) :: o) := (Option.some.inj h).symm
        subst e2
        refine ⟨rfl, ?_⟩
        have e3 : goPast1 (enc (.ext xs o)) 58 = enc (.val ((xs.reverse, []) :: o)) := by
          show (0 :: (List.replicate o.length 2 ++ [1])).set ((0 :: (List.replicate o.length 2 ++ [(1 : Int)])).length - 1) 2 = 0 :: List.replicate (o.length + 1) 2
          rw [← List.cons_append, set_last2, List.replicate_succ', List.cons_append]
        unfold goPast
        rw [e3, if_neg]
        simp [enc]
      | .fin x => exact ⟨fun h => rfl, fun st' h => by cases h⟩
    · -- ]
      match st with
      | .val [] => exact ⟨fun h => rfl, fun st' h => by cases h⟩
      | .val ((s', l) :: []) =>
        refine ⟨fun h => (by cases h), fun st' h => ?_⟩
        have e2 : st' = .fin (.arr s' l.reverse) := (Option.some.inj h).symm
        subst e2
        exact ⟨rfl, rfl⟩
      | .val ((s', l) :: (u, m) :: o) =>
        refine ⟨fun h => (by cases h), fun st' h => ?_⟩
        have e2 : st' = .val ((u, .arr s' l.reverse :: m) :: o) := (Option.some.inj h).symm
        subst e2
        refine ⟨rfl, ?_⟩
        have e3 : goPast1 (enc (.val ((s', l) :: (u, m) :: o))) 93 = enc (.val ((u, .arr s' l.reverse :: m) :: o)) := by
          show (0 :: List.replicate (o.length + 1 + 1) 2).dropLast = 0 :: List.replicate (o.length + 1) 2
          rw [List.replicate_succ', ← List.cons_append, List.dropLast_concat]
        unfold goPast
        rw [e3, if_neg]
        simp [enc]
      | .ext xs o => exact ⟨fun h => rfl, fun st' h => by cases h⟩
      | .fin x => exact ⟨fun h => rfl, fun st' h => by cases h⟩
  · -- below 0
    rw [h3, h2]
    have g1 : ∀ l : List Int, goPast1 l 95 = l := fun l => rfl
    match st with
    | .val [] =>
      refine ⟨fun h => (by cases h), fun st' h => ?_⟩
      have e2 : st' = .fin (.num (numTold t s e)) := (Option.some.inj h).symm
      subst e2
      exact ⟨rfl, rfl⟩
    | .val ((s', l) :: o) =>
      refine ⟨fun h => (by cases h), fun st' h => ?_⟩
      have e2 : st' = .val ((s', .num (numTold t s e) :: l) :: o) := (Option.some.inj h).symm
      subst e2
      refine ⟨rfl, ?_⟩
      unfold goPast
      rw [g1, if_neg]
      · rfl
      · simp [enc]
    | .ext xs o =>
      refine ⟨fun h => rfl, fun st' h => ?_⟩
      have h : (if numTold t s e < 0 then none else some (PSt.ext (numTold t s e :: xs) o)) = some st' := h
      rw [if_pos h4] at h
      cases h
    | .fin x => exact ⟨fun h => rfl, fun st' h => by cases h⟩
  · rw [h3]
    have hd := digit_iff.mp h2
    have n91 : ¬ t.getD s 0 = 91 := by omega
    have n58 : ¬ t.getD s 0 = 58 := by omega
    have n93 : ¬ t.getD s 0 = 93 := by omega
    have g1 : ∀ l : List Int, goPast1 l (t.getD s 0) = l := fun l => by
      unfold goPast1
      rw [if_neg n91, if_neg n58, if_neg n93]
    match st with
    | .val [] =>
      refine ⟨fun h => (by cases h), fun st' h => ?_⟩
      have e2 : st' = .fin (.num (numTold t s e)) := (Option.some.inj h).symm
      subst e2
      refine ⟨?_, ?_⟩
      · show (t.getD s 0 != 58 && t.getD s 0 != 93) = true
        rw [bne_iff_ne.mpr n58, bne_iff_ne.mpr n93]; rfl
      · unfold goPast
        rw [g1]
        rfl
    | .val ((s', l) :: o) =>
      refine ⟨fun h => (by cases h), fun st' h => ?_⟩
      have e2 : st' = .val ((s', .num (numTold t s e) :: l) :: o) := (Option.some.inj h).symm
      subst e2
      refine ⟨?_, ?_⟩
      · show (t.getD s 0 != 58) = true
        exact bne_iff_ne.mpr n58
      · unfold goPast
        rw [g1, if_neg]
        · rfl
        · simp [enc]
    | .ext xs o =>
      have h5 : stp (.ext xs o) (.num (numTold t s e)) = some (.ext (numTold t s e :: xs) o) := by
        show (if numTold t s e < 0 then none else some (PSt.ext (numTold t s e :: xs) o)) = _
        rw [if_neg (by omega)]
      rw [h5]
      refine ⟨fun h => (by cases h), fun st' h => ?_⟩
      have e2 := (Option.some.inj h).symm
      subst e2
      refine ⟨?_, ?_⟩
      · show (t.getD s 0 == 58 || digit (t.getD s 0)) = true
        rw [h2, Bool.or_true]
      · unfold goPast
        rw [g1, if_neg]
        · rfl
        · simp [enc]
    | .fin x => exact ⟨fun h => rfl, fun st' h => by cases h⟩
theorem goPast_len (l : List Int) (b : Nat) : (goPast l b).length ≤ l.length + 1 := by
  have h : (goPast1 l b).length ≤ l.length + 1 := by
    unfold goPast1
    split
    · simp
    · split
      · simp
      · split
        · simp; omega
        · omega
  unfold goPast
  split
  · rw [List.length_set]; exact h
  · exact h
theorem enc_pos (st : PSt) : 1 ≤ (enc st).length := by
  cases st <;> simp [enc]
theorem enc_pop {st : PSt} (h : canStand ((enc st).getLastD 0) 93 = true) : 2 ≤ (enc st).length := by
  rw [enc_last] at h
  match st with
  | .val [] => cases h
  | .val (_ :: _) => simp [enc]
  | .ext _ _ => cases h
  | .fin _ => cases h
theorem getLast_at : ∀ (l : List Int), l ≠ [] → l[l.length - 1]? = some (l.getLastD 0)
  | [], h => absurd rfl h
  | a :: r, _ => by
    rw [← List.getLast?_eq_getElem?, List.getLastD_eq_getLast?]
    cases e : (a :: r).getLast? with
    | none => rw [List.getLast?_eq_none_iff] at e; cases e
    | some x => rfl
def Genuine (t : List Nat) (r : List (Nat × Nat)) : Prop := ∀ z ∈ r, z.1 < t.length ∧ z.2 = tokenEnd t z.1
theorem toksF_gen : ∀ (k : Nat) (t : List Nat) (s : Nat), Genuine t (toksF k t s)
  | 0, _, _, _, h => by cases h
  | k + 1, t, s, z, h => by
    have h : z ∈ if s < t.length then (s, tokenEnd t s) :: (if tokenEnd t s = s then [] else toksF k t (blanksEnd t (tokenEnd t s))) else [] := h
    by_cases c : s < t.length
    · rw [if_pos c] at h
      rcases List.mem_cons.mp h with e | e
      · rw [e]; exact ⟨c, rfl⟩
      · by_cases c2 : tokenEnd t s = s
        · rw [if_pos c2] at e; cases e
        · rw [if_neg c2] at e; exact toksF_gen k t _ z e
    · rw [if_neg c] at h; cases h
theorem toks_gen (t : List Nat) : Genuine t (toks t) := toksF_gen _ _ _
theorem fault_run (t : List Nat) : ∀ (r : List (Nat × Nat)) (st : PSt), Genuine t r → fault t (enc st) r = match runP t st r with
    | .ok _ => none
    | .error p => some p
  | [], st, _ => by
    show (if (enc st).getLastD 0 = 3 then none else some t.length) = _
    rw [enc_last]
    match st with
    | .val [] => rfl
    | .val (_ :: _) => rfl
    | .ext _ _ => rfl
    | .fin _ => rfl
  | x :: r, st, h => by
    show (if x.2 = x.1 ∨ canStand ((enc st).getLastD 0) (t.getD x.1 0) = false then some x.1 else fault t (goPast (enc st) (t.getD x.1 0)) r) = _
    by_cases hx : x.2 = x.1
    · rw [if_pos (.inl hx), runP_bad hx]
    · have S := step_like (t := t) (s := x.1) (e := x.2) (h x (List.mem_cons_self ..)).2 hx st
      cases e : stp st (tokOf t x.1 x.2) with
      | none => rw [if_pos (.inr (S.1 e)), runP_none hx e]
      | some st' =>
        obtain ⟨q1, q2⟩ := S.2 st' e
        rw [if_neg, runP_some hx e, q2]
        · exact fault_run t r st' fun z hz => h z (List.mem_cons_of_mem _ hz)
        · rintro (q | q)
          · exact hx q
          · rw [q1] at q; cases q
/-- where, as the program reckons it -/
def wherePos (t : List Nat) : Option Nat := fault t [0] (toks t)
theorem where_spec (t : List Nat) (h : t.length ≤ 8192) : VaarrmNeutral.encode (answer (.where_ t)) = [match wherePos t with | none => 0 | some p => ((p + 1 : Nat) : Int)] := by
  have e := fault_run t (toks t) (.val []) (toks_gen t)
  have e2 : wherePos t = match runP t (.val []) (toks t) with | .ok _ => none | .error p => some p := e
  unfold answer
  simp only
  rw [if_neg (by omega), e2, readTold_run]
  cases runP t (.val []) (toks t) <;> rfl
theorem where_long (t : List Nat) (h : 8192 < t.length) : VaarrmNeutral.encode (answer (.where_ t)) = [-1] := by
  unfold answer
  simp only
  rw [if_pos h]
  rfl
end NA
namespace NA
open Vaarrm

/-! ### values, without a bound of the depth -/
mutual
def depthV : V → Nat
  | .num _ => 0
  | .arr _ l => 1 + depthVs l
def depthVs : List V → Nat
  | [] => 0
  | v :: r => max (depthV v) (depthVs r)
end
mutual
def sizeV : V → Nat
  | .num _ => 1
  | .arr _ l => 1 + sizeVs l
def sizeVs : List V → Nat
  | [] => 0
  | v :: r => sizeV v + sizeVs r
end
theorem foldl_max (l : List Nat) : ∀ a, l.foldl max a = max a (l.foldl max 0) := by
  induction l with
  | nil => intro a; simp
  | cons x r ih => intro a; rw [List.foldl_cons, List.foldl_cons, ih (max a x), ih (max 0 x)]; omega
theorem foldl_sum (l : List Nat) : ∀ a, l.foldl (fun n x => n + x) a = a + l.foldl (fun n x => n + x) 0 := by
  induction l with
  | nil => intro a; simp
  | cons x r ih => intro a; rw [List.foldl_cons, List.foldl_cons, ih (a + x), ih (0 + x)]; omega
theorem depthV_mem {v : V} : ∀ {l : List V}, v ∈ l → depthV v ≤ depthVs l
  | w :: r, h => by
    rcases List.mem_cons.mp h with rfl | h
    · exact Nat.le_max_left _ _
    · exact Nat.le_trans (depthV_mem h) (Nat.le_max_right _ _)
theorem sizeV_pos : ∀ v : V, 1 ≤ sizeV v
  | .num _ => Nat.le_refl _
  | .arr _ _ => by unfold sizeV; omega
theorem depthVs_map (k : Nat) : ∀ l : List V, (∀ v ∈ l, depth k v = depthV v) → (l.map (depth k)).foldl max 0 = depthVs l
  | [], _ => rfl
  | v :: r, h => by
    rw [List.map_cons, List.foldl_cons, foldl_max, depthVs_map k r fun w hw => h w (List.mem_cons_of_mem _ hw), h v (List.mem_cons_self ..)]
    show max (max 0 (depthV v)) (depthVs r) = max (depthV v) (depthVs r)
    omega
theorem depth_far : ∀ (k : Nat) (v : V), depthV v < k → depth k v = depthV v
  | 0, _, h => absurd h (Nat.not_lt_zero _)
  | k + 1, .num _, _ => rfl
  | k + 1, .arr s l, h => by
    show 1 + (l.map (depth k)).foldl max 0 = 1 + depthVs l
    have h : 1 + depthVs l < k + 1 := h
    rw [depthVs_map k l fun v hv => depth_far k v (by have := depthV_mem hv; omega)]
theorem sizeVs_map (k : Nat) : ∀ l : List V, (∀ v ∈ l, size k v = sizeV v) → (l.map (size k)).foldl (fun n x => n + x) 0 = sizeVs l
  | [], _ => rfl
  | v :: r, h => by
    rw [List.map_cons, List.foldl_cons, foldl_sum, sizeVs_map k r fun w hw => h w (List.mem_cons_of_mem _ hw), h v (List.mem_cons_self ..)]
    show 0 + sizeV v + sizeVs r = sizeV v + sizeVs r
    omega
theorem size_far : ∀ (k : Nat) (v : V), depthV v < k → size k v = sizeV v
  | 0, _, h => absurd h (Nat.not_lt_zero _)
  | k + 1, .num _, _ => rfl
  | k + 1, .arr s l, h => by
    show (l.map (size k)).foldl (fun n x => n + x) 1 = 1 + sizeVs l
    have h : 1 + depthVs l < k + 1 := h
    rw [foldl_sum, sizeVs_map k l fun v hv => size_far k v (by have := depthV_mem hv; omega)]
/-- within the limits -/
def withinV (v : V) : Bool := decide (depthV v ≤ 8) && decide (sizeV v ≤ 512)
theorem within_far {k : Nat} {v : V} (h : depthV v < k) : within k v = withinV v := by
  unfold within withinV
  rw [depth_far k v h, size_far k v h]
  rfl

/-! ### what is told, without a bound of the depth -/
mutual
def depthT : Told → Nat
  | .num _ => 0
  | .arr _ l => 1 + depthTs l
def depthTs : List Told → Nat
  | [] => 0
  | x :: r => max (depthT x) (depthTs r)
end
mutual
def smallT : Told → Bool
  | .num n => decide (-G ≤ n) && decide (n ≤ G)
  | .arr s l => s.all (fun n => decide (n ≤ G)) && smallTs l
def smallTs : List Told → Bool
  | [] => true
  | x :: r => smallT x && smallTs r
end
def nodeOk (s : List Int) (n : Nat) : Bool := shapeOk (s.map fun n => n.toNat) && decide (n = product (s.map fun n => n.toNat))
mutual
def shapedT : Told → Bool
  | .num _ => true
  | .arr s l => nodeOk s l.length && shapedTs l
def shapedTs : List Told → Bool
  | [] => true
  | x :: r => shapedT x && shapedTs r
end
mutual
def valT : Told → V
  | .num n => .num n
  | .arr s l => made (s.map fun n => n.toNat) (valTs l)
def valTs : List Told → List V
  | [] => []
  | x :: r => valT x :: valTs r
end
theorem valTs_map : ∀ l : List Told, valTs l = l.map valT
  | [] => rfl
  | x :: r => by rw [List.map_cons, ← valTs_map r]; rfl
theorem smallTs_all : ∀ l : List Told, smallTs l = l.all smallT
  | [] => rfl
  | x :: r => by rw [List.all_cons, ← smallTs_all r]; rfl
theorem shapedTs_all : ∀ l : List Told, shapedTs l = l.all shapedT
  | [] => rfl
  | x :: r => by rw [List.all_cons, ← shapedTs_all r]; rfl
theorem depthT_mem {x : Told} : ∀ {l : List Told}, x ∈ l → depthT x ≤ depthTs l
  | y :: r, h => by
    rcases List.mem_cons.mp h with rfl | h
    · exact Nat.le_max_left _ _
    · exact Nat.le_trans (depthT_mem h) (Nat.le_max_right _ _)
theorem all_congr {α : Type} {p q : α → Bool} : ∀ {l : List α}, (∀ x ∈ l, p x = q x) → l.all p = l.all q
  | [], _ => rfl
  | x :: r, h => by rw [List.all_cons, List.all_cons, h x (List.mem_cons_self ..), all_congr fun y hy => h y (List.mem_cons_of_mem _ hy)]
theorem small_far : ∀ (k : Nat) (x : Told), depthT x < k → small k x = smallT x
  | 0, _, h => absurd h (Nat.not_lt_zero _)
  | k + 1, .num _, _ => rfl
  | k + 1, .arr s l, h => by
    show (s.all (fun n => decide (n ≤ G)) && l.all (small k)) = (s.all (fun n => decide (n ≤ G)) && smallTs l)
    have h : 1 + depthTs l < k + 1 := h
    rw [smallTs_all, all_congr fun x hx => small_far k x (by have := depthT_mem hx; omega)]
theorem shaped_far : ∀ (k : Nat) (x : Told), depthT x < k → shapedTold k x = shapedT x
  | 0, _, h => absurd h (Nat.not_lt_zero _)
  | k + 1, .num _, _ => rfl
  | k + 1, .arr s l, h => by
    show (shapeOk (s.map fun n => n.toNat) && (decide (l.length = product (s.map fun n => n.toNat)) && l.all (shapedTold k))) = (nodeOk s l.length && shapedTs l)
    have h : 1 + depthTs l < k + 1 := h
    rw [shapedTs_all, all_congr fun x hx => shaped_far k x (by have := depthT_mem hx; omega)]
    unfold nodeOk
    rw [Bool.and_assoc]
theorem value_far : ∀ (k : Nat) (x : Told), depthT x < k → valueTold k x = valT x
  | 0, _, h => absurd h (Nat.not_lt_zero _)
  | k + 1, .num _, _ => rfl
  | k + 1, .arr s l, h => by
    show made (s.map fun n => n.toNat) (l.map (valueTold k)) = made (s.map fun n => n.toNat) (valTs l)
    have h : 1 + depthTs l < k + 1 := h
    rw [valTs_map, List.map_congr_left fun x hx => value_far k x (by have := depthT_mem hx; omega)]
theorem made_depth (s : List Nat) (l : List V) : depthV (made s l) ≤ 1 + depthVs l := by
  unfold made
  split
  · exact Nat.zero_le _
  · exact Nat.le_refl _
mutual
theorem valT_depth : ∀ x : Told, depthV (valT x) ≤ depthT x
  | .num _ => Nat.le_refl _
  | .arr s l => by
    show depthV (made (s.map fun n => n.toNat) (valTs l)) ≤ 1 + depthTs l
    exact Nat.le_trans (made_depth _ _) (Nat.add_le_add_left (valTs_depth l) 1)
theorem valTs_depth : ∀ l : List Told, depthVs (valTs l) ≤ depthTs l
  | [] => Nat.le_refl _
  | x :: r => by
    show max (depthV (valT x)) (depthVs (valTs r)) ≤ max (depthT x) (depthTs r)
    have h1 := valT_depth x
    have h2 := valTs_depth r
    omega
end
/-! ### how many tokens a value takes -/
mutual
def mT : Told → Nat
  | .num _ => 1
  | .arr _ l => 1 + mTs l
def mTs : List Told → Nat
  | [] => 0
  | x :: r => mT x + mTs r
end
theorem mTs_app : ∀ a b : List Told, mTs (a ++ b) = mTs a + mTs b
  | [], b => by show mTs b = 0 + mTs b; omega
  | x :: a, b => by
    show mT x + mTs (a ++ b) = mT x + mTs a + mTs b
    rw [mTs_app a b]; omega
theorem mTs_rev : ∀ l : List Told, mTs l.reverse = mTs l
  | [] => rfl
  | x :: r => by
    rw [List.reverse_cons, mTs_app, mTs_rev r]
    show mTs r + (mT x + 0) = mT x + mTs r
    omega
mutual
theorem depth_m : ∀ x : Told, depthT x ≤ mT x
  | .num _ => Nat.zero_le _
  | .arr s l => by
    show 1 + depthTs l ≤ 1 + mTs l
    have := depth_ms l
    omega
theorem depth_ms : ∀ l : List Told, depthTs l ≤ mTs l
  | [] => Nat.le_refl _
  | x :: r => by
    show max (depthT x) (depthTs r) ≤ mT x + mTs r
    have h1 := depth_m x
    have h2 := depth_ms r
    omega
end
def mO : List (List Int × List Told) → Nat
  | [] => 0
  | (_, l) :: o => 1 + mTs l + mO o
def mSt : PSt → Nat
  | .val o => mO o
  | .ext _ o => 1 + mO o
  | .fin x => mT x
theorem stp_m {st st' : PSt} {tok : Token} (h : stp st tok = some st') : mSt st' ≤ mSt st + 1 := by
  match st, tok with
  | .val [], .num n => cases h; show 1 ≤ 0 + 1; omega
  | .val ((s, l) :: o), .num n =>
    cases h
    show 1 + (1 + mTs l) + mO o ≤ 1 + mTs l + mO o + 1
    omega
  | .val [], .sign c =>
    simp only [stp] at h
    split at h
    · cases h; show 1 + 0 ≤ 0 + 1; omega
    · split at h <;> cases h
  | .val ((s, l) :: []), .sign c =>
    simp only [stp] at h
    split at h
    · cases h; show 1 + (1 + mTs l + 0) ≤ 1 + mTs l + 0 + 1; omega
    · split at h
      · cases h
        show 1 + mTs l.reverse ≤ 1 + mTs l + 0 + 1
        rw [mTs_rev]; omega
      · cases h
  | .val ((s, l) :: (t, m) :: o), .sign c =>
    simp only [stp] at h
    split at h
    · cases h; show 1 + (1 + mTs l + (1 + mTs m + mO o)) ≤ 1 + mTs l + (1 + mTs m + mO o) + 1; omega
    · split at h
      · cases h
        show 1 + ((1 + mTs l.reverse) + mTs m) + mO o ≤ 1 + mTs l + (1 + mTs m + mO o) + 1
        rw [mTs_rev]; omega
      · cases h
  | .val [], .none => cases h
  | .val (_ :: _), .none => cases h
  | .ext xs o, .num n =>
    simp only [stp] at h
    split at h
    · cases h
    · cases h; show 1 + mO o ≤ 1 + mO o + 1; omega
  | .ext xs o, .sign c =>
    simp only [stp] at h
    split at h
    · cases h; show 1 + 0 + mO o ≤ 1 + mO o + 1; omega
    · cases h
  | .ext xs o, .none => cases h
  | .fin x, _ => cases h
theorem run_m (t : List Nat) : ∀ (r : List (Nat × Nat)) (st : PSt) (x : Told), runP t st r = .ok x → mT x ≤ mSt st + r.length
  | [], .fin y, x, h => by cases h; exact Nat.le_refl _
  | [], .val _, _, h => by cases h
  | [], .ext _ _, _, h => by cases h
  | z :: r, st, x, h => by
    by_cases hz : z.2 = z.1
    · rw [runP_bad hz] at h; cases h
    · cases e : stp st (tokOf t z.1 z.2) with
      | none => rw [runP_none hz e] at h; cases h
      | some st' =>
        rw [runP_some hz e] at h
        have h1 := run_m t r st' x h
        have h2 := stp_m e
        simp only [List.length_cons]
        omega
theorem told_depth {t : List Nat} {x : Told} (h : runP t (.val []) (toks t) = .ok x) : depthT x < t.length + 1 := by
  have h1 := run_m t _ _ _ h
  have h2 := toks_len t
  have h3 := depth_m x
  have h4 : mSt (.val []) = 0 := rfl
  omega
/-! ### the numbers -/
def tokSmall (t : List Nat) (z : Nat × Nat) : Bool := isSign (t.getD z.1 0) || decide ((numTold t z.1 z.2).natAbs ≤ 1000000000000000000)
def smallO : List (List Int × List Told) → Bool
  | [] => true
  | (s, l) :: o => s.all (fun n => decide (n ≤ G)) && (l.all smallT && smallO o)
def smallSt : PSt → Bool
  | .val o => smallO o
  | .ext xs o => xs.all (fun n => decide (n ≤ G)) && smallO o
  | .fin x => smallT x
theorem all_rev {α : Type} (p : α → Bool) (l : List α) : l.reverse.all p = l.all p := by
  rw [List.all_reverse]
def numOk : Token → Bool
  | .num n => decide (n.natAbs ≤ 1000000000000000000)
  | _ => true
/-- one token more -/
theorem stp_small {st st' : PSt} {tok : Token} (h : stp st tok = some st') : smallSt st' = (smallSt st && numOk tok) := by
  have hG : ∀ n : Int, (decide (-G ≤ n) && decide (n ≤ G)) = decide (n.natAbs ≤ 1000000000000000000) := fun n => by
    rw [← Bool.decide_and]
    refine decide_eq_decide.mpr ?_
    unfold G
    omega
  have hG2 : ∀ n : Int, ¬ n < 0 → decide (n ≤ G) = decide (n.natAbs ≤ 1000000000000000000) := fun n hn => by
    refine decide_eq_decide.mpr ?_
    unfold G
    omega
  match st, tok with
  | .val [], .num n =>
    cases h
    show (decide (-G ≤ n) && decide (n ≤ G)) = (true && decide (n.natAbs ≤ 1000000000000000000))
    rw [hG, Bool.true_and]
  | .val ((s, l) :: o), .num n =>
    cases h
    show (s.all (fun n => decide (n ≤ G)) && (((decide (-G ≤ n) && decide (n ≤ G)) && l.all smallT) && smallO o)) = ((s.all (fun n => decide (n ≤ G)) && (l.all smallT && smallO o)) && decide (n.natAbs ≤ 1000000000000000000))
    rw [hG]
    ac_rfl
  | .val [], .sign c =>
    simp only [stp] at h
    split at h
    · cases h; rfl
    · split at h <;> cases h
  | .val ((s, l) :: []), .sign c =>
    simp only [stp] at h
    split at h
    · cases h
      show (true && _) = (_ && true)
      rw [Bool.true_and, Bool.and_true]; rfl
    · split at h
      · cases h
        show (s.all (fun n => decide (n ≤ G)) && smallTs l.reverse) = ((s.all (fun n => decide (n ≤ G)) && (l.all smallT && true)) && true)
        rw [smallTs_all, all_rev, Bool.and_true, Bool.and_true]
      · cases h
  | .val ((s, l) :: (t, m) :: o), .sign c =>
    simp only [stp] at h
    split at h
    · cases h
      show (true && _) = (_ && true)
      rw [Bool.true_and, Bool.and_true]; rfl
    · split at h
      · cases h
        show (t.all (fun n => decide (n ≤ G)) && (((s.all (fun n => decide (n ≤ G)) && smallTs l.reverse) && m.all smallT) && smallO o)) = ((s.all (fun n => decide (n ≤ G)) && (l.all smallT && (t.all (fun n => decide (n ≤ G)) && (m.all smallT && smallO o)))) && true)
        rw [smallTs_all, all_rev, Bool.and_true]
        ac_rfl
      · cases h
  | .val [], .none => cases h
  | .val (_ :: _), .none => cases h
  | .ext xs o, .num n =>
    simp only [stp] at h
    split at h
    · cases h
    · rename_i hn
      cases h
      show ((decide (n ≤ G) && xs.all (fun n => decide (n ≤ G))) && smallO o) = ((xs.all (fun n => decide (n ≤ G)) && smallO o) && decide (n.natAbs ≤ 1000000000000000000))
      rw [hG2 n hn]
      ac_rfl
  | .ext xs o, .sign c =>
    simp only [stp] at h
    split at h
    · cases h
      show (xs.reverse.all (fun n => decide (n ≤ G)) && (true && smallO o)) = ((xs.all (fun n => decide (n ≤ G)) && smallO o) && true)
      rw [all_rev, Bool.true_and, Bool.and_true]
    · cases h
  | .ext xs o, .none => cases h
  | .fin x, _ => cases h
theorem run_small (t : List Nat) : ∀ (r : List (Nat × Nat)) (st : PSt) (x : Told), runP t st r = .ok x → smallT x = (smallSt st && r.all (tokSmall t))
  | [], .fin y, x, h => by cases h; rw [List.all_nil, Bool.and_true]; rfl
  | [], .val _, _, h => by cases h
  | [], .ext _ _, _, h => by cases h
  | z :: r, st, x, h => by
    by_cases hz : z.2 = z.1
    · rw [runP_bad hz] at h; cases h
    · cases e : stp st (tokOf t z.1 z.2) with
      | none => rw [runP_none hz e] at h; cases h
      | some st' =>
        rw [runP_some hz e] at h
        rw [run_small t r st' x h, stp_small e, List.all_cons]
        have e2 : numOk (tokOf t z.1 z.2) = tokSmall t z := by
          unfold tokOf tokSmall
          by_cases hs : isSign (t.getD z.1 0) = true
          · rw [if_pos hs, hs]; rfl
          · rw [if_neg hs, Bool.eq_false_iff.mpr hs]; rfl
        rw [e2, Bool.and_assoc]
/-! ### the shapes -/
def fineO : List (List Int × List Told) → Bool
  | [] => true
  | (_, l) :: o => l.all shapedT && fineO o
def fineSt : PSt → Bool
  | .val o => fineO o
  | .ext _ o => fineO o
  | .fin x => shapedT x
/-- what a token closes, if it's a ] -/
def closes (st : PSt) (tok : Token) : Bool := match st, tok with
  | .val ((s, l) :: _), .sign c => if c = 93 then nodeOk s l.length else true
  | _, _ => true
theorem stp_fine {st st' : PSt} {tok : Token} (h : stp st tok = some st') : fineSt st' = (fineSt st && closes st tok) := by
  match st, tok with
  | .val [], .num n => cases h; rfl
  | .val ((s, l) :: o), .num n =>
    cases h
    show ((true && l.all shapedT) && fineO o) = ((l.all shapedT && fineO o) && true)
    rw [Bool.true_and, Bool.and_true]
  | .val [], .sign c =>
    simp only [stp] at h
    split at h
    · cases h; rfl
    · split at h <;> cases h
  | .val ((s, l) :: []), .sign c =>
    simp only [stp] at h
    split at h
    · rename_i hc
      cases h
      subst hc
      show (l.all shapedT && true) = ((l.all shapedT && true) && true)
      rw [Bool.and_true, Bool.and_true]
    · split at h
      · rename_i hc
        cases h
        show (nodeOk s l.reverse.length && shapedTs l.reverse) = ((l.all shapedT && true) && if c = 93 then nodeOk s l.length else true)
        rw [shapedTs_all, all_rev, List.length_reverse, if_pos hc, Bool.and_true, Bool.and_comm]
      · cases h
  | .val ((s, l) :: (t, m) :: o), .sign c =>
    simp only [stp] at h
    split at h
    · rename_i hc
      cases h
      subst hc
      show (l.all shapedT && (m.all shapedT && fineO o)) = ((l.all shapedT && (m.all shapedT && fineO o)) && true)
      rw [Bool.and_true]
    · split at h
      · rename_i hc
        cases h
        show (((nodeOk s l.reverse.length && shapedTs l.reverse) && m.all shapedT) && fineO o) = ((l.all shapedT && (m.all shapedT && fineO o)) && if c = 93 then nodeOk s l.length else true)
        rw [shapedTs_all, all_rev, List.length_reverse, if_pos hc]
        ac_rfl
      · cases h
  | .val [], .none => cases h
  | .val (_ :: _), .none => cases h
  | .ext xs o, .num n =>
    simp only [stp] at h
    split at h
    · cases h
    · cases h; show fineO o = (fineO o && true); rw [Bool.and_true]
  | .ext xs o, .sign c =>
    simp only [stp] at h
    split at h
    · cases h
      show (true && fineO o) = (fineO o && true)
      rw [Bool.true_and, Bool.and_true]
    · cases h
  | .ext xs o, .none => cases h
  | .fin x, _ => cases h
/-- once an array has no good shape, what's told has none -/
theorem run_fine (t : List Nat) : ∀ (r : List (Nat × Nat)) (st : PSt) (x : Told), runP t st r = .ok x → fineSt st = false → shapedT x = false
  | [], .fin y, x, h, f => by cases h; exact f
  | [], .val _, _, h, _ => by cases h
  | [], .ext _ _, _, h, _ => by cases h
  | z :: r, st, x, h, f => by
    by_cases hz : z.2 = z.1
    · rw [runP_bad hz] at h; cases h
    · cases e : stp st (tokOf t z.1 z.2) with
      | none => rw [runP_none hz e] at h; cases h
      | some st' =>
        rw [runP_some hz e] at h
        exact run_fine t r st' x h (by rw [stp_fine e, f, Bool.false_and])
/-! ### what is begun and not ended, list by list -/
def encO : List (List Int × List Told) → List (List Told)
  | [] => [[]]
  | (s, l) :: o => encO o ++ [s.map Told.num, l.reverse]
def encS : PSt → List (List Told)
  | .val o => encO o
  | .ext xs o => encO o ++ [xs.reverse.map Told.num]
  | .fin x => [[x]]
def posO : List (List Int × List Told) → Bool
  | [] => true
  | (s, _) :: o => s.all (fun n => decide (0 ≤ n)) && posO o
def posSt : PSt → Bool
  | .val o => posO o
  | .ext xs o => xs.all (fun n => decide (0 ≤ n)) && posO o
  | .fin _ => true
theorem encO_last : ∀ o : List (List Int × List Told), ∃ S, encO o = S ++ [match o with | [] => [] | (_, l) :: _ => l.reverse]
  | [] => ⟨[], rfl⟩
  | (s, l) :: o => ⟨encO o ++ [s.map Told.num], by
    show encO o ++ [s.map Told.num, l.reverse] = _
    rw [List.append_assoc]
    rfl⟩
theorem stp_pos {st st' : PSt} {tok : Token} (h : stp st tok = some st') (p : posSt st = true) : posSt st' = true := by
  match st, tok with
  | .val [], .num n => cases h; rfl
  | .val ((s, l) :: o), .num n => cases h; exact p
  | .val [], .sign c =>
    simp only [stp] at h
    split at h
    · cases h; rfl
    · split at h <;> cases h
  | .val ((s, l) :: []), .sign c =>
    simp only [stp] at h
    split at h
    · cases h; exact p
    · split at h
      · cases h; rfl
      · cases h
  | .val ((s, l) :: (t, m) :: o), .sign c =>
    simp only [stp] at h
    split at h
    · cases h; exact p
    · split at h
      · cases h
        have p : (s.all (fun n => decide (0 ≤ n)) && (t.all (fun n => decide (0 ≤ n)) && posO o)) = true := p
        rw [Bool.and_eq_true] at p
        exact p.2
      · cases h
  | .val [], .none => cases h
  | .val (_ :: _), .none => cases h
  | .ext xs o, .num n =>
    simp only [stp] at h
    split at h
    · cases h
    · rename_i hn
      cases h
      show ((decide (0 ≤ n) && xs.all (fun n => decide (0 ≤ n))) && posO o) = true
      have p : (xs.all (fun n => decide (0 ≤ n)) && posO o) = true := p
      rw [decide_eq_true (show 0 ≤ n by omega), Bool.true_and]
      exact p
  | .ext xs o, .sign c =>
    simp only [stp] at h
    split at h
    · cases h
      show (xs.reverse.all (fun n => decide (0 ≤ n)) && posO o) = true
      rw [all_rev]
      exact p
    · cases h
  | .ext xs o, .none => cases h
  | .fin x, _ => cases h
/-- what a token does to the lists: a number goes into the last one, [ and : begin one, ] ends two and puts an array into the one ahead of them -/
theorem stp_lists {st st' : PSt} {tok : Token} (h : stp st tok = some st') :
    (∀ n, tok = .num n → ∃ S l, encS st = S ++ [l] ∧ encS st' = S ++ [l ++ [.num n]]) ∧
    (tok = .sign 91 ∨ tok = .sign 58 → encS st' = encS st ++ [[]]) ∧
    (tok = .sign 93 → ∃ S l s k o, st = .val ((s, k) :: o) ∧ encS st = (S ++ [l]) ++ [s.map Told.num] ++ [k.reverse] ∧ encS st' = S ++ [l ++ [.arr s k.reverse]]) := by
  match st, tok with
  | .val [], .num n =>
    cases h
    exact ⟨fun m e => ⟨[], [], rfl, (by cases e; rfl)⟩, fun e => (by rcases e with e | e <;> cases e), fun e => (by cases e)⟩
  | .val ((s, l) :: o), .num n =>
    cases h
    refine ⟨fun m e => ⟨encO o ++ [s.map Told.num], l.reverse, ?_, ?_⟩, fun e => (by rcases e with e | e <;> cases e), fun e => (by cases e)⟩
    · show encO o ++ [s.map Told.num, l.reverse] = _
      rw [List.append_assoc]; rfl
    · cases e
      show encO o ++ [s.map Told.num, (Told.num n :: l).reverse] = _
      rw [List.append_assoc, List.reverse_cons]; rfl
  | .val [], .sign c =>
    simp only [stp] at h
    split at h
    · rename_i hc
      cases h
      subst hc
      exact ⟨fun n e => (by cases e), fun _ => rfl, fun e => (by cases e)⟩
    · split at h <;> cases h
  | .val ((s, l) :: []), .sign c =>
    simp only [stp] at h
    split at h
    · rename_i hc
      cases h
      subst hc
      exact ⟨fun n e => (by cases e), fun _ => rfl, fun e => (by cases e)⟩
    · split at h
      · rename_i hc
        cases h
        subst hc
        exact ⟨fun n e => (by cases e), fun e => (by rcases e with e | e <;> cases e), fun _ => ⟨[], [], s, l, [], rfl, rfl, rfl⟩⟩
      · cases h
  | .val ((s, l) :: (t, m) :: o), .sign c =>
    simp only [stp] at h
    split at h
    · rename_i hc
      cases h
      subst hc
      exact ⟨fun n e => (by cases e), fun _ => rfl, fun e => (by cases e)⟩
    · split at h
      · rename_i hc
        cases h
        subst hc
        refine ⟨fun n e => (by cases e), fun e => (by rcases e with e | e <;> cases e), fun _ => ⟨encO o ++ [t.map Told.num], m.reverse, s, l, (t, m) :: o, rfl, ?_, ?_⟩⟩
        · show (encO o ++ [t.map Told.num, m.reverse]) ++ [s.map Told.num, l.reverse] = _
          simp only [List.append_assoc, List.cons_append, List.nil_append]
        · show encO o ++ [t.map Told.num, (Told.arr s l.reverse :: m).reverse] = _
          rw [List.reverse_cons, List.append_assoc]
          rfl
      · cases h
  | .val [], .none => cases h
  | .val (_ :: _), .none => cases h
  | .ext xs o, .num n =>
    simp only [stp] at h
    split at h
    · cases h
    · cases h
      refine ⟨fun m e => ⟨encO o, xs.reverse.map Told.num, rfl, ?_⟩, fun e => (by rcases e with e | e <;> cases e), fun e => (by cases e)⟩
      cases e
      show encO o ++ [(n :: xs).reverse.map Told.num] = _
      rw [List.reverse_cons, List.map_append]
      rfl
  | .ext xs o, .sign c =>
    simp only [stp] at h
    split at h
    · rename_i hc
      cases h
      subst hc
      refine ⟨fun n e => (by cases e), fun _ => ?_, fun e => (by cases e)⟩
      show encO o ++ [xs.reverse.map Told.num, []] = (encO o ++ [xs.reverse.map Told.num]) ++ [[]]
      rw [List.append_assoc]
      rfl
    · cases h
  | .ext xs o, .none => cases h
  | .fin x, _ => cases h
theorem run_ok_toks (t : List Nat) : ∀ (r : List (Nat × Nat)) (st : PSt) (x : Told), runP t st r = .ok x → ∀ z ∈ r, z.2 ≠ z.1
  | [], _, _, _, z, hz => by cases hz
  | y :: r, st, x, h, z, hz => by
    by_cases hy : y.2 = y.1
    · rw [runP_bad hy] at h; cases h
    · cases e : stp st (tokOf t y.1 y.2) with
      | none => rw [runP_none hy e] at h; cases h
      | some st' =>
        rw [runP_some hy e] at h
        rcases List.mem_cons.mp hz with rfl | hz
        · exact hy
        · exact run_ok_toks t r st' x h z hz
theorem run_step {t : List Nat} {r : List (Nat × Nat)} {st : PSt} {x : Told} {y : Nat × Nat} (h : runP t st (y :: r) = .ok x) : ∃ st', stp st (tokOf t y.1 y.2) = some st' ∧ runP t st' r = .ok x := by
  have hy := run_ok_toks t _ _ _ h y (List.mem_cons_self ..)
  cases e : stp st (tokOf t y.1 y.2) with
  | none => rw [runP_none hy e] at h; cases h
  | some st' =>
    rw [runP_some hy e] at h
    exact ⟨st', rfl, h⟩
theorem run_end {t : List Nat} {st : PSt} {x : Told} (h : runP t st [] = .ok x) : st = .fin x := by
  match st with
  | .fin y => cases h; rfl
  | .val _ => cases h
  | .ext _ _ => cases h
theorem mem_takeWhile {p : Nat → Bool} {c : Nat} : ∀ {l : List Nat}, c ∈ l.takeWhile p → p c = true
  | [], h => by cases h
  | a :: l, h => by
    rw [List.takeWhile_cons] at h
    split at h
    · rcases List.mem_cons.mp h with rfl | h
      · assumption
      · exact mem_takeWhile h
    · cases h
/-- the digits of a number's token -/
theorem tok_digits {t : List Nat} {s e : Nat} (he : e = tokenEnd t s) (hn : e ≠ s) (hs : isSign (t.getD s 0) = false) : first t s ≤ e ∧ ∀ c ∈ (t.drop (first t s)).take (e - first t s), 48 ≤ c := by
  have hde := digitsEnd_ge t (first t s)
  unfold tokenEnd at he
  rw [if_neg (by rw [hs]; exact Bool.false_ne_true)] at he
  by_cases c1 : digitsEnd t (first t s) = first t s
  · rw [if_pos c1] at he; exact absurd he hn
  · rw [if_neg c1] at he
    by_cases c2 : t.getD (first t s) 0 = 48 ∧ 1 < digitsEnd t (first t s) - s
    · rw [if_pos c2] at he; exact absurd he hn
    · rw [if_neg c2] at he
      have elen : ((t.drop (first t s)).takeWhile digit).length = digitsEnd t (first t s) - first t s := by unfold digitsEnd; omega
      refine ⟨by omega, fun c hc => ?_⟩
      rw [he, ← elen, take_takeWhile digit] at hc
      exact (digit_iff.mp (mem_takeWhile hc)).1
/-! ### reading, by the tokens -/
/-- a text that's looked at -/
def look (t : List Nat) : Except Int V :=
  if 8192 < t.length then .error (-1) else match runP t (.val []) (toks t) with
    | .error _ => .error (-2)
    | .ok x => if (toks t).all (tokSmall t) = false then .error (-3) else if shapedT x = false then .error (-4) else if withinV (valT x) = false then .error (-5) else .ok (valT x)
theorem read_look (t : List Nat) : Vaarrm.read t = look t := by
  unfold Vaarrm.read look
  by_cases c : 8192 < t.length
  · rw [if_pos c, if_pos c]; rfl
  · rw [if_neg c, if_neg c, readTold_run]
    cases e : runP t (.val []) (toks t) with
    | error p => rfl
    | ok x =>
      have hd := told_depth e
      have hs : small (t.length + 1) x = (toks t).all (tokSmall t) := by
        rw [small_far _ _ hd, run_small t _ _ _ e]
        show (true && _) = _
        rw [Bool.true_and]
      simp only [hs, shaped_far _ _ hd, value_far _ _ hd, within_far (Nat.lt_of_le_of_lt (valT_depth x) hd)]
      rfl
end NA
namespace NA
open Vaarrm
/-! ### what is asked of values, without a bound of the depth -/
mutual
def leavesV : V → List Int
  | .num n => [n]
  | .arr _ l => leavesVs l
def leavesVs : List V → List Int
  | [] => []
  | v :: r => leavesV v ++ leavesVs r
end
mutual
def goodV : V → Bool
  | .num _ => true
  | .arr s l => shapeOk s && goodVs l
def goodVs : List V → Bool
  | [] => true
  | v :: r => goodV v && goodVs r
end
mutual
def mapV (f : Int → Int) : V → V
  | .num n => .num (f n)
  | .arr s l => .arr s (mapVs f l)
def mapVs (f : Int → Int) : List V → List V
  | [] => []
  | v :: r => mapV f v :: mapVs f r
end
mutual
def textV : V → List Nat
  | .num n => numText n
  | .arr s l => 91 :: (spaced (s.map decimal) ++ (58 :: (textVs l ++ [93])))
def textVs : List V → List Nat
  | [] => []
  | v :: r => 32 :: textV v ++ textVs r
end
theorem leavesVs_flat : ∀ l : List V, leavesVs l = l.flatMap leavesV
  | [] => rfl
  | v :: r => by rw [List.flatMap_cons, ← leavesVs_flat r]; rfl
theorem goodVs_all : ∀ l : List V, goodVs l = l.all goodV
  | [] => rfl
  | v :: r => by rw [List.all_cons, ← goodVs_all r]; rfl
theorem mapVs_map (f : Int → Int) : ∀ l : List V, mapVs f l = l.map (mapV f)
  | [] => rfl
  | v :: r => by rw [List.map_cons, ← mapVs_map f r]; rfl
theorem textVs_flat : ∀ l : List V, textVs l = l.flatMap fun v => 32 :: textV v
  | [] => rfl
  | v :: r => by rw [List.flatMap_cons, ← textVs_flat r]; rfl
theorem flatMap_congr {α β : Type} {f g : α → List β} : ∀ {l : List α}, (∀ x ∈ l, f x = g x) → l.flatMap f = l.flatMap g
  | [], _ => rfl
  | x :: r, h => by rw [List.flatMap_cons, List.flatMap_cons, h x (List.mem_cons_self ..), flatMap_congr fun y hy => h y (List.mem_cons_of_mem _ hy)]
theorem leaves_far : ∀ (k : Nat) (v : V), depthV v < k → leaves k v = leavesV v
  | 0, _, h => absurd h (Nat.not_lt_zero _)
  | k + 1, .num _, _ => rfl
  | k + 1, .arr s l, h => by
    show l.flatMap (leaves k) = leavesVs l
    have h : 1 + depthVs l < k + 1 := h
    rw [leavesVs_flat, flatMap_congr fun v hv => leaves_far k v (by have := depthV_mem hv; omega)]
theorem good_far : ∀ (k : Nat) (v : V), depthV v < k → goodShapes k v = goodV v
  | 0, _, h => absurd h (Nat.not_lt_zero _)
  | k + 1, .num _, _ => rfl
  | k + 1, .arr s l, h => by
    show (shapeOk s && l.all (goodShapes k)) = (shapeOk s && goodVs l)
    have h : 1 + depthVs l < k + 1 := h
    rw [goodVs_all, all_congr fun v hv => good_far k v (by have := depthV_mem hv; omega)]
theorem map_far (f : Int → Int) : ∀ (k : Nat) (v : V), depthV v < k → mapNums f k v = mapV f v
  | 0, _, h => absurd h (Nat.not_lt_zero _)
  | k + 1, .num _, _ => rfl
  | k + 1, .arr s l, h => by
    show V.arr s (l.map (mapNums f k)) = V.arr s (mapVs f l)
    have h : 1 + depthVs l < k + 1 := h
    rw [mapVs_map, List.map_congr_left fun v hv => map_far f k v (by have := depthV_mem hv; omega)]
theorem text_far : ∀ (k : Nat) (v : V), depthV v < k → textOf k v = textV v
  | 0, _, h => absurd h (Nat.not_lt_zero _)
  | k + 1, .num _, _ => rfl
  | k + 1, .arr s l, h => by
    show 91 :: (spaced (s.map decimal) ++ (58 :: (l.flatMap (fun v => 32 :: textOf k v) ++ [93]))) = 91 :: (spaced (s.map decimal) ++ (58 :: (textVs l ++ [93])))
    have h : 1 + depthVs l < k + 1 := h
    rw [textVs_flat, flatMap_congr (g := fun v => 32 :: textV v) fun v hv => by rw [text_far k v (by have := depthV_mem hv; omega)]]
mutual
theorem leavesV_len : ∀ v : V, (leavesV v).length ≤ sizeV v
  | .num _ => Nat.le_refl _
  | .arr s l => by
    show (leavesVs l).length ≤ 1 + sizeVs l
    have := leavesVs_len l
    omega
theorem leavesVs_len : ∀ l : List V, (leavesVs l).length ≤ sizeVs l
  | [] => Nat.le_refl _
  | v :: r => by
    show (leavesV v ++ leavesVs r).length ≤ sizeV v + sizeVs r
    rw [List.length_append]
    have h1 := leavesV_len v
    have h2 := leavesVs_len r
    omega
end
theorem sizeV_mem {v : V} : ∀ {l : List V}, v ∈ l → sizeV v ≤ sizeVs l
  | w :: r, h => by
    rcases List.mem_cons.mp h with rfl | h
    · exact Nat.le_add_right _ _
    · exact Nat.le_trans (sizeV_mem h) (Nat.le_add_left _ _)
theorem length_sizeVs : ∀ l : List V, l.length ≤ sizeVs l
  | [] => Nat.le_refl _
  | v :: r => by
    have h1 := sizeV_pos v
    have h2 := length_sizeVs r
    show r.length + 1 ≤ sizeV v + sizeVs r
    omega
theorem within_iff {v : V} : withinV v = true ↔ depthV v ≤ 8 ∧ sizeV v ≤ 512 := by
  unfold withinV
  rw [Bool.and_eq_true, decide_eq_true_iff, decide_eq_true_iff]
theorem look_within {t : List Nat} {v : V} (h : look t = .ok v) : withinV v = true := by
  unfold look at h
  split at h
  · cases h
  · split at h
    · cases h
    · split at h
      · cases h
      · split at h
        · cases h
        · split at h
          · cases h
          · rename_i hw
            cases h
            simpa using hw
mutual
theorem good_of_shaped : ∀ x : Told, shapedT x = true → goodV (valT x) = true
  | .num _, _ => rfl
  | .arr s l, h => by
    have h : (nodeOk s l.length && shapedTs l) = true := h
    obtain ⟨h1, h2⟩ := Bool.and_eq_true_iff.mp h
    have hg := goods_of_shaped l h2
    unfold nodeOk at h1
    have h3 := (Bool.and_eq_true_iff.mp h1).1
    show goodV (made (s.map fun n => n.toNat) (valTs l)) = true
    unfold made
    split
    · rfl
    · show (shapeOk (s.map fun n => n.toNat) && goodVs (valTs l)) = true
      rw [h3, hg]; rfl
theorem goods_of_shaped : ∀ l : List Told, shapedTs l = true → goodVs (valTs l) = true
  | [], _ => rfl
  | x :: r, h => by
    have h : (shapedT x && shapedTs r) = true := h
    obtain ⟨h1, h2⟩ := Bool.and_eq_true_iff.mp h
    show (goodV (valT x) && goodVs (valTs r)) = true
    rw [good_of_shaped x h1, goods_of_shaped r h2]; rfl
end
theorem look_good {t : List Nat} {v : V} (h : look t = .ok v) : goodV v = true := by
  unfold look at h
  split at h
  · cases h
  · split at h
    · cases h
    · split at h
      · cases h
      · split at h
        · cases h
        · rename_i hs
          split at h
          · cases h
          · cases h
            exact good_of_shaped _ (by simpa using hs)
theorem good_rank {v : V} (h : goodV v = true) : (shapeOf v).length ≤ 4 := by
  cases v with
  | num n => exact Nat.zero_le _
  | arr s l =>
    have h : (shapeOk s && goodVs l) = true := h
    have h1 := (Bool.and_eq_true_iff.mp h).1
    unfold shapeOk at h1
    exact of_decide_eq_true (Bool.and_eq_true_iff.mp h1).1
/-- what is due of a call over one text -/
theorem one_due {ns : List Int} (hb : ∀ x ∈ ns, 0 ≤ x ∧ x ≤ 255) (call : Text → Call) (k : Int) (hk : ∀ l, VaarrmNeutral.callOf [[k], l] = (VaarrmNeutral.text l).map call) : (VaarrmNeutral.step VaarrmNeutral.start [[k], ns]).2 = VaarrmNeutral.encode (answer (call (ns.map Int.toNat))) := by
  have hB : NeutralIO.bytes ns = true := List.all_eq_true.mpr fun x hx => by
    have := hb x hx
    rw [decide_eq_true this.1, decide_eq_true this.2]
    rfl
  have e : VaarrmNeutral.text ns = some (ns.map Int.toNat) := if_pos hB
  unfold VaarrmNeutral.step
  rw [hk, e]
  rfl
/-- one text, by the program's reading -/
theorem one_look (f : Nat) (t : List Nat) : answer (.one f t) = match look t with
    | .error k => no k
    | .ok v => oneAnswer f v := by
  show onValue t (oneAnswer f) = _
  unfold onValue
  rw [read_look]
  cases look t <;> rfl
end NA
namespace NA
open Vaarrm
/-! ### decimal digits, and how long texts get -/
theorem char_digit : ∀ d : Nat, d < 10 → (Nat.digitChar d).toNat = 48 + d := by decide
theorem digits_far : ∀ (k n : Nat), n < 10 ^ k → 0 < k → (Nat.toDigits 10 n).map Char.toNat = digitsFrom k n
  | 0, _, _, h => absurd h (Nat.lt_irrefl _)
  | k + 1, n, h, _ => by
    unfold digitsFrom
    by_cases c : n < 10
    · rw [if_pos c, Nat.toDigits_of_lt_base c]
      show [(Nat.digitChar n).toNat] = [48 + n]
      rw [char_digit n c]
    · have hk : 0 < k := by
        cases k with
        | zero => rw [Nat.pow_one] at h; exact absurd h c
        | succ k => exact Nat.succ_pos _
      have hd : n / 10 < 10 ^ k := Nat.div_lt_of_lt_mul (by rw [← Nat.pow_succ']; exact h)
      rw [if_neg c, Nat.toDigits_of_base_le (by decide) (Nat.le_of_not_lt c), List.map_append, digits_far k (n / 10) hd hk]
      show _ ++ [(Nat.digitChar (n % 10)).toNat] = _
      rw [char_digit _ (Nat.mod_lt _ (by decide))]
theorem decimal_eq {n : Nat} (h : n ≤ 1000000000000000000) : (Nat.toDigits 10 n).map Char.toNat = decimal n :=
  digits_far 40 n (Nat.lt_of_le_of_lt h (by decide)) (by decide)
theorem digitsFrom_len : ∀ (k n : Nat), (digitsFrom k n).length ≤ k
  | 0, _ => Nat.le_refl _
  | k + 1, n => by
    unfold digitsFrom
    split
    · exact Nat.succ_le_succ (Nat.zero_le _)
    · rw [List.length_append]
      exact Nat.succ_le_succ (digitsFrom_len k _)
theorem decimal_len (n : Nat) : (decimal n).length ≤ 40 := digitsFrom_len 40 n
theorem numText_len (n : Int) : (numText n).length ≤ 41 := by
  unfold numText
  split
  · exact Nat.succ_le_succ (decimal_len _)
  · exact Nat.le_succ_of_le (decimal_len _)
theorem flat_len : ∀ (r : List Nat), ((r.map decimal).flatMap fun y => 32 :: y).length ≤ 41 * r.length
  | [] => Nat.le_refl _
  | n :: r => by
    rw [List.map_cons, List.flatMap_cons, List.length_append, List.length_cons, List.length_cons]
    have h1 := decimal_len n
    have h2 := flat_len r
    omega
theorem spaced_len (s : List Nat) : (spaced (s.map decimal)).length ≤ 41 * s.length := by
  cases s with
  | nil => exact Nat.le_refl _
  | cons n r =>
    show (decimal n ++ (r.map decimal).flatMap fun y => 32 :: y).length ≤ _
    rw [List.length_append, List.length_cons]
    have h1 := decimal_len n
    have h2 := flat_len r
    omega
mutual
theorem textV_len : ∀ v : V, goodV v = true → (textV v).length + 1 ≤ 200 * sizeV v
  | .num n, _ => by
    show (numText n).length + 1 ≤ 200 * 1
    have := numText_len n
    omega
  | .arr s l, h => by
    have hr := good_rank h
    have hr : s.length ≤ 4 := hr
    have h : (shapeOk s && goodVs l) = true := h
    have hs := textVs_len l (Bool.and_eq_true_iff.mp h).2
    have hp := spaced_len s
    show (91 :: (spaced (s.map decimal) ++ (58 :: (textVs l ++ [93])))).length + 1 ≤ 200 * (1 + sizeVs l)
    rw [List.length_cons, List.length_append, List.length_cons, List.length_append, List.length_singleton]
    omega
theorem textVs_len : ∀ l : List V, goodVs l = true → (textVs l).length ≤ 200 * sizeVs l
  | [], _ => Nat.le_refl _
  | v :: r, h => by
    have h : (goodV v && goodVs r) = true := h
    have h1 := textV_len v (Bool.and_eq_true_iff.mp h).1
    have h2 := textVs_len r (Bool.and_eq_true_iff.mp h).2
    show (32 :: textV v ++ textVs r).length ≤ 200 * (sizeV v + sizeVs r)
    rw [List.length_append, List.length_cons]
    omega
end
/-! ### the numbers in a value -/
def smallV (v : V) : Prop := ∀ n ∈ leavesV v, n.natAbs ≤ 1000000000000000000
mutual
theorem small_leaves : ∀ x : Told, smallT x = true → ∀ n ∈ leavesV (valT x), n.natAbs ≤ 1000000000000000000
  | .num m, h, n, hn => by
    have h : (decide (-G ≤ m) && decide (m ≤ G)) = true := h
    obtain ⟨h1, h2⟩ := Bool.and_eq_true_iff.mp h
    have h1 := of_decide_eq_true h1
    have h2 := of_decide_eq_true h2
    have e : n = m := List.mem_singleton.mp hn
    unfold G at h1 h2
    omega
  | .arr s l, h, n, hn => by
    have h : (s.all (fun n => decide (n ≤ G)) && smallTs l) = true := h
    refine small_leavess l (Bool.and_eq_true_iff.mp h).2 n ?_
    have e : leavesV (made (s.map fun n => n.toNat) (valTs l)) = leavesVs (valTs l) := by
      unfold made
      split
      · rename_i m heq
        rw [heq]
        rfl
      · rfl
    rw [← e]
    exact hn
theorem small_leavess : ∀ l : List Told, smallTs l = true → ∀ n ∈ leavesVs (valTs l), n.natAbs ≤ 1000000000000000000
  | [], _, n, hn => by cases hn
  | x :: r, h, n, hn => by
    have h : (smallT x && smallTs r) = true := h
    have hn : n ∈ leavesV (valT x) ++ leavesVs (valTs r) := hn
    rcases List.mem_append.mp hn with hn | hn
    · exact small_leaves x (Bool.and_eq_true_iff.mp h).1 n hn
    · exact small_leavess r (Bool.and_eq_true_iff.mp h).2 n hn
end
theorem look_small {t : List Nat} {v : V} (h : look t = .ok v) : smallV v := by
  unfold look at h
  split at h
  · cases h
  · split at h
    · cases h
    · rename_i x hx
      split at h
      · cases h
      · rename_i hs
        split at h
        · cases h
        · split at h
          · cases h
          · cases h
            refine small_leaves x ?_
            rw [run_small t _ _ _ hx]
            show (true && _) = true
            rw [Bool.true_and]
            simpa using hs
theorem product_ge : ∀ (s : List Nat) (a : Nat), 0 < a → (∀ n ∈ s, n ≠ 0) → a ≤ s.foldl (fun n x => n * x) a ∧ ∀ n ∈ s, n ≤ s.foldl (fun n x => n * x) a
  | [], a, _, _ => ⟨Nat.le_refl _, fun n hn => by cases hn⟩
  | m :: s, a, ha, h => by
    have hm : 0 < m := Nat.pos_of_ne_zero (h m (List.mem_cons_self ..))
    obtain ⟨h1, h2⟩ := product_ge s (a * m) (Nat.mul_pos ha hm) fun n hn => h n (List.mem_cons_of_mem _ hn)
    rw [List.foldl_cons]
    have h3 : a ≤ a * m := Nat.le_mul_of_pos_right a hm
    have h4 : m ≤ a * m := Nat.le_mul_of_pos_left m ha
    refine ⟨Nat.le_trans h3 h1, fun n hn => ?_⟩
    rcases List.mem_cons.mp hn with rfl | hn
    · exact Nat.le_trans h4 h1
    · exact h2 n hn
theorem shape_extents {s : List Nat} (h : shapeOk s = true) : ∀ n ∈ s, n ≤ 256 := fun n hn => by
  unfold shapeOk at h
  have h2 := of_decide_eq_true (Bool.and_eq_true_iff.mp h).2
  by_cases c : n = 0
  · rw [c]; exact Nat.zero_le _
  · have hm : n ∈ s.filter fun n => n != 0 := List.mem_filter.mpr ⟨hn, bne_iff_ne.mpr c⟩
    exact Nat.le_trans ((product_ge _ 1 (by decide) fun m hm => bne_iff_ne.mp (List.mem_filter.mp hm).2).2 n hm) h2
/-- what comes out, as the specification gives it -/
theorem given_ok {v : V} (hd : depthV v < FAR) : given (.ok v) = if goodV v = true ∧ withinV v = true then told (Vaarrm.ints (textV v)) else no LIMIT := by
  unfold given text
  simp only [good_far _ _ hd, within_far hd, text_far _ _ hd]
end NA
namespace NA
open Vaarrm
/-! ### values as they are told: an array of no extents has one item, and that is an array -/
mutual
def normV : V → Prop
  | .num _ => True
  | .arr s l => (s = [] → ∃ s' l', l = [.arr s' l']) ∧ normVs l
def normVs : List V → Prop
  | [] => True
  | v :: r => normV v ∧ normVs r
end
theorem normVs_mem {v : V} : ∀ {l : List V}, normVs l → v ∈ l → normV v
  | w :: r, h, hm => by
    rcases List.mem_cons.mp hm with rfl | hm
    · exact h.1
    · exact normVs_mem h.2 hm
mutual
theorem norm_told : ∀ x : Told, shapedT x = true → normV (valT x)
  | .num _, _ => True.intro
  | .arr s l, h => by
    have h : (nodeOk s l.length && shapedTs l) = true := h
    obtain ⟨h1, h2⟩ := Bool.and_eq_true_iff.mp h
    have hg := norm_tolds l h2
    unfold nodeOk at h1
    have h3 := (Bool.and_eq_true_iff.mp h1).2
    have hl : (valTs l).length = l.length := by rw [valTs_map, List.length_map]
    show normV (made (s.map fun n => n.toNat) (valTs l))
    generalize valTs l = vs at hl hg
    generalize (s.map fun n => n.toNat) = sh at h3
    unfold made
    split
    · exact True.intro
    · rename_i hno
      refine ⟨fun e => ?_, hg⟩
      subst e
      have h4 : vs.length = 1 := by
        have h5 := of_decide_eq_true h3
        rw [hl]
        first
          | exact h5
          | exact h5.symm
      obtain ⟨u, rfl⟩ := List.length_eq_one_iff.mp h4
      cases u with
      | num n => exact absurd rfl (hno n rfl)
      | arr s' l' => exact ⟨s', l', rfl⟩
theorem norm_tolds : ∀ l : List Told, shapedTs l = true → normVs (valTs l)
  | [], _ => True.intro
  | x :: r, h => by
    have h : (shapedT x && shapedTs r) = true := h
    obtain ⟨h1, h2⟩ := Bool.and_eq_true_iff.mp h
    exact ⟨norm_told x h1, norm_tolds r h2⟩
end
theorem look_norm {t : List Nat} {v : V} (h : look t = .ok v) : normV v := by
  unfold look at h
  split at h
  · cases h
  · split at h
    · cases h
    · split at h
      · cases h
      · split at h
        · cases h
        · rename_i hs
          split at h
          · cases h
          · cases h
            exact norm_told _ (by simpa using hs)
end NA
/-! The end of a Spec row whose def makes lambdas: the tables of the code objects are tracked beside the arguments. -/
namespace NAx
open PySem PySem.Spec PyProof.Rows L2 LamX
open PySem.W (OpenSpec Codec WData WellAll ReadsW)
mutual
theorem dwUp {K : PySem.W.Frag} {H H' : Hp} (e : Same H H') : ∀ {v : V} {d : WData}, Dw K H v d → Dw K H' v d
  | _, _, .non => .non
  | _, _, .bl b => .bl b
  | _, _, .int i => .int i
  | _, _, .str x => .str x
  | _, _, .byt b => .byt b
  | _, _, .lst s a => .lst (e.seq s) (dwUps e a)
  | _, _, .tup s a => .tup (by
      rcases s with (s | ⟨o, s⟩) | s
      · exact .inl (.inl (e _ _ s))
      · exact .inl (.inr ⟨o, e _ _ s⟩)
      · exact .inr s) (dwUps e a)
theorem dwUps {K : PySem.W.Frag} {H H' : Hp} (e : Same H H') : ∀ {vs : List V} {ds : List WData}, DwAll K H vs ds → DwAll K H' vs ds
  | _, _, .nil => .nil
  | _, _, .cons a r => .cons (dwUp e a) (dwUps e r)
end
/-- the arguments' heap with the tables beside it -/
def withT (T : List Addr) (H : Hp) : Hp := fun b => if b ∈ T then some (.tbl #[]) else H b
theorem withT_in {T : List Addr} {H : Hp} {b : Addr} (h : b ∈ T) : withT T H b = some (.tbl #[]) := if_pos h
theorem withT_out {T : List Addr} {H : Hp} {b : Addr} (h : b ∉ T) : withT T H b = H b := if_neg h
/-- nothing but what is locked, and the tables -/
def OnlyT (T : List Addr) (H : Hp) : Prop := ∀ b, H b = none ∨ b ∈ T ∨ ∃ o u, H b = some (.frz o u)
section
variable {P : Program} {w : World} {K : PySem.W.Frag} {mg mb : Str → Option Value} {CX : CXT} {k : Nat} {fa : Addr} {fd : FuncData} {ps : List Str} {sp : Sp} {s : Shared} {H : Hp} {cs : List (Addr × Addr)}
/-- what is hidden of the heap is what is tracked: namespaces, the written part and the code objects stay -/
theorem hide_ns {b : Addr} {m : Str → Option Value} (no : ∀ {b : Addr} {ob : Obj}, s.heap.get? b = some ob → (∀ vs n, ob.data ≠ .seq vs n) → ob.data ≠ .fields #[] → H b = none) (x : s.heap.Ns b m) : (hidT s.heap H).Ns b m := by
  obtain ⟨ob, es, ep, e, d, r⟩ := x
  exact ⟨ob, es, ep, hidT_get e (no e (fun vs n z => by rw [d] at z; cases z) fun z => by rw [d] at z; cases z), d, r⟩
theorem hide_tab {c T : Addr} (no : ∀ {b : Addr} {ob : Obj}, s.heap.get? b = some ob → (∀ vs n, ob.data ≠ .seq vs n) → ob.data ≠ .fields #[] → H b = none)
    (hns : s.heap.Ns mainGlobals mg) (hT : s.heap.get? T = some { cls := .none, data := .fields #[] }) (C : PySem.W.CodeHd s.heap c T)
    (hbm : ∃ (bm : Addr) (ob : Obj), mg "__builtins__" = some (.ref bm) ∧ bm ≠ builtinsNs ∧ s.heap.get? bm = some ob ∧ ob.cls = .type "module" ∧ ob.dict = some builtinsNs ∧ ob.data = .plain) : TabB (hidT s.heap H) mg c T := by
  obtain ⟨og, gs, gp, ge, gd, _⟩ := hns
  refine ⟨?_, ?_, fun z => ?_⟩
  · obtain ⟨o, us, file, tf, flags, tg, inF, text, tt, e1, r1, r2, r3, rest⟩ := C
    refine ⟨o, us, file, tf, flags, tg, inF, text, tt, hidT_get e1 (no e1 (fun vs n z => ?_) fun z => ?_), r1, r2, r3, rest⟩
    · rw [r2] at z; cases z
    · rw [r2] at z; cases z; simp at r3
  · obtain ⟨bm, ob, b1, b2, b3, b4, b5, b6⟩ := hbm
    refine ⟨bm, ob, b1, b2, fun q => ?_, fun q => ?_, hidT_get b3 (no b3 (fun vs n z => ?_) fun z => ?_), b4, b5, b6⟩
    · rw [q, ge] at b3; cases b3; rw [gd] at b6; cases b6
    · rw [q, hT] at b3; cases b3; cases b6
    · rw [b6] at z; cases z
    · rw [b6] at z; cases z
  · rw [z, hT] at ge; cases ge; cases gd
theorem spec_callT {vals : List Value} {ds : List WData} {R : PySem.W.WRecords} {cl : Str → Option Addr} {d0 : WData}
    (KX : K.In s.heap) (hns : s.heap.Ns mainGlobals mg) (hb : s.heap.Ns builtinsNs mb) (hbb : ∀ x : Str, x ≠ "__name__" → mb x = bootBuiltins x) (hlim : s.heap.NoLimit) (hg : s.gens = #[])
    (hT : ∀ p ∈ cs, s.heap.get? p.2 = some { cls := .none, data := .fields #[] }) (nT : ∀ p ∈ cs, K.lookup p.2 = none) (C : ∀ p ∈ cs, PySem.W.CodeHd s.heap p.1 p.2)
    (hbm : ∃ (bm : Addr) (ob : Obj), mg "__builtins__" = some (.ref bm) ∧ bm ≠ builtinsNs ∧ s.heap.get? bm = some ob ∧ ob.cls = .type "module" ∧ ob.dict = some builtinsNs ∧ ob.data = .plain)
    (hwl : WellAll w.params s.heap vals ds) (hpl : plWs ds = true) (hwt : ∀ d ∈ ds, d.weight ≤ 1048576) (hr : Room k callerA)
    (F : ∀ base : Heap, K.In base → base.Ns mainGlobals mg → (∀ p ∈ cs, TabB base mg p.1 p.2) → FnOk P w K mg base CX k fa fd ps sp)
    (hbind : ∀ (s : Shared) (us : List Value), us.length = ps.length → BindsTo s fd ⟨us, []⟩ (ps.zip us)) (hlen : ds.length = ps.length)
    (hsp : ∀ (H : Hp) (xs : List V), (∀ p ∈ cs, H p.2 = some (.tbl #[])) → DwAll K H xs ds → sp xs H (fun v H' => Dw K H' v d0) fun _ _ _ => False)
    (hCX : ∀ H e s', CX [] H s (fun _ _ _ => False) e s' → False) :
    codeAny (model P w) callerA (.call (.ref fa) ⟨vals, []⟩) (fun r s' => ∃ u as, r = .ok (.ret u) ∧ ReadsW R cl s'.heap u d0 as ∧ OldK s.heap s'.heap ∧ s'.os = s.os ∧ AllBare s'.gens) s := by
  obtain ⟨A, ho, ar⟩ := area_all ds vals hwl hpl hwt
  have isT : ∀ b, b ∈ cs.map (·.2) → s.heap.get? b = some { cls := .none, data := .fields #[] } := fun b hb => by
    obtain ⟨p, hp, rfl⟩ := List.mem_map.mp hb
    exact hT p hp
  have memT : ∀ p ∈ cs, p.2 ∈ cs.map (·.2) := fun p hp => List.mem_map.mpr ⟨p, hp, rfl⟩
  -- no table is an argument
  have apart : ∀ b, b ∈ cs.map (·.2) → argH K s.heap A b = none := fun b hb => by
    cases q : argH K s.heap A b with
    | none => rfl
    | some u =>
      have e := isT b hb
      obtain ⟨_, vs, _, _, ⟨e2, _⟩ | ⟨e2, _⟩⟩ := argH_is ar q <;> (rw [e2] at e; have z := congrArg Obj.data (Option.some.inj e); cases z)
  have up : Same (argH K s.heap A) (withT (cs.map (·.2)) (argH K s.heap A)) := fun b o q => by
    refine (withT_out fun hm => ?_).trans q
    rw [apart b hm] at q; cases q
  have hS := dwUps up (dw_all KX ar ds vals hwl hpl ho)
  have hV := vals_toV ho
  have hok0 : HOk P w (argH K s.heap A) s.heap := argH_ok ar
  have hok : HOk P w (withT (cs.map (·.2)) (argH K s.heap A)) s.heap := fun b u q => by
    by_cases hm : b ∈ cs.map (·.2)
    · rw [withT_in hm] at q
      cases q
      exact isT b hm
    · rw [withT_out hm] at q
      exact (hok0 b u q).stay (fun _ _ _ z => z) (fun d z => up _ _ z) fun d xs z => up _ _ z
  have only : OnlyT (cs.map (·.2)) (withT (cs.map (·.2)) (argH K s.heap A)) := fun b => by
    by_cases hm : b ∈ cs.map (·.2)
    · exact .inr (.inl hm)
    · rw [withT_out hm]
      rcases argH_only (K := K) ar b with z | z
      · exact .inl z
      · exact .inr (.inr z)
  have noK : ∀ b o, K.lookup b = some o → withT (cs.map (·.2)) (argH K s.heap A) b = none := fun b o e => by
    have hm : b ∉ cs.map (·.2) := fun z => by
      obtain ⟨p, hp, rfl⟩ := List.mem_map.mp z
      rw [nT p hp] at e; cases e
    rw [withT_out hm]
    cases q : argH K s.heap A b with
    | none => rfl
    | some u => rw [(argH_is ar q).1] at e; cases e
  have no : ∀ {b : Addr} {ob : Obj}, s.heap.get? b = some ob → (∀ vs n, ob.data ≠ .seq vs n) → ob.data ≠ .fields #[] → withT (cs.map (·.2)) (argH K s.heap A) b = none := fun {b ob} e h1 h2 => by
    have hm : b ∉ cs.map (·.2) := fun z => by
      rw [isT b z] at e; cases e; exact h2 rfl
    rw [withT_out hm]
    cases q : argH K s.heap A b with
    | none => rfl
    | some u =>
      obtain ⟨_, vs, _, _, ⟨e2, _⟩ | ⟨e2, _⟩⟩ := argH_is ar q <;> (rw [e2] at e; cases e; exact (h1 _ _ rfl).elim)
  have hH : ∀ p ∈ cs, withT (cs.map (·.2)) (argH K s.heap A) p.2 = some (.tbl #[]) := fun p hp => withT_in (memT p hp)
  generalize withT (cs.map (·.2)) (argH K s.heap A) = H at hS hok only noK no hH
  have hKb : K.In (hidT s.heap H) := fun b o e => hidT_get (KX b o e) (noK b o e)
  have gl : (hidT s.heap H).Ns mainGlobals mg := hide_ns no hns
  have md : L2.Mod K mg (hidT s.heap H) := ⟨hKb, gl, ⟨mb, hide_ns no hb, hbb⟩, let ⟨mc, h1, h2⟩ := hlim; ⟨mc, hide_ns no h1, h2⟩⟩
  have TB : ∀ p ∈ cs, TabB (hidT s.heap H) mg p.1 p.2 := fun p hp => hide_tab no hns (hT p hp) (C p hp) hbm
  have e0 : Env0 P w K mg (hidT s.heap H) callerA [] s H :=
    { frames := rfl, mod := md, bs := fun b o e => of_hidT e, bsz := Nat.le_of_eq (hidT_size _ _), funs := trivial, frf := fun b z => (nomatch (show b ∈ ([] : List Addr) from z)), hok := hok, bare := .of_eq hg }
  have hl : vals.length = ps.length := (wellAll_len hwl).trans hlen
  refine codeAny_mono ((F _ hKb gl TB).run callerA [] s H ⟨vals, []⟩ vals (vals.map toV) _ _ hr e0 (hbind s vals hl) hV (hsp H _ hH hS)) fun r s' x => ?_
  match r, x with
  | .error e, x => exact (hCX H e s' x).elim
  | .ok .next, x => exact False.elim x
  | .ok .brk, x => exact False.elim x
  | .ok .cont, x => exact False.elim x
  | .ok (.ret u), x =>
    obtain ⟨v, H', os, bare, un, hok', rel, q⟩ := x
    have kept : ∀ b o, b ∉ cs.map (·.2) → s.heap.get? b = some o → s'.heap.get? b = some o := fun b o hm e => by
      cases q2 : H b with
      | none => exact un.keep b o e q2 (fun z => (nomatch (show b ∈ ([] : List Addr) from z))) (by simp)
      | some u2 =>
        rcases only b with z | z | ⟨ob, u3, z⟩
        · rw [q2] at z; cases z
        · exact absurd z hm
        · obtain ⟨e1, _⟩ := hok b _ z
          obtain ⟨e2, _⟩ := hok' b _ (un.frzs b ob _ z)
          rw [e] at e1; cases e1
          exact e2
    have grown : ∀ p ∈ cs, ∃ more : Array Value, s'.heap.get? p.2 = some { cls := .none, data := .fields more } := fun p hp => by
      obtain ⟨more, z⟩ := un.tbls p.2 #[] (hH p hp)
      exact ⟨_, hok' p.2 _ z⟩
    have KX' : K.In s'.heap := fun b o e => kept b o (fun z => by
      obtain ⟨p, hp, rfl⟩ := List.mem_map.mp z
      rw [nT p hp] at e; cases e) (KX b o e)
    obtain ⟨as, hrd⟩ := Dw.reads (R := R) (cl := cl) hok' KX' d0 v u q rel
    refine ⟨u, as, rfl, hrd, ⟨fun b o e => ?_, fun b o e => ?_⟩, os, bare⟩
    · by_cases hm : b ∈ cs.map (·.2)
      · obtain ⟨p, hp, rfl⟩ := List.mem_map.mp hm
        obtain ⟨more, hmore⟩ := grown p hp
        rw [hT p hp] at e
        cases e
        exact .inr (.inl ⟨((C p hp).tab (hT p hp)).isCodeTable, rfl, #[], more, rfl, by rw [Array.empty_append]; exact hmore⟩)
      · exact .inl (kept b o hm e)
    · by_cases hm : b ∈ cs.map (·.2)
      · obtain ⟨p, hp, rfl⟩ := List.mem_map.mp hm
        obtain ⟨more, hmore⟩ := grown p hp
        exact ⟨_, hmore⟩
      · exact ⟨o, kept b o hm e⟩
end
/-- what is to be known of the row's def at the head's heap h: the tables of the code objects that it may grow, its promise -/
def SpecAt (r : OpenSpec) (w : World) (K : PySem.W.Frag) (CX : CXT) (k : Nat) (ps : List Str) (mg : Str → Option Value) (h : Heap) (fa : Addr) : Prop :=
  ∃ (fd : FuncData) (cs : List (Addr × Addr)) (sp : Sp), (∀ p ∈ cs, PySem.W.CodeHd h p.1 p.2 ∧ h.get? p.2 = some (PySem.W.tabObj #[])) ∧ (∀ p ∈ cs, K.lookup p.2 = none) ∧
    (∀ (s : Shared) (us : List Value), us.length = ps.length → BindsTo s fd ⟨us, []⟩ (ps.zip us)) ∧
    (∀ base : Heap, K.In base → base.Ns mainGlobals mg → (∀ p ∈ cs, TabB base mg p.1 p.2) → FnOk r.prog w K mg base CX k fa fd ps sp) ∧
    ∀ (H : Hp) (xs : List V) (a : Codec.denoteAll r.args), (∀ p ∈ cs, H p.2 = some (.tbl #[])) → Codec.withinAll r.args a = true → Codec.app r.args r.asked a = true → DwAll K H xs (Codec.encAll r.args a) →
      sp xs H (fun v H' => Dw K H' v (r.ret.enc (Codec.app r.args r.f a))) fun _ _ _ => False
theorem walk_specT {r : OpenSpec} {k : Nat} {q : Program} {loose : List Str} {XP : (Str → Option Value) → Heap → Prop} {YP : World → Heap → Prop} {d : DefRec} {K : Params → PySem.W.Frag} {CX : CXT} {ps : List Str}
    (hwell : r.wellSaid = true) (hlen : r.args.length = ps.length) (hr : Room k callerA) (hY : ∀ (w : World) (h : Heap), YP w h → (K w.params).In h)
    (F : ∀ (w : World) (mg mb : Str → Option Value) (mean : ExcName → Option Value) (fa : Addr) (h : Heap), (K w.params).In h → Top q (PySem.W.looseW q loose) mean mg mb h → mg d.name = some (.ref fa) → SpecAt r w (K w.params) CX k ps mg h fa)
    (hCX : ∀ (H : Hp) (s : Shared) (e : Value) (s' : Shared), CX [] H s (fun _ _ _ => False) e s' → False) :
    PySem.W.WalkOS q loose XP YP r d [] (fun f vs => PySem.call f vs) := by
  intro w s₀ s₁ mg mb G Y fa o pm cd doc dV kV ho hd hcd hD hmg hg args vals as hpre hlay hrd hwl hlo
  obtain ⟨a, e1, e2⟩ := PySem.W.os_pre_some hpre
  obtain ⟨rfl, hwi⟩ := Codec.encAll_of_decAll r.args args a e1
  have KX := hY w _ Y
  obtain ⟨fd, cs, sp, TT, nT, hb, hF, hsp⟩ := F w mg mb _ fa _ KX G.T hmg
  have run := spec_callT (R := []) (cl := classAt s₀.heap) (d0 := r.ret.enc (Codec.app r.args r.f a)) KX G.T.g G.T.b G.T.builtins G.T.nolimit hg (fun p hp => (TT p hp).2) nT (fun p hp => (TT p hp).1) G.T.bmain hwl (pl_encAll _ _)
    (layable_weight hlay) hr hF hb ((encAll_len _ _).trans hlen) (fun H xs hO hS => hsp H xs a hO hwi e2 hS) fun H e s' => hCX H s₁ e s'
  refine PySem.W.enter_call (codeAny_mono run fun r' s' hq => ?_)
  obtain ⟨u, as', rfl, h1, h2, h3, h4⟩ := hq
  exact ⟨.inl ⟨u, _, as', rfl, fun _ => rfl, h1, (OpenSpec.post_iff hwell hwi _ _).mpr rfl, fun z => Bool.noConfusion (show false = true from z)⟩, h2, h3, h4⟩
/-- the table of a def of the top, from what is written of it -/
theorem tab_at {q : Program} {loose : List Str} {mean : ExcName → Option Value} {mg mb : Str → Option Value} {h : Heap} {K : PySem.W.Frag} {d : DefRec} {x : Str} {f c T : Addr} {oc oc2 : Value} {od od2 : Option Addr} {fd : FuncData} {osl sl2 : Array (Option Value)} {vs : Array Value}
    (TP : Top q loose mean mg mb h) (X : K.In h) (hd : (recsOf q).find? (fun e => e.name == x) = some d) (a : PySem.W.nsIn K mainGlobals x = some (some (.ref f))) (l : K.lookup f = some ⟨oc, od, .func fd, osl⟩) (hc : fd.code = .ref c)
    (lc : K.lookup c = some ⟨oc2, od2, .fields vs, sl2⟩) (hv : vs[11]? = some (.ref T)) : PySem.W.CodeHd h c T ∧ h.get? T = some (PySem.W.tabObj #[]) := by
  refine PySem.W.tab_of TP X hd ?_
  unfold PySem.W.tabIn
  simp only [a, l, hc, lc, hv]
end NAx
/-! Errors of own classes above Exception, each with an __init__ that calls its base's. -/
namespace PySem.NAo
open PySem.W PySem.Calls PyProof.Rows PySem.HandSPX
open Builtin Builtin.ObjectAttr
abbrev exTl : List Value := [.type "Exception", .type "BaseException", .type "object"]
/-- own classes, then Exception and what is above it -/
def Abv (l : List Value) : Prop := ∃ cs : List Addr, l = cs.map Value.ref ++ exTl
theorem Abv.more {l : List Value} (C : Addr) (h : Abv l) : Abv (.ref C :: l) := by
  obtain ⟨cs, rfl⟩ := h
  exact ⟨C :: cs, rfl⟩
theorem Abv.has {l : List Value} (h : Abv l) (T : String) : l.contains (.type T) = exTl.contains (.type T) := by
  obtain ⟨cs, rfl⟩ := h
  induction cs with
  | nil => rfl
  | cons c cs ih => rw [List.map_cons, List.cons_append, List.contains_cons, ih]; rfl
theorem Abv.passes {l : List Value} (h : Abv l) (self : Value) : refuseLoop self "__setattr__" l = pure () := by
  obtain ⟨cs, rfl⟩ := h
  induction cs with
  | nil => exact F.store_Exception.passes self
  | cons c cs ih => rw [List.map_cons, List.cons_append, refuseLoop_ref]; exact ih
theorem Abv.some {l : List Value} (h : Abv l) : l.isEmpty = false := by
  obtain ⟨cs, rfl⟩ := h
  cases cs <;> rfl
section
variable {prog : Program} {w : World} {A : Around} {R : Result → Shared → Prop} {hp : Heap} {g : Array GenState} {d : Drawn} {t : Nat} {os : OsState}
/-- x.name = v where x, an exception, has no dict yet -/
theorem first_store {K : W.Frag} {name : Str} {tk : Tok} {v : Value} {x C : Addr} {fv : Array Value} {cd : ClassData} (X : K.In hp) (hx : hp.get? x = Option.some { cls := .ref C, data := .fields fv })
    (hcd : W.clsIn K C = Option.some cd) (hm : Abv cd.mro) (hh : cd.hasDict = true) (ha : W.findIn K (.ref C) name = Option.some Option.none)
    (hq : ∀ h' tk' dx, (∀ b o, b ≠ x → hp.get? b = Option.some o → h'.get? b = Option.some o) → hp.objs.size ≤ dx → dx ≠ x → h'.get? x = Option.some { cls := .ref C, dict := Option.some dx, data := .fields fv } →
      h'.Ns1 dx (fun y => if y = name then Option.some v else Option.none) → R (.ok (.ret .none)) ⟨h', g, d, tk', os⟩) :
    codeAny (model prog w) A (.call (.builtin "object.__setattr__") ⟨[.ref x, .str name tk, v], []⟩) R ⟨hp, g, d, t, os⟩ := by
  have far : x ≠ hp.objs.size := Nat.ne_of_lt (Heap.lt_size hx)
  have IA : W.InstAt hp x { cls := .ref C, data := .fields fv } C Option.none := ⟨hx, rfl, rfl, trivial⟩
  have atC : W.Looks (model prog w) hp (classData C) cd := W.looks_clsIn X hcd
  have up : W.mroIn K C (.type "object") = Option.some true := by
    unfold W.mroIn
    rw [hcd, Option.bind_some, if_neg (by rw [hm.some]; exact Bool.false_ne_true), hm.has]
    decide +kernel
  have S0 := F.store_object
  have isO : W.Looks (model prog w) hp (isInstance (.ref x) (.type "object")) true := IA.type.andThen (W.looks_mroIn X up)
  have chain : W.Looks (model prog w) hp (mroOf (.ref C)) cd.mro := atC.andThen .now
  have taker : W.Looks (model prog w) hp (storeTaker? Option.none) Option.none := .now
  refine codeAny_call_builtin S0.slot.plain S0.entry ?_
  refine @W.check_slot (model prog w) _ _ ⟨hp, g, d, t, os⟩ "object.__setattr__" "object" "__setattr__" (.ref x) [.str name tk, v] [] _ S0.kind S0.split isO (S0.args (.ref x) (.str name tk) v) ?_
  rw [W.osa_eq, refuse_eq]
  refine wpAny_bind (wpAny_bind (IA.type.at (wpAny_bind (chain.at ?_))))
  rw [hm.passes]
  refine wpAny_pure (wpAny_bind (IA.type.at (wpAny_bind ((W.looks_findIn X ha).at (wpAny_bind (taker.at ?_))))))
  obtain ⟨nm, bs, mro, ns, qn, hd, sn, sb, ab, col, del⟩ := cd
  have hh' : hd = true := hh
  subst hh'
  show wpAny _ _ (storeInOwnDict (.ref x) (.ref C) (.str name tk) name v false) _ _ _
  unfold storeInOwnDict ownDictForStores
  repeat (first | with_reducible refine store_in_new ?_ ?_ | with_reducible refine wpAny_loadPart_at hx ?_ | with_reducible refine atC.at ?_ | wp_step)
  · refine ⟨_, #[], _, (Heap.get?_update_ne _ _ _ _ far.symm).trans (Heap.get?_push_at rfl rfl), rfl, ?_, fun _ => rfl⟩
    intro e he
    exact absurd he (by simp)
  · intro h' tk' hn' same
    have old : (hp.push { cls := .type "dict", data := .dict #[] }).get? x = Option.some { cls := .ref C, data := .fields fv } := Heap.get?_push_of_some _ hx
    refine hq h' tk' hp.objs.size (fun b o hb ho => ?_) (Nat.le_refl _) far.symm ?_ hn'
    · rw [same.2 b (Nat.ne_of_lt (Heap.lt_size ho)), Heap.get?_update_ne _ _ _ _ hb]
      exact Heap.get?_push_of_some _ ho
    · rw [same.2 x far]
      exact Heap.get?_update_self _ old rfl
end
end PySem.NAo

namespace NAx
open PySem PySem.Spec PyProof.Rows L2
/-- what the written part says of an own error's class -/
structure OxC (K : PySem.W.Frag) (C : Addr) : Prop where
  cls : ∃ nm q N bs bm sn sub ab col dd k0 k1 k2 k3 k5, K.lookup C = some (excClassObj nm q C N bs bm true sn sub ab col dd k0 k1 k2 k3 k5 "Exception.__new__") ∧ PySem.NAo.Abv bm
  sa : PySem.W.findIn K (.ref C) "__setattr__" = some (some (.builtin "object.__setattr__"))
  exC : PySem.W.subIn K (.ref C) (.type "BaseException") = some true
  tyC : PySem.W.typeIn K (.ref C) = some (.type "type")
  kC : PySem.W.keepIn K (.ref C) = true
theorem OxC.cd {K : PySem.W.Frag} {C : Addr} (T : OxC K C) : ∃ cd, PySem.W.clsIn K C = some cd ∧ PySem.NAo.Abv cd.mro ∧ cd.hasDict = true := by
  obtain ⟨nm, q, N, bs, bm, sn, sub, ab, col, dd, k0, k1, k2, k3, k5, hC, hbm⟩ := T.cls
  refine ⟨{ name := nm, bases := bs, mro := .ref C :: bm, ns := N, qualname := q, hasDict := true, slotNames := sn, subclasses := sub, abstract := ab, collection := col, hasDel := false }, ?_, hbm.more C, rfl⟩
  unfold PySem.W.clsIn
  rw [hC] <;> rfl
/-- self.f = e in an __init__: the error has no dict as yet -/
def tOxst (K : PySem.W.Frag) (f : Str) (to te : TE) : TS := fun D σ H => te σ H fun y H1 => to σ H1 fun x H2 => ∃ a C : Addr, x = .ref a ∧ OxC K C ∧ PySem.W.findIn K (.ref C) f = some none ∧ H2 a = some (exo a C none) ∧
  ∀ dx, H2 dx = none → dx ≠ a → D.nx σ (upd (upd H2 dx (exd dx [(f, y)])) a (exo a C (some dx)))
section
variable {X : Cx}
theorem ox_store {pins : List (Addr × Obj)} {σ : L2.St} {H : Hp} {s : Shared} {a C : Addr} {f : Str} {y : V} {u : Value} {Q : Unit → Shared → Prop} {E : Value → Shared → Prop} {A : Around}
    (T : OxC X.K C) (I : Inv X pins σ H s) (e : H a = some (exo a C none)) (hno : PySem.W.findIn X.K (.ref C) f = some none) (ry : RelV y u)
    (h : ∀ dx s', H dx = none → dx ≠ a → Inv X pins σ (upd (upd H dx (exd dx [(f, y)])) a (exo a C (some dx))) s' → Q () s') : wpAny (model X.prog X.w) A (setAttr (.ref a) f u) Q E s := by
  obtain ⟨cd, hcl, hm, hh⟩ := T.cd
  obtain ⟨t1, ho⟩ := exo_at I.hok e
  obtain ⟨hp, g, d, t, os⟩ := s
  refine PySem.W.set_plain (od := none) I.kIn ⟨ho, rfl, rfl, trivial⟩ T.sa ?_
  refine PySem.NAo.first_store I.kIn ho hcl hm hh hno fun h' tk' dx k dn dne hx hn => ?_
  have hnd : H dx = none := I.hok.fresh dn
  have notD : ∀ {b : Addr} {o : Obj}, hp.get? b = some o → b ≠ dx := fun {b o} q z => Nat.lt_irrefl _ (Nat.lt_of_lt_of_le (Heap.lt_size (z ▸ q)) dn)
  have notA : ∀ {b : Addr}, H b = none → b ≠ a := fun {b} n z => by
    rw [z, e] at n
    cases n
  have same : ∀ {b : Addr} {o : HO}, H b = some o → exo a C none ≠ o → upd (upd H dx (exd dx [(f, y)])) a (exo a C (some dx)) b = some o := fun {b o} q z => by
    rw [upd_ne (at_ne e q z), upd_ne (ne_of_none q hnd)]
    exact q
  have U : Un X.fs [] H (upd (upd H dx (exd dx [(f, y)])) a (exo a C (some dx))) hp h' :=
    { keep := fun b o q n _ _ => k b o (notA n) q
      slot := fun b o q n _ _ => ⟨o.slots, k b o (notA n) q⟩
      free := fun b o q n _ => by
        rw [upd_ne (notA n), upd_ne (notD q)]
        exact n
      there := fun b o q _ => by
        by_cases hb : b = a
        · exact ⟨_, hb ▸ hx⟩
        · exact ⟨o, k b o hb q⟩
      tups := fun b xs q => same q exo_tup
      frzs := fun b o v q => same q exo_frz
      tbls := fun b ps q => ⟨#[], by rw [same q exo_tbl]; simp⟩ }
  refine h dx _ hnd dne (I.un (t' := tk') U fun b o q => ?_)
  by_cases hb : b = a
  · subst hb
    rw [upd_same] at q
    cases q
    exact exo_ok hx
  · rw [upd_ne hb] at q
    by_cases hd : b = dx
    · subst hd
      rw [upd_same] at q
      cases q
      exact exd_ok hn (relO_put (fs := []) ry fun g => True.intro)
    · rw [upd_ne hd] at q
      refine (I.hok b o q).stay (fun c v hc z => k c v (fun za => ?_) z) (fun c hc => same hc exo_own) fun c xs hc => same hc exo_tup
      rcases hc with hc | hc
      · exact hb (hc.symm.trans za)
      · rw [za, e] at hc
        exact exo_own (Option.some.inj hc)
theorem ps_oxst {o e : Expr} {to te : TE} {f : Str} {p' pos : Pos} (ho : PE X o to) (he : PE X e te) (hs : swapsWith e (some (.Attribute o f p')) pos.line X.env = pure false := by rfl) : PS X (.Assign [.Attribute o f p'] e pos) (tOxst X.K f to te) := by
  refine ⟨fun pins s σ H D I h => ?_⟩
  refine plainObj_wpAny_Assign_Attribute (thn (he.run pins s σ H _ I h) fun v s1 ⟨y, H1, I1, r1, q1⟩ => ?_) hs
  refine thn (ho.run pins s1 σ H1 _ I1 q1) fun u s2 ⟨x, H2, I2, r2, a, C, ex, T, hno, ea, q⟩ => ?_
  subst ex
  obtain rfl : u = Value.ref a := r2
  exact ox_store T I2 ea hno r1 fun dx s' n ne J => ⟨σ, _, J, q dx n ne⟩
/-- B.m(e, ..), B an own class, m a def of it -/
theorem pe_clsfn {CX : CXT} {k : Nat} {C f : Addr} {fd : FuncData} {ps : List Str} {sp : Sp} {E : XK} {x m : Str} {p1 p2 pos : Pos} {e : Expr} {es : List Expr} {t : TA} {mc : Value} {pl : Sem Bool}
    (hg : Gl X x) (hm : X.mg x = some (.ref C)) (rd : PySem.W.readsIn X.K C mc = true) (ga : PySem.W.specialIn X.K (.ref C) "__getattribute__" = some (some (.builtin "type.__getattribute__")))
    (fc : PySem.W.findCls X.K (.ref C) mc m = some (.val (.ref f))) (kf : PySem.W.keepIn X.K (.ref f) = true)
    (F : FnOk X.prog X.w X.K X.mg X.base CX k f fd ps sp) (hr : Room k X.A) (hb : Binds X.K fd ps []) (hx : Passes CX X E) (ha : PA X (e :: es) t)
    (hdb : (x == ("__debug__" : Str)) = false := by decide)
    (hc : eval (.Call (.Attribute (.Name x p1) m p2) (e :: es) [] pos) X.env = (do
      let ov ← eval (.Name x p1) X.env
      standAt p2.atName
      let (f, first) ← holding [ov] (getMethod ov m pl)
      callWith pos f first (backTo pos (starEach (e :: es) X.env)) (backToKw pos (keywordEach [] X.env))) := by rfl)
    (he : starEach (e :: es) X.env = (false, eval e X.env) :: starEach es X.env := by rfl) (hpl : (backTo pos (starEach es X.env)).any (·.1) = false := by rfl) :
    PE X (.Call (.Attribute (.Name x p1) m p2) (e :: es) [] pos) (tCall sp [] E t) := by
  refine ⟨fun pins s σ H Q I h => ?_⟩
  refine PySem.W.methodCall_KW (ld_glob I hg hm ?_ hdb) hc
  refine PySem.W.method_cls I.kIn ga (PySem.W.cls_value I.kIn rd fc rfl ?_)
  refine PySem.W.callWith_K (h₀ := X.base) I.ok.mod.kin kf (thn (ha.run pos pins _ σ H _ (I.tok _) h) fun us s1 ⟨vs, H1, I1, r1, q1⟩ => ⟨I1.kIn, ?_⟩) he hpl
  exact run_fn F hr hb .nil hx I1 r1 q1
/-- C(), C's own __init__ keeping sp -/
def tMkX (C : Addr) (sp : Sp) : L2.St → Hp → XK → Prop := fun _ H Q => ∀ a, H a = none → sp [.ref a] (upd H a (exo a C none))
  (fun v H2 => v = .non ∧ ∃ (d : Addr) (fs : List (Str × V)), H2 a = some (exo a C (some d)) ∧ H2 d = some (exd d fs) ∧ H d = none ∧ Q (.ref C) (some d) (upd (del H2 a) d (.xd fs))) (fun _ _ _ => False)
theorem pmk_ox {CX : CXT} {x : Str} {C fI : Addr} {k : Nat} {fd : FuncData} {ps : List Str} {sp : Sp} {p pos : Pos} (T : OxC X.K C) (iC : PySem.W.findIn X.K (.ref C) "__init__" = some (some (.ref fI))) (tI : PySem.W.typeIn X.K (.ref fI) = some (.type "function"))
    (F1 : FnOk X.prog X.w X.K X.mg X.base CX k fI fd ps sp) (hr : Room (k + 1) X.A) (hb : Binds X.K fd ps []) (hx : Passes CX X (fun _ _ _ => False)) (hg : Gl X x) (hm : X.mg x = some (.ref C)) (hdb : (x == ("__debug__" : Str)) = false := by decide) :
    PMk X (.Call (.Name x p) [] [] pos) (tMkX C sp) := by
  intro pins s σ H Q I h
  obtain ⟨nm, q, N, bs, bm, sn, sub, ab, col, dd, k0, k1, k2, k3, k5, hC, hbm⟩ := T.cls
  refine wpAny_Call_Name_kw (ld_glob I hg hm ?_ hdb)
  refine PySem.W.callWith_K0 I.kIn T.kC ?_
  obtain ⟨hp, g, dr, tk, os⟩ := s
  have big : hp.objs.size ≤ hp.objs.size + 1 := Nat.le_succ _
  have new : H (hp.objs.size + 1) = none := I.hok.fresh big
  have sp1 := h (hp.objs.size + 1) new
  have kk : ∀ b o, hp.get? b = some o → ((hp.push (PySem.W.kdv_tup [])).push (PySem.HandSPX.excO C hp.objs.size)).get? b = some o := fun b o e => Heap.get?_push_of_some _ (Heap.get?_push_of_some _ e)
  have there : ((hp.push (PySem.W.kdv_tup [])).push (PySem.HandSPX.excO C hp.objs.size)).get? (hp.objs.size + 1) = some (PySem.HandSPX.excO C hp.objs.size) := by heap_get
  have I2 := I.laid (t' := tk) (a := hp.objs.size + 1) (o := exo (hp.objs.size + 1) C none) kk big (exo_ok there)
  have r2 : Vals [V.ref (hp.objs.size + 1)] [Value.ref (hp.objs.size + 1)] := .cons rfl .nil
  have hl : [Value.ref (hp.objs.size + 1)].length = ps.length := F1.len _ _ _ _ sp1
  have run := F1.run _ X.stack _ _ ⟨[Value.ref (hp.objs.size + 1)], []⟩ [Value.ref (hp.objs.size + 1)] _ _ (fun _ _ _ => False) (hr.make C [] []) (I2.env0.make C [] []) (hb _ [Value.ref (hp.objs.size + 1)] I2.kIn hl) r2 sp1
  refine wpAny_call (PySem.HandSPX.call_own F.excBase_Exception (fun Y => hbm.has Y) (I.kIn _ _ hC) (PySem.W.looks_findIn I.kIn iC) (fun self => PySem.W.bind_fn I.kIn self tI) (by show 0 ≤ sizeLine; exact Nat.zero_le _) (codeAny_mono run fun r s' hq => ?_))
  match r, hq with
  | .error er, hq => exact hx pins σ _ _ er s' I2 hq
  | .ok .next, hq => exact False.elim hq
  | .ok .brk, hq => exact False.elim hq
  | .ok .cont, hq => exact False.elim hq
  | .ok (.ret u), hq =>
    obtain ⟨v, H2, os2, bare2, un2, hok2, rv, ev, d, fs, ea, ed, hd1, q2⟩ := hq
    subst ev
    obtain ⟨h2, g2, d2, t2, os'⟩ := s'
    exact ⟨rv, mk_end (raises_own T.exC T.tyC) I big kk un2 hok2 os2 bare2 ea ed hd1 q2⟩
/-- err.f in an except suite, whatever own class err is of -/
def tXfA (K : PySem.W.Frag) (a : Addr) (cls : Value) (d : Option Addr) (f : Str) (te : TE) : TE := fun σ H Q => te σ H fun x H1 => x = .ref a ∧ ∃ C, cls = .ref C ∧ XfC K C ∧ PySem.W.findIn K (.ref C) f = some none ∧
  ∃ (dd : Addr) (fs : List (Str × V)) (v : V), d = some dd ∧ H1 dd = some (.xd fs) ∧ fs.lookup f = some v ∧ Q v H1
theorem pe_xfA {a : Addr} {oe : Obj} {cls : Value} {d : Option Addr} {pn : List (Addr × Obj)} {e : Expr} {te : TE} {pos : Pos} {n : Str}
    (hz : Zc cls d oe) (hf : ∃ vs, oe.data = .fields vs) (he : PE (X.suite a ((a, oe) :: pn)) e te) (hb : attributeBase e n X.env (eval e X.env) = eval e X.env := by rfl) :
    PE (X.suite a ((a, oe) :: pn)) (.Attribute e n pos) (tXfA X.K a cls d n te) := by
  refine ⟨fun pins s σ H Q I h => ?_⟩
  refine attr_of hb (thn (he.run pins s σ H _ I h) fun u s1 hh => ?_)
  obtain ⟨x, H1, I1, rx, rfl, C, rfl, T, hno, dd, fs, v, rfl, ea, l, q⟩ := hh
  obtain rfl : u = Value.ref a := rx
  obtain ⟨vs, hd⟩ := hf
  obtain ⟨ha, _⟩ := I1.pin (a, oe) (List.mem_append_left _ List.mem_cons_self)
  obtain ⟨mA, hns, hr⟩ := (show ObjOk X.prog X.w H1 s1.heap dd (.xd fs) from I1.hok dd _ ea)
  obtain ⟨od, ho, hl⟩ := lookIn_ns hns
  obtain ⟨u, hu, ru⟩ := RelO.some_of (v := v) (o := mA n) (by rw [← l]; exact hr n)
  have at_ : PySem.W.InstAt s1.heap a oe C (some od) := ⟨ha, hz.1, by unfold PySem.W.notCls; rw [hd] <;> rfl, by rw [hz.2]; exact ho⟩
  exact HandSPX.exc_get I1.kIn at_ T.ga T.gg T.exC (PySem.W.findObj_own T.hdC hno rfl (by rw [hl, hu])) (handed_of ru) ⟨v, H1, I1.tok _, ru, q⟩
end
end NAx
namespace NAx
open PySem PySem.Spec PyProof.Rows L2
/-- max(ns, default=d) -/
def maxOr (d : Int) : List Int → Int
  | [] => d
  | n :: r => r.foldl max n
theorem reads_ints (h : Heap) : ∀ {ns : List Int} {its : List Value}, Vals (ns.map V.int) its → ReadsAll h its (ns.map PyData.int) []
  | [], _, .nil => .nil
  | n :: ns, _, .cons hv r => by
    obtain ⟨t, rfl⟩ := hv
    exact .cons (as := []) (.int n t) (reads_ints h r)
theorem depth_ints : ∀ ns : List Int, PyData.depthAll (ns.map PyData.int) = 0
  | [] => rfl
  | n :: ns => by
    show max (PyData.depth (.int n)) (PyData.depthAll (ns.map PyData.int)) = 0
    rw [depth_ints ns]
    rfl
theorem alike_ints (ns : List Int) : PySem.W.AlikeAll (ns.map PyData.int) := by
  refine ⟨fun x hx y hy => ?_, fun x hx => ?_⟩
  · obtain ⟨a, _, rfl⟩ := List.mem_map.mp hx
    obtain ⟨b, _, rfl⟩ := List.mem_map.mp hy
    rfl
  · obtain ⟨a, _, rfl⟩ := List.mem_map.mp hx
    intro z
    cases z
section
variable {X : Cx}
def rMaxD (K : PySem.W.Frag) : List V → List V → Hp → VK → Prop := fun xs zs H Q => ∃ (a : Addr) (ns : List Int) (d : Int), xs = [V.ref a] ∧ zs = [V.int d] ∧ SqL K H a (ns.map V.int) ∧ Q (.int (maxOr d ns)) H
theorem crk_max (hc : X.calm = true) (hu : X.A.units + 1 < cLine) : CallRK X (.builtin "max") ["default"] (rMaxD X.K) := by
  intro pins s σ H xs zs us ws Q I r r2 h
  obtain ⟨a, ns, d, rfl, rfl, hs, q⟩ := h
  obtain ⟨its, rv, hl, _⟩ := I.list hs
  rw [Vals.ref1 r]
  cases r2 with
  | cons rd rn =>
    cases rn
    obtain ⟨td, rfl⟩ := rd
    refine PySem.W.max_list_default (I.ok.hd hc) hl.isList (reads_ints s.heap rv) (alike_ints ns) (by rw [depth_ints]; exact hu) (fun e h' tk hk => ?_) (fun y ys i v h' tk bs e hv hr hk => ?_)
    · have e0 : ns = [] := List.map_eq_nil_iff.mp e
      subst e0
      exact ⟨.int d, H, I.kept hk, ⟨_, rfl⟩, q⟩
    · cases ns with
      | nil => cases e
      | cons n ns =>
        rw [List.map_cons] at e
        obtain ⟨rfl, rfl⟩ := List.cons.inj e
        rw [PySem.W.maxD_ints] at hr
        cases hr with
        | int i t => exact ⟨.int _, H, I.kept hk, ⟨_, rfl⟩, q⟩
end
end NAx
/-! A lambda with parameters that is handed to a def, which calls it, also deeper within itself: it is laid into the base that the def is held over. -/
namespace NAl
open PySem PySem.Spec PyProof.Rows L2 LamX NdefX
/-- all that stands untracked now, the running frames apart -/
def baseOf (X : Cx) (H : Hp) (s : Shared) : Heap := PySem.W.hideAll s.heap (trk s.heap H ++ frs X.stack)
theorem frames_base {h b1 b2 : Heap} : ∀ {l : List Env}, h.FunFrames b1 l → (∀ L ∈ frs l, b2.get? L = none) → h.FunFrames b2 l
  | [], _, _ => True.intro
  | env :: rest, ⟨hk, ⟨L, o, hf, hn, ho, hd⟩, hr⟩, k => by
    have e : frs (env :: rest) = L :: frs rest := by
      unfold frs
      rw [List.filterMap_cons, hf]
    rw [e] at k
    exact ⟨hk, ⟨L, o, hf, k L (List.mem_cons_self ..), ho, hd⟩, frames_base hr fun M hM => k M (List.mem_cons_of_mem _ hM)⟩
section
variable {X : Cx} {pins : List (Addr × Obj)} {σ : L2.St} {H : Hp} {s : Shared} {b : Addr} {o : Obj}
theorem base_get (e : s.heap.get? b = some o) (n : H b = none) (nf : b ∉ frs X.stack) : (baseOf X H s).get? b = some o := PySem.W.hideAll_get _ e fun hm => by
  rcases List.mem_append.mp hm with hm | hm
  · have q : (H b).isSome = true := (List.mem_filter.mp hm).2
    rw [n] at q
    simp at q
  · exact nf hm
theorem of_base (e : (baseOf X H s).get? b = some o) : s.heap.get? b = some o ∧ H b = none := by
  have e' : s.heap.get? b = some o := PySem.W.of_hideAll _ e
  refine ⟨e', ?_⟩
  cases q : H b with
  | none => rfl
  | some x =>
    have hm : b ∈ trk s.heap H ++ frs X.stack := List.mem_append.mpr (.inl (List.mem_filter.mpr ⟨List.mem_range.mpr (Heap.lt_size e'), by simp [q]⟩))
    have z : (baseOf X H s).get? b = none := PySem.W.hideAll_none _ hm
    rw [z] at e
    cases e
theorem base_sub (I : Inv X pins σ H s) : ∀ b o, X.base.get? b = some o → (baseOf X H s).get? b = some o := fun b o e =>
  base_get (I.bk b o e) (I.bs b o e).2 fun z => by
    rw [(I.stack.mem z).1] at e
    cases e
theorem base_env0 (I : Inv X pins σ H s) : Env0 X.prog X.w X.K X.mg (baseOf X H s) X.A X.stack s H where
  frames := I.env0.frames
  mod := ⟨fun b o e => base_sub I b o (I.mod.kin b o e), I.mod.glob.keeps (base_sub I), let ⟨mb, h1, h2⟩ := I.mod.blt; ⟨mb, h1.keeps (base_sub I), h2⟩, I.mod.nolimit.keeps (base_sub I)⟩
  bs := fun b o e => of_base e
  bsz := Nat.le_of_eq (PySem.W.hideAll_size _ _)
  funs := frames_base I.stack fun L hL => PySem.W.hideAll_none _ (List.mem_append.mpr (.inr hL))
  frf := I.stkFree
  hok := I.hok
  bare := I.bare
/-- the cells that the running def has made are in it -/
theorem cells_base {cl : List (Str × Addr)} {fr : List Str} {js : List Nat} (I : Inv X pins σ H s) (hfn : ∀ x, X.fn x = true) (c : Caps X cl fr js) : CellsAt cl fr (js.map (slotAt σ)) (baseOf X H s) (fun _ => none) := by
  have C := cells_of I c
  have kp : ∀ y a v, cl.lookup y = some a → s.heap.IsCell a v → (baseOf X H s).IsCell a v := fun y a v e ⟨o, ho, hd⟩ => by
    refine ⟨o, base_get ho (C.all y a e).1 fun z => ?_, hd⟩
    rcases List.mem_cons.mp (I.stkSub a z) with q | q
    · obtain ⟨m, ⟨ob, es, ep, e1, d1, _⟩, _⟩ := I.loc
      rw [q] at ho
      rw [ho] at e1
      cases e1
      rw [hd] at d1
      cases d1
    · obtain ⟨_, o1, e1, _⟩ := I.ok.funs.mem q
      exact Nat.lt_irrefl _ (Nat.lt_of_lt_of_le (Heap.lt_size e1) (I.ok.cab y a (hfn y) (c.sub y a e)))
  refine ⟨C.len, fun y a e => ⟨rfl, ?_⟩, C.inj, fun i y e => ?_⟩
  · obtain ⟨_, v, z⟩ := C.all y a e
    exact ⟨v, kp y a v e z⟩
  · obtain ⟨a, ha, hv⟩ := C.has i y e
    refine ⟨a, ha, fun v ev => ?_⟩
    obtain ⟨u, r, z⟩ := hv v ev
    exact ⟨u, r, kp y a _ ha z⟩
end
/-- the promise of the lambda at f, whose code object is at c' -/
structure LamOk (P : Program) (w : World) (K : PySem.W.Frag) (mg : Str → Option Value) (base : Heap) (CX : CXT) (k : Nat) (f c' : Addr) (q : Str) (ps : List Str) (sp : Sp) : Prop where
  len : ∀ vs H Q E, sp vs H Q E → vs.length = ps.length
  at_ : PySem.W.FnAt f base
  run : ∀ (A : Around) (outer : List Env) (s : Shared) (H : Hp) (us : List Value) (vs : List V) (Q : VK) (E : XK), Room k A → Env0 P w K mg base A outer s H → H c' = some (CodeO c' q) → Vals vs us → sp vs H Q E →
    codeAny (model P w) A (.call (.ref f) ⟨us, []⟩) (CR CX outer P w H s Q E) s
abbrev lamF (q : Str) (params : Arguments) (scope : Scope) (cl : List (Str × Addr)) (c' : Addr) : NF := ⟨"<lambda>", q, params, [], scope, cl, c'⟩
theorem lamOk_of {CX : CXT} {P : Program} {w : World} {K : PySem.W.Frag} {mg : Str → Option Value} {base : Heap} {N ps fr : List Str} {f c' : Addr} {q : Str} {params : Arguments} {body : Expr} {scope : Scope} {cl : List (Str × Addr)} {pm ctv : Value} {ws : List (Option V)} {k : Nat} {sp : Sp}
    (hf : base.get? f = some (PySem.W.kla_obj "<lambda>" q params body scope cl pm c' ctv)) (C : CellsAt cl fr ws base (fun _ => none)) (S : NScope N ps fr scope)
    (hb : ∀ us : List Value, us.length = ps.length → bindArgs (PySem.W.kla_fn "<lambda>" q params body scope cl pm (.ref c') ctv) ⟨us, []⟩ = pure (ps.zip us)) (len : ∀ vs H Q E, sp vs H Q E → vs.length = ps.length)
    (hbody : ∀ (A : Around) (outer : List Env) (s : Shared) (H : Hp) (vs : List V) (Q : VK) (E : XK), Room k (A.deeper (envF (lamF q params scope cl c') f s.heap.objs.size)) → sp vs H Q E →
      ∃ te, PE (ncx CX P w K mg base N (lamF q params scope cl c') f A outer s H E) body te ∧ te (startF N vs ws) H Q) : LamOk P w K mg base CX (k + 1) f c' q ps sp := by
  refine ⟨len, ⟨_, _, _, _, hf⟩, fun A outer s H us vs Q E hr e0 hc r hsp => ?_⟩
  have hl := len _ _ _ _ hsp
  have lim : s.heap.NoLimit := e0.mod.nolimit.keeps fun b o e => (e0.bs b o e).1
  have ho := (e0.bs _ _ hf).1
  obtain ⟨⟨oc, vs', t, hoc, hdc, hvc⟩, _, _⟩ := e0.hok c' _ hc
  have kc : ∀ a v, base.IsCell a v → s.heap.IsCell a v := fun a v ⟨o, e, d⟩ => ⟨o, (e0.bs _ _ e).1, d⟩
  have Cs : CellsAt cl fr ws s.heap H := by
    refine ⟨C.len, fun y a e => ?_, C.inj, fun i y e => ?_⟩
    · obtain ⟨_, v, z⟩ := C.all y a e
      obtain ⟨o, e1, d⟩ := id z
      exact ⟨(e0.bs _ _ e1).2, v, kc a v z⟩
    · obtain ⟨a, ha, hv⟩ := C.has i y e
      refine ⟨a, ha, fun v ev => ?_⟩
      obtain ⟨u, ru, z⟩ := hv v ev
      exact ⟨u, ru, kc a _ z⟩
  refine PySem.W.kla_callFunE hr.depth ho rfl S.co S.gen rfl ⟨c', oc, vs', t, rfl, hoc, hdc, hvc⟩ ?_
  rw [hb us (by rw [← r.length]; exact hl)]
  refine wpAny_pure (wpAny_newFunctionEnv S.nocell (fun ⟨n, _⟩ hy => S.par n (List.of_mem_zip hy).1) (fun h₁ hns hsb => ⟨lim.fresh _ hsb, ?_⟩) S.kind)
  show codeAny _ _ (.expr body (envF (lamF q params scope cl c') f s.heap.objs.size)) _ _
  have kp : ∀ b o, s.heap.get? b = some o → h₁.get? b = some o := fun b o e => hsb.extBut b o (Nat.ne_of_lt (Heap.lt_size e)) (Heap.get?_push_of_some _ e)
  obtain ⟨te, ht, hq⟩ := hbody A outer s H vs Q E (hr.deeper _) hsp
  have I : Inv (ncx CX P w K mg base N (lamF q params scope cl c') f A outer s H E) [] (startF N vs ws) H { s with heap := h₁, toks := s.toks + (ps.zip us).length } := inv_startN S hr.hd e0 hl r Cs hns kp
  refine PySem.W.kla_codeExpr (wpAny_mono (ht.run [] _ _ H Q I hq) (fun v s' hq => ?_) fun e s' hq => hq)
  obtain ⟨w', H', J', rv, q⟩ := hq
  exact ⟨w', H', J'.os, J'.bare, J'.base, J'.hok, rv, q⟩
/-- f(..), f a name that holds the lambda -/
def tCallL (f c' : Addr) (q : Str) (i : Nat) (sp : Sp) (E : XK) (t : TA) : TE := fun σ H Q => σ[i]? = some (some (.ref f)) ∧ t σ H fun vs H1 => H1 c' = some (CodeO c' q) ∧ sp vs H1 Q E
section
variable {X : Cx} {CX : CXT}
theorem pe_callL {f c' : Addr} {q x : Str} {ps : List Str} {sp : Sp} {k i : Nat} {E : XK} {t : TA} {e : Expr} {es : List Expr} {p pos : Pos} (G : LamOk X.prog X.w X.K X.mg X.base CX k f c' q ps sp) (hr : Room k X.A) (hx : Passes CX X E) (hN : X.N[i]? = some x) (hv : Vis X.env.scope x) (ha : PA X (e :: es) t)
    (hd : (x == ("__debug__" : Str)) = false := by decide) (hcd : (x == ("__classdict__" : Str)) = false := by decide)
    (he : starEach (e :: es) X.env = (false, eval e X.env) :: starEach es X.env := by rfl) (hpl : (backTo pos (starEach es X.env)).any (·.1) = false := by rfl) :
    PE X (.Call (.Name x p) (e :: es) [] pos) (tCallL f c' q i sp E t) := by
  refine ⟨fun pins s σ H Q I h => ?_⟩
  obtain ⟨hs, ht⟩ := h
  refine wpAny_Call_Name_kw (thn ((pe_var (pos := p) hN hv hd hcd).run pins s σ H (fun v H1 => v = .ref f ∧ H1 = H) I ⟨.ref f, hs, rfl, rfl⟩) fun u s1 ⟨v, H1, I1, r1, q1⟩ => ?_)
  obtain ⟨ev, eH⟩ := q1
  subst ev
  rw [eH] at I1
  obtain rfl : u = Value.ref f := r1
  have fa : ∀ {h : Heap}, (∀ b o, X.base.get? b = some o → h.get? b = some o) → PySem.W.FnAt f h := fun kp => by
    obtain ⟨a, b, c, d, e⟩ := G.at_
    exact ⟨a, b, c, d, kp _ _ e⟩
  refine PySem.W.callWith_F (first := []) (fa I1.bk) (thn (ha.run pos pins s1 σ H _ I1 ht) fun us s2 ⟨vs, H2, I2, r, h1, q⟩ => ⟨fa I2.bk, ?_⟩) he hpl
  show wpAny _ _ (call (.ref f) us) _ _ _
  refine wpAny_call (codeAny_mono (G.run X.A X.stack s2 H2 us vs Q E hr I2.env0 h1 r q) fun r s' hq => ?_)
  cases r with
  | error e => exact hx pins σ H2 s2 e s' I2 hq
  | ok fl =>
    cases fl with
    | ret u => exact I2.after hq
    | next => exact False.elim hq
    | brk => exact False.elim hq
    | cont => exact False.elim hq
/-- g(e, lambda ..: ..): what g is told of the lambda at f, its code object at c' -/
def tGive (T : List (Addr × Str)) (q : Str) (js : List Nat) (sp : Addr → Addr → List (Option V) → Sp) (E : XK) (t : TE) : TE := fun σ H Q => t σ H fun v H1 => Tabs T H1 ∧
  ∀ (f c' : Addr) (H2 : Hp), ExtN H1 H2 → Tabs T H2 → H2 c' = some (CodeO c' q) → sp f c' (js.map (slotAt σ)) [v, .ref f] H2 Q E
theorem pe_give {T : List (Addr × Str)} {x a1 a2 : Str} {g c P : Addr} {k : Nat} {fdg : FuncData} {fr : List Str} {js : List Nat} {sp : Addr → Addr → List (Option V) → Sp} {E : XK} {te : TE} {e : Expr} {params : Arguments} {body : Expr} {scope : Scope} {p lpos pos : Pos}
    (hg : Gl X x) (hm : X.mg x = some (.ref g)) (hk : PySem.W.keepIn X.K (.ref g) = true) (hb : L2.Binds X.K fdg [a1, a2] []) (TB : TabB X.base X.mg c P) (hcode : X.env.code = .ref c) (hmT : (P, X.env.qual ++ "<lambda>") ∈ T) (hu : ∀ p ∈ T, p.1 = P → p.2 = X.env.qual ++ "<lambda>") (hr : Room k X.A)
    (hdef : defaultsOf params X.env = ([], [])) (hfree : ∀ y ∈ scope.names, y.2 = .free → X.env.scope.names.lookup y.1 = some .cell ∨ X.env.scope.names.lookup y.1 = some .free) (hfr : ∀ y ∈ fr, (y, NameKind.free) ∈ scope.names) (hjs : js.map (fun j => X.N[j]?) = fr.map some) (hfn : ∀ x, X.fn x = true) (hx : Passes CX X E)
    (hG : ∀ (base' : Heap) (f c' : Addr) (pm ctv : Value) (ws : List (Option V)), X.K.In base' → base'.Ns mainGlobals X.mg → base'.get? f = some (PySem.W.kla_obj "<lambda>" (X.env.qual ++ "<lambda>") params body scope (cloFrom X.env.cells scope.names []) pm c' ctv) →
      CellsAt (cloFrom X.env.cells scope.names []) fr ws base' (fun _ => none) → FnOk X.prog X.w X.K X.mg base' CX k g fdg [a1, a2] (sp f c' ws))
    (he1 : PE X e te) (hdb : (x == ("__debug__" : Str)) = false := by decide)
    (he : starEach [e, .Lambda params body scope lpos] X.env = (false, eval e X.env) :: starEach [.Lambda params body scope lpos] X.env := by rfl) :
    PE X (.Call (.Name x p) [e, .Lambda params body scope lpos] [] pos) (tGive T (X.env.qual ++ "<lambda>") js sp E te) := by
  refine ⟨fun pins s σ H Q I h => ?_⟩
  refine wpAny_Call_Name_kw (ld_glob I hg hm ?_ hdb)
  refine PySem.W.callWith_K (h₀ := X.base) I.ok.mod.kin hk ?_ he (by rfl)
  rw [he]
  show wpAny _ _ (spliced ((false, eval e X.env) :: backTo pos (starEach [.Lambda params body scope lpos] X.env))) _ _ s
  refine Calls.spliced_cons (thn (he1.run pins s σ H _ I h) fun u s1 ⟨v, H1, I1, r1, hT, h1⟩ => ?_)
  show wpAny _ _ (spliced ((false, eval (.Lambda params body scope lpos) X.env) :: backTo pos (starEach [] X.env))) _ _ s1
  have hf0 : ∀ y ∈ scope.names, y.2 = .free → ∃ c, X.env.cells.lookup y.1 = some c := fun y hy e => (hfree y hy e).elim (fun z => I.ok.has _ (.inl z)) fun z => I.ok.has _ (.inr z)
  refine Calls.spliced_cons (lam_make2 I1 TB hcode hmT hu hT hdef hf0 fun f c' pm ctv H2 s2 I2 eN T2 hf hfn2 hfr2 hco => ?_)
  refine Calls.spliced_nil ⟨I2.kIn, ?_⟩
  have e0 := base_env0 I2
  have Fn := hG (baseOf X H2 s2) f c' pm ctv _ e0.mod.kin e0.mod.glob (base_get hf hfn2 hfr2) (cells_base I2 hfn (Caps.made I2.ok hfree hfr hjs))
  refine wpAny_call (codeAny_mono (Fn.run X.A X.stack s2 H2 ⟨[u, .ref f], []⟩ [u, .ref f] [v, .ref f] Q E hr e0 (hb s2 [u, .ref f] I2.kIn rfl) (.cons r1 (.cons rfl .nil)) (h1 f c' H2 eN T2 hco)) fun r s' hq => ?_)
  cases r with
  | error e => exact hx pins σ H2 s2 e s' I2 hq
  | ok fl =>
    cases fl with
    | ret u => exact I2.after hq
    | next => exact False.elim hq
    | brk => exact False.elim hq
    | cont => exact False.elim hq
end
end NAl
namespace NAp
open PySem PySem.Spec PyProof.Rows L2 NA NAx
open PySem.W (Codec)
def top (i : Nat) : Stmt := PySem.Challenge.pw_nestarray_s06_skeleton.main.body.getD i (.Pass ⟨0, 0, 0, 0⟩)
abbrev si_Refusal : Stmt := inClass (top 1) 0
abbrev si_LongRefusal : Stmt := inClass (top 2) 0
abbrev si_FormRefusal : Stmt := inClass (top 3) 0
abbrev si_BigRefusal : Stmt := inClass (top 4) 0
abbrev si_ShapeRefusal : Stmt := inClass (top 5) 0
abbrev si_LimitRefusal : Stmt := inClass (top 6) 0
abbrev si_NestedArray : Stmt := inClass (top 13) 0
abbrev s_array_of : Stmt := top 14
abbrev s_is_number : Stmt := top 15
abbrev s_extents_of : Stmt := top 16
abbrev s_parts_of : Stmt := top 17
abbrev s_depth_of : Stmt := top 18
abbrev s_size_of : Stmt := top 19
abbrev s_product_of : Stmt := top 20
abbrev s_is_shape : Stmt := top 21
abbrev s_is_in_range : Stmt := top 22
abbrev s_is_within_limits : Stmt := top 23
abbrev s_checked_number : Stmt := top 25
abbrev s_come_out : Stmt := top 27
abbrev s_has_shapes : Stmt := top 28
abbrev s_with_numbers : Stmt := top 29
abbrev s_skeleton_of : Stmt := top 30
abbrev s_is_digit : Stmt := top 44
abbrev s_blanks_end : Stmt := top 45
abbrev s_digits_end : Stmt := top 46
abbrev s_digits_start : Stmt := top 47
abbrev s_token_end : Stmt := top 48
abbrev s_tokens_of : Stmt := top 49
abbrev s_can_stand : Stmt := top 50
abbrev s_go_past : Stmt := top 51
abbrev s_fault_position : Stmt := top 52
abbrev s_look_at : Stmt := top 55
abbrev s_check_length : Stmt := top 56
abbrev s_check_numbers : Stmt := top 57
abbrev s_number_told : Stmt := top 58
abbrev s_value_told : Stmt := top 59
abbrev s_array_told : Stmt := top 60
abbrev s_text_of : Stmt := top 62
abbrev s_written : Stmt := top 63
abbrev s_written_number : Stmt := top 64
abbrev s_skeleton : Stmt := top 66
abbrev s_answered : Stmt := top 67
abbrev s_outcome_answer : Stmt := top 68
end NAp

namespace NAp
open PySem PySem.Spec PyProof.Rows L2 NA NAx
open PySem.W (Codec)
section
variable {P : Program} {w : World} {K : PySem.W.Frag} {mg : Str → Option Value} {base : Heap} {h : Heap}
/-- a def as it stands behind the top -/
structure DefAt (K : PySem.W.Frag) (mg : Str → Option Value) (x : Str) (st : Stmt) (ps : List Str) (f : Addr) (fd : FuncData) : Prop where
  fn : Fun K x x st f fd
  g : mg x = some (.ref f)
  b : Binds K fd ps []
/-- the bytes of a text as values -/
def bts (t : List Nat) : List V := t.map fun (b : Nat) => V.int (b : Int)
theorem bts_at {t : List Nat} {i : Nat} (h : i < t.length) : atI (bts t) (i : Int) = some (.int (t.getD i 0 : Nat)) := by
  refine atI_nat ?_
  unfold bts
  rw [List.getElem?_map, List.getElem?_eq_getElem h, List.getD_eq_getElem?_getD, List.getElem?_eq_getElem h]
  rfl
theorem bts_len (t : List Nat) : (bts t).length = t.length := by
  unfold bts
  exact List.length_map ..
/-- an int constant of the top -/
def Cn (mg : Str → Option Value) (x : Str) (n : Int) : Prop := ∃ t, mg x = some (.int n t)
theorem pe_cn {X : Cx} {x : Str} {n : Int} {pos : Pos} (h : Cn X.mg x n) (hg : Gl X x := by rfl) (hd : (x == ("__debug__" : Str)) = false := by decide) : PE X (.Name x pos) (tC (.int n)) := by
  obtain ⟨t, h⟩ := h
  exact pe_glob hg h ⟨t, rfl⟩ hd
/-- a tuple constant of the top -/
def Ct (K : PySem.W.Frag) (mg : Str → Option Value) (x : Str) (xs : List V) : Prop := ∃ a, mg x = some (.ref a) ∧ ∀ H, SqT K H a xs
theorem pe_ct {X : Cx} {x : Str} {a : Addr} {pos : Pos} (h : X.mg x = some (.ref a)) (hg : Gl X x := by rfl) (hd : (x == ("__debug__" : Str)) = false := by decide) : PE X (.Name x pos) (tC (.ref a)) := pe_glob hg h rfl hd
theorem inBlanks (c : Nat) : inV (.int (c : Int)) [.int 32, .int 9, .int 10, .int 13] = Vaarrm.blank c := by
  have e : ∀ k : Nat, ((k : Int) == (c : Int)) = (c == k) := fun k => by
    rw [Bool.eq_iff_iff, beq_iff_eq, beq_iff_eq]
    omega
  show ((((32 : Nat) : Int) == (c : Int)) || ((((9 : Nat) : Int) == (c : Int)) || ((((10 : Nat) : Int) == (c : Int)) || ((((13 : Nat) : Int) == (c : Int)) || false)))) = _
  rw [e, e, e, e, Bool.or_false]
  rfl
/-- a text is handed in at a -/
def Tx (K : PySem.W.Frag) (H : Hp) (a : Addr) (t : List Nat) : Prop := SqL K H a (bts t)
/-- a position that is moved on -/
def wScan (a : Addr) (t : List Nat) (i : Nat) (H : Hp) (fin : Nat → Nat) : Nat → L2.St → Hp → Prop := fun m σ H' =>
  ∃ j : Nat, σ = [some (.ref a), some (.int (i : Int)), some (.int (j : Int))] ∧ H' = H ∧ j ≤ t.length ∧ m = t.length - j ∧ fin i = fin j
theorem dec_nat {a b : Nat} {x y : V} (hx : x = .int (a : Int)) (hy : y = .int (b : Int)) : decide (x = y) = decide (a = b) := by
  subst hx hy
  refine decide_eq_decide.mpr ⟨fun e => ?_, fun e => by rw [e]⟩
  have := V.int.inj e
  omega
theorem dec_k {a : Nat} {b : Int} (k : Nat) (h : b = (k : Int)) : decide (V.int (a : Int) = V.int b) = decide (a = k) := by
  subst h
  exact dec_nat rfl rfl
theorem decI (i j : Int) : decide (V.int i = V.int j) = decide (i = j) := decide_eq_decide.mpr ⟨V.int.inj, fun e => by rw [e]⟩
theorem inSigns (c : Nat) : inV (.int (c : Int)) [.int 91, .int 58, .int 93] = isSign c := by
  have e : ∀ k : Nat, ((k : Int) == (c : Int)) = (c == k) := fun k => by
    rw [Bool.eq_iff_iff, beq_iff_eq, beq_iff_eq]
    omega
  show ((((91 : Nat) : Int) == (c : Int)) || ((((58 : Nat) : Int) == (c : Int)) || ((((93 : Nat) : Int) == (c : Int)) || false))) = _
  rw [e, e, e, Bool.or_false]
  rfl
/-- tuples of two numbers at these places -/
def TupsAt (H : Hp) : List Addr → List (Nat × Nat) → Prop
  | [], [] => True
  | q :: qs, x :: r => H q = some (.tup [.int (x.1 : Int), .int (x.2 : Int)]) ∧ TupsAt H qs r
  | _, _ => False
theorem TupsAt.up {H H' : Hp} (k : ∀ b xs, H b = some (.tup xs) → H' b = some (.tup xs)) : ∀ {qs : List Addr} {r : List (Nat × Nat)}, TupsAt H qs r → TupsAt H' qs r
  | [], [], _ => True.intro
  | q :: qs, x :: r, h => ⟨k _ _ h.1, TupsAt.up k h.2⟩
  | [], _ :: _, h => h.elim
  | _ :: _, [], h => h.elim
theorem TupsAt.snoc {H : Hp} {p : Addr} {x : Nat × Nat} (e : H p = some (.tup [.int (x.1 : Int), .int (x.2 : Int)])) : ∀ {qs : List Addr} {r : List (Nat × Nat)}, TupsAt H qs r → TupsAt H (qs ++ [p]) (r ++ [x])
  | [], [], _ => ⟨e, True.intro⟩
  | q :: qs, y :: r, h => ⟨h.1, TupsAt.snoc e h.2⟩
  | [], _ :: _, h => h.elim
  | _ :: _, [], h => h.elim
theorem TupsAt.len {H : Hp} : ∀ {qs : List Addr} {r : List (Nat × Nat)}, TupsAt H qs r → qs.length = r.length
  | [], [], _ => rfl
  | q :: qs, y :: r, h => by rw [List.length_cons, List.length_cons, TupsAt.len h.2]
  | [], _ :: _, h => h.elim
  | _ :: _, [], h => h.elim
theorem TupsAt.at {H : Hp} : ∀ {qs : List Addr} {r : List (Nat × Nat)} {i : Nat} {q : Addr}, TupsAt H qs r → qs[i]? = some q → ∃ x, r[i]? = some x ∧ H q = some (.tup [.int (x.1 : Int), .int (x.2 : Int)])
  | q0 :: qs, y :: r, 0, q, h, e => ⟨y, rfl, by cases e; exact h.1⟩
  | q0 :: qs, y :: r, i + 1, q, h, e => TupsAt.at (i := i) h.2 e
  | [], [], i, q, h, e => by simp at e
  | [], _ :: _, _, _, h, _ => h.elim
  | _ :: _, [], _, _, h, _ => h.elim
/-- a list of tokens stands at p -/
def TokL (H : Hp) (p : Addr) (r : List (Nat × Nat)) : Prop := ∃ qs : List Addr, H p = some (.lst (qs.map V.ref)) ∧ TupsAt H qs r
/-- a list of ints at p -/
abbrev IL (H : Hp) (p : Addr) (l : List Int) : Prop := H p = some (.lst (l.map V.int))
/-- all but what stands at p is as it was -/
def But (p : Addr) (H H' : Hp) : Prop := ∀ b o, b ≠ p → H b = some o → H' b = some o
theorem But.upd {p : Addr} {H : Hp} {o : HO} : But p H (upd H p o) := fun b u hb e => by
  rw [upd_ne hb]
  exact e
theorem But.trans {p : Addr} {H H1 H2 : Hp} (a : But p H H1) (c : But p H1 H2) : But p H H2 := fun b u hb e => c b u hb (a b u hb e)
theorem But.same {p : Addr} {H0 H H' : Hp} (n : H0 p = none) (s : Same H0 H) (b : But p H H') : Same H0 H' := fun c o e => b c o (ne_of_none e n) (s c o e)
theorem ixN_last {n : Nat} (h : 1 ≤ n) : ixN n (-1) = some (n - 1) := by
  unfold ixN
  rw [if_neg (by decide), if_pos (by omega)]
  congr 1
  omega
theorem ixN_zero {n : Nat} (h : 1 ≤ n) : ixN n 0 = some 0 := by
  unfold ixN
  rw [if_pos (by decide), if_pos (by omega)]
  rfl
theorem int_last (l : List Int) (h : l ≠ []) : atI (l.map V.int) (-1) = some (.int (l.getLastD 0)) := by
  unfold atI
  rw [List.length_map, ixN_last (by cases l with | nil => exact absurd rfl h | cons a r => simp), Option.bind_some, List.getElem?_map, getLast_at l h]
  rfl
def optV (o : Option Nat) : V := match o with
  | none => .non
  | some p => .int (p : Int)
/-- an error that is being made, at a: its class keeps no attribute called number, its dict is still to come -/
def Making (K : PySem.W.Frag) (H : Hp) (a : Addr) (n : Int) (Q : VK) : Prop := ∃ C, OxC K C ∧ PySem.W.findIn K (.ref C) "number" = some none ∧ H a = some (exo a C none) ∧
  ∀ dx, H dx = none → dx ≠ a → Q .non (upd (upd H dx (exd dx [("number", .int n)])) a (exo a C (some dx)))
def spRInit (K : PySem.W.Frag) : Sp := fun vs H Q _ => ∃ (a : Addr) (n : Int), vs = [.ref a, .int n] ∧ Making K H a n Q
def spOInit (K : PySem.W.Frag) (n : Int) : Sp := fun vs H Q _ => ∃ a : Addr, vs = [.ref a] ∧ Making K H a n Q
/-- one of the refusals: its class at C, called x, its __init__ at fI -/
structure RefCls (K : PySem.W.Frag) (mg : Str → Option Value) (CR : Addr) (x : Str) (C fI : Addr) : Prop where
  g : mg x = some (.ref C)
  ox : OxC K C
  no : PySem.W.findIn K (.ref C) "number" = some none
  iC : PySem.W.findIn K (.ref C) "__init__" = some (some (.ref fI))
  tI : PySem.W.typeIn K (.ref fI) = some (.type "function")
  xf : XfC K C
  te : PySem.W.exmOne K (.ref C) (.ref CR) = some true
/-- a refusal leaves the def: the number in a dict of its own, all else as it was -/
def Out (E : XK) (C : Addr) (n : Int) (H : Hp) : Prop := ∀ d, H d = none → E (.ref C) (some d) (upd H d (.xd [("number", .int n)]))
theorem heap_back {H : Hp} {a dx : Addr} {o1 o2 o3 o4 : HO} (ha : H a = none) (hd : dx ≠ a) : upd (del (upd (upd (upd H a o1) dx o2) a o3) a) dx o4 = upd H dx o4 := by
  funext b
  by_cases h1 : b = dx
  · rw [h1, upd_same, upd_same]
  · rw [upd_ne h1, upd_ne h1]
    by_cases h2 : b = a
    · rw [h2, del_same, ha]
    · rw [del_ne h2, upd_ne h2, upd_ne h1, upd_ne h2]
/-- raise x() -/
theorem ps_refuse {X : Cx} {W : WX} {x : Str} {CR C fI : Addr} {fd : FuncData} {n : Int} {p pos pos2 : Pos} (hc : X.calm = true) (tk : Takes X W) (T : RefCls X.K X.mg CR x C fI)
    (G : FnOk X.prog X.w X.K X.mg X.base CX0 2 fI fd ["self"] (spOInit X.K n)) (hr : Room 3 X.A) (hb : Binds X.K fd ["self"] []) (hg : Gl X x) (hdb : (x == ("__debug__" : Str)) = false := by decide) :
    PS X (.Raise (some (.Call (.Name x p) [] [] pos)) none pos2) (fun _ σ H => Out (fun cls d H' => W cls d σ H') C n H) := by
  have h := ps_raise (pos := pos2) hc tk (pmk_ox (p := p) (pos := pos) T.ox T.iC T.tI G hr hb pass0 hg T.g hdb)
  refine ⟨fun pins s σ H D I o => h.run pins s σ H D I ?_⟩
  intro a ha
  refine ⟨a, rfl, C, T.ox, T.no, upd_same, fun dx hdx hne => ⟨rfl, dx, [("number", .int n)], upd_same, ?_, ?_, ?_⟩⟩
  · rw [upd_ne hne, upd_same]
  · rw [upd_ne hne] at hdx
    exact hdx
  · rw [upd_ne hne] at hdx
    show W (.ref C) (some dx) σ _
    rw [heap_back ha hne]
    exact o dx hdx
/-- what a call of the desk promises: the list of what is due, new -/
def spDesk1 (K : PySem.W.Frag) (T : Addr) (due : List Nat → List Int) : Sp := fun vs H Q _ => ∃ (a : Addr) (t : List Nat), vs = [.ref a] ∧ Tx K H a t ∧ t.length ≤ 20000 ∧ H T = some (.tbl #[]) ∧
  ∀ (H' : Hp) (p : Addr), H' p = some (.lst ((due t).map V.int)) → Q (.ref p) H'
theorem ext_seq {H H' : Hp} {a : Addr} {xs : List V} (e : LamX.ExtN H H') (h : SqL K H a xs) : SqL K H' a xs := by
  rcases h with (h | ⟨o, h⟩) | h
  · exact .inl (.inl (e _ _ h (fun ps z => by cases z)))
  · exact .inl (.inr ⟨o, e _ _ h (fun ps z => by cases z)⟩)
  · exact .inr h
/-- a refusal with this number leaves the def, whatever class it is of -/
def OutR (K : PySem.W.Frag) (mg : Str → Option Value) (CR : Addr) (E : XK) (n : Int) (H : Hp) : Prop := ∀ (x : Str) (C fI : Addr), RefCls K mg CR x C fI → Out E C n H
end
end NAp

namespace NAp
open PySem PySem.Spec PyProof.Rows L2 NA NAx
open PySem.W (Codec)
section
variable {P : Program} {w : World} {K : PySem.W.Frag} {mg : Str → Option Value} {base : Heap} {h : Heap}
theorem scRInit : FnScope ["self", "number"] ["self", "number"] (defScope si_Refusal) := ⟨rfl, rfl, rfl, by decide +kernel, rfl, by decide +kernel, by decide +kernel⟩
theorem ok_rinit {f : Addr} {fd : FuncData} (F : Fun K "__init__" "Refusal.__init__" si_Refusal f fd) : FnOk P w K mg base CX0 1 f fd ["self", "number"] (spRInit K) := by
  refine F.ok scRInit (fun vs H Q E h => ?_) (fun cdv A outer s H vs Q E hr h => ?_)
  · obtain ⟨a, n, rfl, _⟩ := h
    rfl
  · obtain ⟨a, n, rfl, C, T, no, ha, q⟩ := h
    refine ⟨_, pss_one (ps_oxst (pv 0) (pv 1)), ?_⟩
    exact ⟨_, rfl, _, rfl, a, C, rfl, T, no, ha, q⟩
/-- the class of all refusals, and its __init__ -/
structure RefBase (K : PySem.W.Frag) (mg : Str → Option Value) (CR fR : Addr) (fdR : FuncData) : Prop where
  g : mg "Refusal" = some (.ref CR)
  rd : PySem.W.readsIn K CR (.type "type") = true
  ga : PySem.W.specialIn K (.ref CR) "__getattribute__" = some (some (.builtin "type.__getattribute__"))
  fc : PySem.W.findCls K (.ref CR) (.type "type") "__init__" = some (.val (.ref fR))
  fn : Fun K "__init__" "Refusal.__init__" si_Refusal fR fdR
  b : Binds K fdR ["self", "number"] []
end
end NAp

namespace NAp
open PySem PySem.Spec PyProof.Rows L2 NA NAx
open PySem.W (Codec)
section
variable {P : Program} {w : World} {K : PySem.W.Frag} {mg : Str → Option Value} {base : Heap} {h : Heap}
theorem sci_LongRefusal : FnScope ["self"] ["self"] (defScope si_LongRefusal) := ⟨rfl, rfl, rfl, by decide +kernel, rfl, by decide +kernel, by decide +kernel⟩
theorem ok_init_LongRefusal {f CR fR : Addr} {fd fdR : FuncData} (F : Fun K "__init__" "LongRefusal.__init__" si_LongRefusal f fd) (R : RefBase K mg CR fR fdR) (G : FnOk P w K mg base CX0 1 fR fdR ["self", "number"] (spRInit K)) : FnOk P w K mg base CX0 2 f fd ["self"] (spOInit K (-1)) := by
  refine F.ok sci_LongRefusal (fun vs H Q E h => ?_) (fun cdv A outer s H vs Q E hr h => ?_)
  · obtain ⟨a, rfl, _⟩ := h
    rfl
  · obtain ⟨a, rfl, m⟩ := h
    refine ⟨_, pss_one (ps_expr (pe_clsfn rfl R.g R.rd R.ga R.fc R.fn.kp G hr R.b pass0 (pa_cons (pv 0) (pa_cons (pe_un un_neg pe_int) pa_nil)))), ?_⟩
    exact ⟨_, rfl, _, rfl, a, _, rfl, m⟩
end
end NAp

namespace NAp
open PySem PySem.Spec PyProof.Rows L2 NA NAx
open PySem.W (Codec)
section
variable {P : Program} {w : World} {K : PySem.W.Frag} {mg : Str → Option Value} {base : Heap} {h : Heap}
theorem sci_FormRefusal : FnScope ["self"] ["self"] (defScope si_FormRefusal) := ⟨rfl, rfl, rfl, by decide +kernel, rfl, by decide +kernel, by decide +kernel⟩
theorem ok_init_FormRefusal {f CR fR : Addr} {fd fdR : FuncData} (F : Fun K "__init__" "FormRefusal.__init__" si_FormRefusal f fd) (R : RefBase K mg CR fR fdR) (G : FnOk P w K mg base CX0 1 fR fdR ["self", "number"] (spRInit K)) : FnOk P w K mg base CX0 2 f fd ["self"] (spOInit K (-2)) := by
  refine F.ok sci_FormRefusal (fun vs H Q E h => ?_) (fun cdv A outer s H vs Q E hr h => ?_)
  · obtain ⟨a, rfl, _⟩ := h
    rfl
  · obtain ⟨a, rfl, m⟩ := h
    refine ⟨_, pss_one (ps_expr (pe_clsfn rfl R.g R.rd R.ga R.fc R.fn.kp G hr R.b pass0 (pa_cons (pv 0) (pa_cons (pe_un un_neg pe_int) pa_nil)))), ?_⟩
    exact ⟨_, rfl, _, rfl, a, _, rfl, m⟩
end
end NAp

namespace NAp
open PySem PySem.Spec PyProof.Rows L2 NA NAx
open PySem.W (Codec)
section
variable {P : Program} {w : World} {K : PySem.W.Frag} {mg : Str → Option Value} {base : Heap} {h : Heap}
theorem sci_BigRefusal : FnScope ["self"] ["self"] (defScope si_BigRefusal) := ⟨rfl, rfl, rfl, by decide +kernel, rfl, by decide +kernel, by decide +kernel⟩
theorem ok_init_BigRefusal {f CR fR : Addr} {fd fdR : FuncData} (F : Fun K "__init__" "BigRefusal.__init__" si_BigRefusal f fd) (R : RefBase K mg CR fR fdR) (G : FnOk P w K mg base CX0 1 fR fdR ["self", "number"] (spRInit K)) : FnOk P w K mg base CX0 2 f fd ["self"] (spOInit K (-3)) := by
  refine F.ok sci_BigRefusal (fun vs H Q E h => ?_) (fun cdv A outer s H vs Q E hr h => ?_)
  · obtain ⟨a, rfl, _⟩ := h
    rfl
  · obtain ⟨a, rfl, m⟩ := h
    refine ⟨_, pss_one (ps_expr (pe_clsfn rfl R.g R.rd R.ga R.fc R.fn.kp G hr R.b pass0 (pa_cons (pv 0) (pa_cons (pe_un un_neg pe_int) pa_nil)))), ?_⟩
    exact ⟨_, rfl, _, rfl, a, _, rfl, m⟩
end
end NAp

namespace NAp
open PySem PySem.Spec PyProof.Rows L2 NA NAx
open PySem.W (Codec)
section
variable {P : Program} {w : World} {K : PySem.W.Frag} {mg : Str → Option Value} {base : Heap} {h : Heap}
theorem sci_ShapeRefusal : FnScope ["self"] ["self"] (defScope si_ShapeRefusal) := ⟨rfl, rfl, rfl, by decide +kernel, rfl, by decide +kernel, by decide +kernel⟩
theorem ok_init_ShapeRefusal {f CR fR : Addr} {fd fdR : FuncData} (F : Fun K "__init__" "ShapeRefusal.__init__" si_ShapeRefusal f fd) (R : RefBase K mg CR fR fdR) (G : FnOk P w K mg base CX0 1 fR fdR ["self", "number"] (spRInit K)) : FnOk P w K mg base CX0 2 f fd ["self"] (spOInit K (-4)) := by
  refine F.ok sci_ShapeRefusal (fun vs H Q E h => ?_) (fun cdv A outer s H vs Q E hr h => ?_)
  · obtain ⟨a, rfl, _⟩ := h
    rfl
  · obtain ⟨a, rfl, m⟩ := h
    refine ⟨_, pss_one (ps_expr (pe_clsfn rfl R.g R.rd R.ga R.fc R.fn.kp G hr R.b pass0 (pa_cons (pv 0) (pa_cons (pe_un un_neg pe_int) pa_nil)))), ?_⟩
    exact ⟨_, rfl, _, rfl, a, _, rfl, m⟩
end
end NAp

namespace NAp
open PySem PySem.Spec PyProof.Rows L2 NA NAx
open PySem.W (Codec)
section
variable {P : Program} {w : World} {K : PySem.W.Frag} {mg : Str → Option Value} {base : Heap} {h : Heap}
theorem sci_LimitRefusal : FnScope ["self"] ["self"] (defScope si_LimitRefusal) := ⟨rfl, rfl, rfl, by decide +kernel, rfl, by decide +kernel, by decide +kernel⟩
theorem ok_init_LimitRefusal {f CR fR : Addr} {fd fdR : FuncData} (F : Fun K "__init__" "LimitRefusal.__init__" si_LimitRefusal f fd) (R : RefBase K mg CR fR fdR) (G : FnOk P w K mg base CX0 1 fR fdR ["self", "number"] (spRInit K)) : FnOk P w K mg base CX0 2 f fd ["self"] (spOInit K (-5)) := by
  refine F.ok sci_LimitRefusal (fun vs H Q E h => ?_) (fun cdv A outer s H vs Q E hr h => ?_)
  · obtain ⟨a, rfl, _⟩ := h
    rfl
  · obtain ⟨a, rfl, m⟩ := h
    refine ⟨_, pss_one (ps_expr (pe_clsfn rfl R.g R.rd R.ga R.fc R.fn.kp G hr R.b pass0 (pa_cons (pv 0) (pa_cons (pe_un un_neg pe_int) pa_nil)))), ?_⟩
    exact ⟨_, rfl, _, rfl, a, _, rfl, m⟩
end
end NAp

namespace NAp
open PySem PySem.Spec PyProof.Rows L2 NA NAx
open PySem.W (Codec)
section
variable {P : Program} {w : World} {K : PySem.W.Frag} {mg : Str → Option Value} {base : Heap} {h : Heap}
def spDigit : Sp := fun vs H Q _ => ∃ n : Nat, vs = [.int (n : Int)] ∧ Q (.bl (Vaarrm.digit n)) H
theorem scIsDigit : FnScope ["byte"] ["byte"] (defScope s_is_digit) := ⟨rfl, rfl, rfl, by decide +kernel, rfl, by decide +kernel, by decide +kernel⟩
theorem ok_is_digit {f : Addr} {fd : FuncData} (F : Fun K "is_digit" "is_digit" s_is_digit f fd) (cZ : Cn mg "ZERO" 48) (cN : Cn mg "NINE" 57) : FnOk P w K mg base CX0 1 f fd ["byte"] spDigit := by
  refine F.ok scIsDigit (fun vs H Q E h => ?_) (fun cdv A outer s H vs Q E hr h => ?_)
  · obtain ⟨n, rfl, _⟩ := h
    rfl
  · obtain ⟨n, rfl, q⟩ := h
    refine ⟨_, pss_one (ps_ret (pe_chain op_le op_le (pe_cn cZ) (pv 0) (pe_cn cN))), ?_⟩
    refine ⟨_, rfl, _, _, rfl, rfl, _, rfl, ?_⟩
    by_cases c : (48 : Int) ≤ n
    · rw [decide_eq_true c]
      refine iteT ⟨_, _, rfl, rfl, ?_⟩
      have e : Vaarrm.digit n = decide ((n : Int) ≤ 57) := by
        unfold Vaarrm.digit
        exact decide_eq_decide.mpr (by omega)
      show Q (.bl (decide ((n : Int) ≤ 57))) H
      rw [← e]
      exact q
    · rw [decide_eq_false c]
      refine iteF ?_
      have e : Vaarrm.digit n = false := by
        unfold Vaarrm.digit
        exact decide_eq_false (by omega)
      show Q (.bl false) H
      rw [← e]
      exact q
end
end NAp

namespace NAp
open PySem PySem.Spec PyProof.Rows L2 NA NAx
open PySem.W (Codec)
section
variable {P : Program} {w : World} {K : PySem.W.Frag} {mg : Str → Option Value} {base : Heap} {h : Heap}
def spBlanksEnd (K : PySem.W.Frag) : Sp := fun vs H Q _ => ∃ (a : Addr) (t : List Nat) (i : Nat), vs = [.ref a, .int (i : Int)] ∧ Tx K H a t ∧ i ≤ t.length ∧ Q (.int (blanksEnd t i : Nat)) H
theorem scBlanksEnd : FnScope ["text", "start", "position"] ["text", "start"] (defScope s_blanks_end) := ⟨rfl, rfl, rfl, by decide +kernel, rfl, by decide +kernel, by decide +kernel⟩
theorem ok_blanks_end {f : Addr} {fd : FuncData} (F : Fun K "blanks_end" "blanks_end" s_blanks_end f fd) (hB : Ct K mg "BLANKS" [.int 32, .int 9, .int 10, .int 13]) (hlen : mg "len" = none) : FnOk P w K mg base CX0 1 f fd ["text", "start"] (spBlanksEnd K) := by
  obtain ⟨aB, gB, tB⟩ := hB
  refine F.ok scBlanksEnd (fun vs H Q E h => ?_) (fun cdv A outer s H vs Q E hr h => ?_)
  · obtain ⟨a, t, i, rfl, _⟩ := h
    rfl
  · obtain ⟨a, t, i, rfl, hT, hi, q⟩ := h
    refine ⟨_, pss_cons (ps_set (i := 2) scBlanksEnd.nd rfl (Or.inl rfl) (pv 1))
      (pss_cons (ps_while PassesOwn.never (PW.pt (pw_and (pt_cmpR op_lt (pv 2) (pe_callB call_len_seq (by rfl) hlen PySem.boot_len (pa_cons (pv 0) pa_nil)) (nomark _))
          (pw_and1 (pt_cmpR op_in_seq (pe_ix ix_list (pv 0) (pv 2) (fun _ _ => rfl)) (pe_ct gB) (by rfl)))))
        (pss_one (ps_aug (i := 2) scBlanksEnd.nd rfl (.inl rfl) pe_int ip_add)))
      (pss_one (ps_ret (pv 2)))), ?_⟩
    refine ⟨_, rfl, wScan a t i H (blanksEnd t), ⟨_, i, rfl, rfl, hi, rfl, rfl⟩, ?_⟩
    rintro m σ H' ⟨j, rfl, rfl, hj, rfl, e⟩
    refine ⟨_, rfl, _, rfl, a, _, rfl, .inl hT, _, _, rfl, rfl, _, rfl, ?_⟩
    rw [bts_len]
    by_cases c : j < t.length
    · rw [decide_eq_true (show (j : Int) < (t.length : Int) by omega)]
      refine iteT ⟨_, rfl, _, rfl, a, _, _, _, rfl, rfl, hT, bts_at c, aB, _, rfl, .inr (tB _), rfl, rfl, _, rfl, ?_⟩
      rw [if_neg Bool.false_ne_true, inBlanks]
      by_cases b : Vaarrm.blank (t.getD j 0) = true
      · rw [b]
        refine iteT ⟨fun σ' H2 => ∃ m', m' < t.length - j ∧ wScan a t i H' (blanksEnd t) m' σ' H2, fun _ _ z => z, ?_⟩
        exact ⟨_, rfl, _, _, rfl, rfl, t.length - (j + 1), by omega, j + 1, rfl, rfl, c, rfl, e.trans (blanksEnd_blank c b)⟩
      · rw [Bool.eq_false_iff.mpr b]
        refine iteF ⟨_, rfl, ?_⟩
        rw [blanksEnd_not c b] at e
        rw [e] at q
        exact q
    · rw [decide_eq_false (show ¬ (j : Int) < (t.length : Int) by omega)]
      refine iteF (iteF ⟨_, rfl, ?_⟩)
      rw [blanksEnd_end c] at e
      rw [e] at q
      exact q
end
end NAp

namespace NAp
open PySem PySem.Spec PyProof.Rows L2 NA NAx
open PySem.W (Codec)
section
variable {P : Program} {w : World} {K : PySem.W.Frag} {mg : Str → Option Value} {base : Heap} {h : Heap}
def spDigitsEnd (K : PySem.W.Frag) : Sp := fun vs H Q _ => ∃ (a : Addr) (t : List Nat) (i : Nat), vs = [.ref a, .int (i : Int)] ∧ Tx K H a t ∧ i ≤ t.length ∧ Q (.int (digitsEnd t i : Nat)) H
theorem scDigitsEnd : FnScope ["text", "start", "position"] ["text", "start"] (defScope s_digits_end) := ⟨rfl, rfl, rfl, by decide +kernel, rfl, by decide +kernel, by decide +kernel⟩
theorem ok_digits_end {f fd' : Addr} {fd fdD : FuncData} (F : Fun K "digits_end" "digits_end" s_digits_end f fd) (D : DefAt K mg "is_digit" s_is_digit ["byte"] fd' fdD) (G : FnOk P w K mg base CX0 1 fd' fdD ["byte"] spDigit) (hlen : mg "len" = none) :
    FnOk P w K mg base CX0 2 f fd ["text", "start"] (spDigitsEnd K) := by
  refine F.ok scDigitsEnd (fun vs H Q E h => ?_) (fun cdv A outer s H vs Q E hr h => ?_)
  · obtain ⟨a, t, i, rfl, _⟩ := h
    rfl
  · obtain ⟨a, t, i, rfl, hT, hi, q⟩ := h
    refine ⟨_, pss_cons (ps_set (i := 2) scDigitsEnd.nd rfl (Or.inl rfl) (pv 1))
      (pss_cons (ps_while PassesOwn.never (PW.pt (pw_and (pt_cmpR op_lt (pv 2) (pe_callB call_len_seq (by rfl) hlen PySem.boot_len (pa_cons (pv 0) pa_nil)) (nomark _))
          (pw_and1 (pt_val (pe_call G hr rfl D.g D.fn.kp D.b .nil pass0 (pa_cons (pe_ix ix_list (pv 0) (pv 2) (fun _ _ => rfl)) pa_nil))))))
        (pss_one (ps_aug (i := 2) scDigitsEnd.nd rfl (.inl rfl) pe_int ip_add)))
      (pss_one (ps_ret (pv 2)))), ?_⟩
    refine ⟨_, rfl, wScan a t i H (digitsEnd t), ⟨_, i, rfl, rfl, hi, rfl, rfl⟩, ?_⟩
    rintro m σ H' ⟨j, rfl, rfl, hj, rfl, e⟩
    refine ⟨_, rfl, _, rfl, a, _, rfl, .inl hT, _, _, rfl, rfl, _, rfl, ?_⟩
    rw [bts_len]
    by_cases c : j < t.length
    · rw [decide_eq_true (show (j : Int) < (t.length : Int) by omega)]
      refine iteT ⟨_, rfl, _, rfl, a, _, _, _, rfl, rfl, hT, bts_at c, _, rfl, _, rfl, ?_⟩
      by_cases b : Vaarrm.digit (t.getD j 0) = true
      · rw [b]
        refine iteT ⟨fun σ' H2 => ∃ m', m' < t.length - j ∧ wScan a t i H' (digitsEnd t) m' σ' H2, fun _ _ z => z, ?_⟩
        exact ⟨_, rfl, _, _, rfl, rfl, t.length - (j + 1), by omega, j + 1, rfl, rfl, c, rfl, e.trans (digitsEnd_digit c b)⟩
      · rw [Bool.eq_false_iff.mpr b]
        refine iteF ⟨_, rfl, ?_⟩
        rw [digitsEnd_not c b] at e
        rw [e] at q
        exact q
    · rw [decide_eq_false (show ¬ (j : Int) < (t.length : Int) by omega)]
      refine iteF (iteF ⟨_, rfl, ?_⟩)
      rw [digitsEnd_end c] at e
      rw [e] at q
      exact q
end
end NAp

namespace NAp
open PySem PySem.Spec PyProof.Rows L2 NA NAx
open PySem.W (Codec)
section
variable {P : Program} {w : World} {K : PySem.W.Frag} {mg : Str → Option Value} {base : Heap} {h : Heap}
def spDigitsStart (K : PySem.W.Frag) : Sp := fun vs H Q _ => ∃ (a : Addr) (t : List Nat) (i : Nat), vs = [.ref a, .int (i : Int)] ∧ Tx K H a t ∧ i < t.length ∧ Q (.int (first t i : Nat)) H
theorem scDigitsStart : FnScope ["text", "start"] ["text", "start"] (defScope s_digits_start) := ⟨rfl, rfl, rfl, by decide +kernel, rfl, by decide +kernel, by decide +kernel⟩
theorem ok_digits_start {f : Addr} {fd : FuncData} (F : Fun K "digits_start" "digits_start" s_digits_start f fd) (cM : Cn mg "MINUS" 95) : FnOk P w K mg base CX0 1 f fd ["text", "start"] (spDigitsStart K) := by
  refine F.ok scDigitsStart (fun vs H Q E h => ?_) (fun cdv A outer s H vs Q E hr h => ?_)
  · obtain ⟨a, t, i, rfl, _⟩ := h
    rfl
  · obtain ⟨a, t, i, rfl, hT, hi, q⟩ := h
    refine ⟨_, pss_one (ps_ret (pe_ifExp (pt_cmpR op_eq (pe_ix ix_list (pv 0) (pv 1) (fun _ _ => rfl)) (pe_cn cM) (nomark _)) (pe_op op_add (pv 1) pe_int) (pv 1))), ?_⟩
    refine ⟨_, rfl, _, rfl, a, _, _, _, rfl, rfl, hT, bts_at hi, rfl, _, rfl, ?_⟩
    rw [dec_k (b := 95) 95 rfl]
    unfold first at q
    by_cases c : t.getD i 0 = 95
    · rw [decide_eq_true c]
      rw [if_pos c] at q
      exact iteT ⟨_, rfl, _, _, rfl, rfl, q⟩
    · rw [decide_eq_false c]
      rw [if_neg c] at q
      exact iteF ⟨_, rfl, q⟩
end
end NAp

namespace NAp
open PySem PySem.Spec PyProof.Rows L2 NA NAx
open PySem.W (Codec)
section
variable {P : Program} {w : World} {K : PySem.W.Frag} {mg : Str → Option Value} {base : Heap} {h : Heap}
def spTokenEnd (K : PySem.W.Frag) : Sp := fun vs H Q _ => ∃ (a : Addr) (t : List Nat) (i : Nat), vs = [.ref a, .int (i : Int)] ∧ Tx K H a t ∧ i < t.length ∧ Q (.int (tokenEnd t i : Nat)) H
theorem scTokenEnd : FnScope ["text", "start", "first", "end"] ["text", "start"] (defScope s_token_end) := ⟨rfl, rfl, rfl, by decide +kernel, rfl, by decide +kernel, by decide +kernel⟩
theorem ok_token_end {f f1 f2 : Addr} {fd fd1 fd2 : FuncData} (F : Fun K "token_end" "token_end" s_token_end f fd) (hS : Ct K mg "SIGNS" [.int 91, .int 58, .int 93]) (cZ : Cn mg "ZERO" 48)
    (D1 : DefAt K mg "digits_start" s_digits_start ["text", "start"] f1 fd1) (G1 : FnOk P w K mg base CX0 1 f1 fd1 ["text", "start"] (spDigitsStart K))
    (D2 : DefAt K mg "digits_end" s_digits_end ["text", "start"] f2 fd2) (G2 : FnOk P w K mg base CX0 2 f2 fd2 ["text", "start"] (spDigitsEnd K)) : FnOk P w K mg base CX0 3 f fd ["text", "start"] (spTokenEnd K) := by
  obtain ⟨aS, gS, tS⟩ := hS
  refine F.ok scTokenEnd (fun vs H Q E h => ?_) (fun cdv A outer s H vs Q E hr h => ?_)
  · obtain ⟨a, t, i, rfl, _⟩ := h
    rfl
  · obtain ⟨a, t, i, rfl, hT, hi, q⟩ := h
    have hr1 : Room 1 _ := hr.mono (by decide)
    refine ⟨_, pss_cons (ps_if (pt_cmpR op_in_seq (pe_ix ix_list (pv 0) (pv 1) (fun _ _ => rfl)) (pe_ct gS) (by rfl)) (pss_one (ps_ret (pe_op op_add (pv 1) pe_int))) pss_nil)
      (pss_cons (ps_set (i := 2) scTokenEnd.nd rfl (Or.inl rfl) (pe_call G1 hr1 rfl D1.g D1.fn.kp D1.b .nil pass0 (pa_cons (pv 0) (pa_cons (pv 1) pa_nil))))
      (pss_cons (ps_set (i := 3) scTokenEnd.nd rfl (Or.inl rfl) (pe_call G2 hr rfl D2.g D2.fn.kp D2.b .nil pass0 (pa_cons (pv 0) (pa_cons (pv 2) pa_nil))))
      (pss_cons (ps_if (pt_cmpR op_eq (pv 3) (pv 2) (nomark _)) (pss_one (ps_ret (pv 1))) pss_nil)
      (pss_cons (ps_if (PW.pt (pw_and (pt_cmpR op_eq (pe_ix ix_list (pv 0) (pv 2) (fun _ _ => rfl)) (pe_cn cZ) (nomark _)) (pw_and1 (pt_cmpR op_gt (pe_op op_sub (pv 3) (pv 1)) pe_int (nomark _))))) (pss_one (ps_ret (pv 1))) pss_nil)
      (pss_one (ps_ret (pv 3))))))), ?_⟩
    refine ⟨_, rfl, _, rfl, a, _, _, _, rfl, rfl, hT, bts_at hi, aS, _, rfl, .inr (tS _), rfl, rfl, _, rfl, ?_⟩
    rw [if_neg Bool.false_ne_true, inSigns]
    have hfl := first_le t i
    have hfg := first_ge t i
    have hdg := digitsEnd_ge t (first t i)
    have hdl := digitsEnd_le (t := t) (i := first t i) (by omega)
    unfold tokenEnd at q
    by_cases c0 : isSign (t.getD i 0) = true
    · rw [c0]
      rw [if_pos c0] at q
      exact iteT ⟨_, rfl, _, _, rfl, rfl, q⟩
    · rw [Bool.eq_false_iff.mpr c0]
      rw [if_neg c0] at q
      refine iteF ⟨_, rfl, _, rfl, a, t, i, rfl, hT, hi, ?_⟩
      refine ⟨_, rfl, _, rfl, a, t, first t i, rfl, hT, by omega, ?_⟩
      refine ⟨_, rfl, _, rfl, rfl, _, rfl, ?_⟩
      rw [dec_nat (a := digitsEnd t (first t i)) (b := first t i) rfl rfl]
      by_cases c1 : digitsEnd t (first t i) = first t i
      · rw [decide_eq_true c1]
        rw [if_pos c1] at q
        exact iteT ⟨_, rfl, q⟩
      · rw [decide_eq_false c1]
        rw [if_neg c1] at q
        refine iteF ⟨_, rfl, _, rfl, a, _, _, _, rfl, rfl, hT, bts_at (i := first t i) (by omega), rfl, _, rfl, ?_⟩
        rw [dec_k (b := 48) 48 rfl]
        by_cases c2 : t.getD (first t i) 0 = 48
        · rw [decide_eq_true c2]
          refine iteT ⟨_, rfl, _, rfl, _, _, rfl, rfl, _, _, rfl, rfl, _, rfl, ?_⟩
          by_cases c3 : 1 < digitsEnd t (first t i) - i
          · rw [decide_eq_true (show (1 : Int) < (digitsEnd t (first t i) : Int) - (i : Int) by omega)]
            rw [if_pos ⟨c2, c3⟩] at q
            exact iteT ⟨_, rfl, q⟩
          · rw [decide_eq_false (show ¬ (1 : Int) < (digitsEnd t (first t i) : Int) - (i : Int) by omega)]
            rw [if_neg (fun z => c3 z.2)] at q
            exact iteF ⟨_, rfl, q⟩
        · rw [decide_eq_false c2]
          rw [if_neg (fun z => c2 z.1)] at q
          exact iteF (iteF ⟨_, rfl, q⟩)
end
end NAp

namespace NAp
open PySem PySem.Spec PyProof.Rows L2 NA NAx
open PySem.W (Codec)
section
variable {P : Program} {w : World} {K : PySem.W.Frag} {mg : Str → Option Value} {base : Heap} {h : Heap}
def spTokensOf (K : PySem.W.Frag) : Sp := fun vs H Q _ => ∃ (a : Addr) (t : List Nat), vs = [.ref a] ∧ Tx K H a t ∧ t.length ≤ 8192 ∧ ∀ (H' : Hp) (p : Addr), Same H H' → H p = none → TokL H' p (toks t) → Q (.ref p) H'
theorem scTokensOf : FnScope ["text", "tokens", "start", "end"] ["text"] (defScope s_tokens_of) := ⟨rfl, rfl, rfl, by decide +kernel, rfl, by decide +kernel, by decide +kernel⟩
def wToks (a p : Addr) (t : List Nat) (H : Hp) : Nat → L2.St → Hp → Prop := fun m σ H' =>
  ∃ (v : Option V) (j : Nat) (acc : List (Nat × Nat)), σ = [some (.ref a), some (.ref p), some (.int (j : Int)), v] ∧ Same H H' ∧ TokL H' p acc ∧ j ≤ t.length ∧ m = t.length - j ∧ acc ++ toksAt t j = toks t
theorem ok_tokens_of {f f1 f2 : Addr} {fd fd1 fd2 : FuncData} (F : Fun K "tokens_of" "tokens_of" s_tokens_of f fd) (hlen : mg "len" = none)
    (D1 : DefAt K mg "blanks_end" s_blanks_end ["text", "start"] f1 fd1) (G1 : FnOk P w K mg base CX0 1 f1 fd1 ["text", "start"] (spBlanksEnd K))
    (D2 : DefAt K mg "token_end" s_token_end ["text", "start"] f2 fd2) (G2 : FnOk P w K mg base CX0 3 f2 fd2 ["text", "start"] (spTokenEnd K)) : FnOk P w K mg base CX0 4 f fd ["text"] (spTokensOf K) := by
  refine F.ok scTokensOf (fun vs H Q E h => ?_) (fun cdv A outer s H vs Q E hr h => ?_)
  · obtain ⟨a, t, rfl, _⟩ := h
    rfl
  · obtain ⟨a, t, rfl, hT, hl, q⟩ := h
    have hr1 : Room 1 _ := hr.mono (by decide)
    refine ⟨_, pss_cons (ps_set (i := 1) scTokensOf.nd rfl (Or.inl rfl) (pe_lst pa_nil))
      (pss_cons (ps_set (i := 2) scTokensOf.nd rfl (Or.inl rfl) (pe_call G1 hr1 rfl D1.g D1.fn.kp D1.b .nil pass0 (pa_cons (pv 0) (pa_cons pe_int pa_nil))))
      (pss_cons (ps_while PassesOwn.never (pt_cmpR op_lt (pv 2) (pe_callB call_len_seq (by rfl) hlen PySem.boot_len (pa_cons (pv 0) pa_nil)) (nomark _))
        (pss_cons (ps_set (i := 3) scTokensOf.nd rfl (Or.inl rfl) (pe_call G2 hr rfl D2.g D2.fn.kp D2.b .nil pass0 (pa_cons (pv 0) (pa_cons (pv 2) pa_nil))))
        (pss_cons (ps_expr (pe_bm PySem.F.plainAttrs_list PySem.F.slot_list_append PySem.F.type_list_append mt_append (pv 1) (pa_cons (pe_tup (pa_cons (pv 2) (pa_cons (pv 3) pa_nil))) pa_nil)))
        (pss_cons (ps_if (pt_cmpR op_eq (pv 3) (pv 2) (nomark _)) (pss_one (ps_ret (pv 1))) pss_nil)
        (pss_one (ps_set (i := 2) scTokensOf.nd rfl (Or.inl rfl) (pe_call G1 hr1 rfl D1.g D1.fn.kp D1.b .nil pass0 (pa_cons (pv 0) (pa_cons (pv 3) pa_nil)))))))))
      (pss_one (ps_ret (pv 1))))), ?_⟩
    refine ⟨Nat.zero_le _, fun p hp => ?_⟩
    have s0 : Same H (upd H p (.lst [])) := fun b o e => by
      rw [upd_ne (ne_of_none e hp)]
      exact e
    refine ⟨_, rfl, a, t, 0, rfl, s0.seq hT, Nat.zero_le _, ?_⟩
    refine ⟨wToks a p t H, ⟨_, none, blanksEnd t 0, [], rfl, s0, ⟨[], upd_same, True.intro⟩, blanksEnd_le (Nat.zero_le _), rfl, rfl⟩, ?_⟩
    rintro m σ H' ⟨v, j, acc, rfl, sm, ⟨qs, hqs, htu⟩, hj, rfl, eacc⟩
    refine ⟨_, rfl, _, rfl, a, _, rfl, .inl (sm.seq hT), _, _, rfl, rfl, _, rfl, ?_⟩
    rw [bts_len]
    have hlacc : acc.length ≤ 8192 := by
      have h1 := toks_len t
      have h2 := congrArg List.length eacc
      rw [List.length_append] at h2
      omega
    by_cases c : j < t.length
    · rw [decide_eq_true (show (j : Int) < (t.length : Int) by omega)]
      refine iteT ⟨fun σ' H2 => ∃ m', m' < t.length - j ∧ wToks a p t H m' σ' H2, fun _ _ z => z, ?_⟩
      refine ⟨_, rfl, _, rfl, a, t, j, rfl, sm.seq hT, c, ?_⟩
      refine ⟨_, rfl, .inl ⟨rfl, _, SqL.of hqs⟩, _, rfl, _, rfl, (by show 2 ≤ sizeLine; decide), fun tp htp => ?_⟩
      have ntp : p ≠ tp := ne_of_none hqs htp
      have hq1 : upd H' tp (.tup [.int (j : Int), .int (tokenEnd t j : Int)]) p = some (.lst (qs.map V.ref)) := by
        rw [upd_ne ntp]
        exact hqs
      refine ⟨p, _, _, rfl, rfl, hq1, (by rw [List.length_map, htu.len]; exact Nat.lt_of_le_of_lt hlacc (by decide)), ?_⟩
      have hp0 : H p = none := hp
      have sm2 : Same H (upd (upd H' tp (.tup [.int (j : Int), .int (tokenEnd t j : Int)])) p (.lst (qs.map V.ref ++ [.ref tp]))) := fun b o e => by
        rw [upd_ne (ne_of_none e hp0), upd_ne (ne_of_none (sm b o e) htp)]
        exact sm b o e
      have tk2 : TokL (upd (upd H' tp (.tup [.int (j : Int), .int (tokenEnd t j : Int)])) p (.lst (qs.map V.ref ++ [.ref tp]))) p (acc ++ [(j, tokenEnd t j)]) := by
        refine ⟨qs ++ [tp], ?_, ?_⟩
        · rw [upd_same, List.map_append]
          rfl
        · refine TupsAt.snoc ?_ (htu.up fun b xs e => ?_)
          · rw [upd_ne ntp.symm]
            exact upd_same
          · rw [upd_ne (fun z => by rw [z, hqs] at e; cases e), upd_ne (ne_of_none e htp)]
            exact e
      refine ⟨_, rfl, _, rfl, rfl, _, rfl, ?_⟩
      rw [dec_nat (a := tokenEnd t j) (b := j) rfl rfl]
      by_cases c2 : tokenEnd t j = j
      · rw [decide_eq_true c2]
        refine iteT ⟨_, rfl, ?_⟩
        rw [toksAt_bad c c2] at eacc
        refine q _ p sm2 hp0 ?_
        rw [← eacc]
        rw [c2] at tk2 ⊢
        exact tk2
      · rw [decide_eq_false c2]
        have h1 := tokenEnd_ge t j
        have h2 := tokenEnd_le c
        have h3 := blanksEnd_ge t (tokenEnd t j)
        refine iteF ⟨_, rfl, _, rfl, a, t, tokenEnd t j, rfl, sm2.seq hT, h2, ?_⟩
        refine ⟨t.length - blanksEnd t (tokenEnd t j), by omega, _, _, _, rfl, sm2, tk2, blanksEnd_le h2, rfl, ?_⟩
        rw [toksAt_step c c2] at eacc
        rw [List.append_assoc]
        exact eacc
    · rw [decide_eq_false (show ¬ (j : Int) < (t.length : Int) by omega)]
      refine iteF ⟨_, rfl, ?_⟩
      rw [toksAt_end c, List.append_nil] at eacc
      rw [← eacc] at q
      exact q _ p sm hp ⟨qs, hqs, htu⟩
end
end NAp

namespace NAp
open PySem PySem.Spec PyProof.Rows L2 NA NAx
open PySem.W (Codec)
section
variable {P : Program} {w : World} {K : PySem.W.Frag} {mg : Str → Option Value} {base : Heap} {h : Heap}
def spCanStand : Sp := fun vs H Q _ => ∃ (p : Int) (n : Nat), vs = [.int p, .int (n : Int)] ∧ Q (.bl (canStand p n)) H
theorem scCanStand : FnScope ["place", "byte"] ["place", "byte"] (defScope s_can_stand) := ⟨rfl, rfl, rfl, by decide +kernel, rfl, by decide +kernel, by decide +kernel⟩
theorem ok_can_stand {f f1 : Addr} {fd fd1 : FuncData} (F : Fun K "can_stand" "can_stand" s_can_stand f fd) (c0 : Cn mg "AT_START" 0) (c1 : Cn mg "AMONG_EXTENTS" 1) (c2 : Cn mg "AMONG_ITEMS" 2) (cC : Cn mg "COLON" 58) (cB : Cn mg "CLOSING" 93)
    (D1 : DefAt K mg "is_digit" s_is_digit ["byte"] f1 fd1) (G1 : FnOk P w K mg base CX0 1 f1 fd1 ["byte"] spDigit) : FnOk P w K mg base CX0 2 f fd ["place", "byte"] spCanStand := by
  refine F.ok scCanStand (fun vs H Q E h => ?_) (fun cdv A outer s H vs Q E hr h => ?_)
  · obtain ⟨p, n, rfl, _⟩ := h
    rfl
  · obtain ⟨p, n, rfl, q⟩ := h
    refine ⟨_, pss_cons (ps_if (pt_cmpR op_eq (pv 0) (pe_cn c0) (nomark _)) (pss_one (ps_ret (pe_and (pe_cmpR op_ne (pv 1) (pe_cn cC) (nomark _)) (pe_one (pe_cmpR op_ne (pv 1) (pe_cn cB) (nomark _)))))) pss_nil)
      (pss_cons (ps_if (pt_cmpR op_eq (pv 0) (pe_cn c1) (nomark _)) (pss_one (ps_ret (pe_or (pe_cmpR op_eq (pv 1) (pe_cn cC) (nomark _)) (pe_one (pe_call G1 hr rfl D1.g D1.fn.kp D1.b .nil pass0 (pa_cons (pv 1) pa_nil)))))) pss_nil)
      (pss_cons (ps_if (pt_cmpR op_eq (pv 0) (pe_cn c2) (nomark _)) (pss_one (ps_ret (pe_cmpR op_ne (pv 1) (pe_cn cC) (nomark _)))) pss_nil)
      (pss_one (ps_ret pe_bl)))), ?_⟩
    unfold canStand at q
    have e58 : decide (n = 58) = (n == 58) := rfl
    have e93 : decide (n = 93) = (n == 93) := rfl
    refine ⟨_, rfl, rfl, _, rfl, ?_⟩
    rw [decI]
    by_cases k0 : p = 0
    · rw [decide_eq_true k0]
      rw [if_pos k0] at q
      refine iteT ⟨_, rfl, rfl, _, rfl, ?_⟩
      rw [dec_k (b := 58) 58 rfl]
      by_cases k : n = 58
      · rw [k] at q ⊢
        exact q
      · rw [decide_eq_false k]
        refine iteT ⟨_, rfl, rfl, ?_⟩
        rw [dec_k (b := 93) 93 rfl, e93]
        rw [bne_iff_ne.mpr k] at q
        exact q
    · rw [decide_eq_false k0]
      rw [if_neg k0] at q
      refine iteF ⟨_, rfl, rfl, _, rfl, ?_⟩
      rw [decI]
      by_cases k1 : p = 1
      · rw [decide_eq_true k1]
        rw [if_pos k1] at q
        refine iteT ⟨_, rfl, rfl, _, rfl, ?_⟩
        rw [dec_k (b := 58) 58 rfl]
        by_cases k : n = 58
        · rw [k] at q ⊢
          exact q
        · rw [decide_eq_false k]
          refine iteF ⟨_, rfl, n, rfl, ?_⟩
          rw [show (n == 58) = false from beq_eq_false_iff_ne.mpr k] at q
          exact q
      · rw [decide_eq_false k1]
        rw [if_neg k1] at q
        refine iteF ⟨_, rfl, rfl, _, rfl, ?_⟩
        rw [decI]
        by_cases k2 : p = 2
        · rw [decide_eq_true k2]
          rw [if_pos k2] at q
          refine iteT ⟨_, rfl, rfl, ?_⟩
          rw [dec_k (b := 58) 58 rfl, e58]
          exact q
        · rw [decide_eq_false k2]
          rw [if_neg k2] at q
          exact iteF q
end
end NAp

namespace NAp
open PySem PySem.Spec PyProof.Rows L2 NA NAx
open PySem.W (Codec)
section
variable {P : Program} {w : World} {K : PySem.W.Frag} {mg : Str → Option Value} {base : Heap} {h : Heap}
def spGoPast : Sp := fun vs H Q _ => ∃ (p : Addr) (l : List Int) (n : Nat), vs = [.ref p, .int (n : Int)] ∧ IL H p l ∧ 1 ≤ l.length ∧ (n = 93 → 2 ≤ l.length) ∧ l.length ≤ 9000 ∧ ∀ H', IL H' p (goPast l n) → But p H H' → Q .non H'
theorem scGoPast : FnScope ["places", "byte"] ["places", "byte"] (defScope s_go_past) := ⟨rfl, rfl, rfl, by decide +kernel, rfl, by decide +kernel, by decide +kernel⟩
theorem ok_go_past {f : Addr} {fd : FuncData} (F : Fun K "go_past" "go_past" s_go_past f fd) (c1 : Cn mg "AMONG_EXTENTS" 1) (c2 : Cn mg "AMONG_ITEMS" 2) (c3 : Cn mg "AT_END" 3) (cO : Cn mg "OPENING" 91) (cC : Cn mg "COLON" 58) (cB : Cn mg "CLOSING" 93)
    (hlen : mg "len" = none) : FnOk P w K mg base CX0 1 f fd ["places", "byte"] spGoPast := by
  refine F.ok scGoPast (fun vs H Q E h => ?_) (fun cdv A outer s H vs Q E hr h => ?_)
  · obtain ⟨p, l, n, rfl, _⟩ := h
    rfl
  · obtain ⟨p, l, n, rfl, hp, h1, h93, h9, q⟩ := h
    refine ⟨_, pss_cons (ps_if (pt_cmpR op_eq (pv 1) (pe_cn cO) (nomark _)) (pss_one (ps_expr (pe_bm PySem.F.plainAttrs_list PySem.F.slot_list_append PySem.F.type_list_append mt_append (pv 0) (pa_cons (pe_cn c1) pa_nil))))
        (pss_one (ps_if (pt_cmpR op_eq (pv 1) (pe_cn cC) (nomark _)) (pss_one (ps_asg (pe_cn c2) (pg_sub (pv 0) (pe_un un_neg pe_int) set_list)))
          (pss_one (ps_if (pt_cmpR op_eq (pv 1) (pe_cn cB) (nomark _)) (pss_one (ps_expr (pe_bm0 PySem.F.plainAttrs_list PySem.F.slot_list_pop PySem.F.type_list_pop mt_pop (pv 0)))) pss_nil)))))
      (pss_one (ps_if (pt_cmpR op_eq (pe_callB call_len_seq (by rfl) hlen PySem.boot_len (pa_cons (pv 0) pa_nil)) pe_int (nomark _)) (pss_one (ps_asg (pe_cn c3) (pg_sub (pv 0) pe_int set_list))) pss_nil)), ?_⟩
    -- the second half, from any heap in which the first has ended
    have back : ∀ H1 : Hp, IL H1 p (goPast1 l n) → But p H H1 → 1 ≤ (goPast1 l n).length →
        tIfS (tTest (tOp rEq (tCB (fun xs H Q => ∃ p ys, xs = [.ref p] ∧ (SqL K H p ys ∨ SqT K H p ys) ∧ Q (.int ys.length) H) (tCons (tVar 0) tNil)) (tC (.int 1)))) (tAsg (tC (.int 3)) (gSub (tVar 0) (tC (.int 0)) rSetL)) tNext
          { nx := fun _ H' => Q .non H', rt := Q } (L2.start ["places", "byte"] [.ref p, .int (n : Int)]) H1 := by
      intro H1 hp1 hb hne
      refine ⟨_, rfl, p, _, rfl, .inl (SqL.of hp1), rfl, _, rfl, ?_⟩
      rw [List.length_map, dec_k (b := 1) 1 rfl]
      by_cases k : (goPast1 l n).length = 1
      · rw [decide_eq_true k]
        refine iteT ⟨_, rfl, p, _, 0, 0, rfl, rfl, hp1, (by rw [List.length_map]; exact ixN_zero hne), ?_⟩
        refine q _ ?_ (hb.trans But.upd)
        show upd H1 p _ p = _
        rw [upd_same]
        unfold goPast
        rw [if_pos k, List.map_set]
      · rw [decide_eq_false k]
        refine iteF (q _ ?_ hb)
        show H1 p = _
        rw [hp1]
        unfold goPast
        rw [if_neg k]
    refine ⟨_, rfl, rfl, _, rfl, ?_⟩
    rw [dec_k (b := 91) 91 rfl]
    by_cases k1 : n = 91
    · rw [decide_eq_true k1]
      refine iteT ⟨_, rfl, .inl ⟨rfl, _, SqL.of hp⟩, p, _, _, rfl, rfl, hp, (by rw [List.length_map]; exact Nat.lt_of_le_of_lt h9 (by decide)), ?_⟩
      have e : goPast1 l n = l ++ [1] := by
        unfold goPast1
        rw [if_pos k1]
      refine back _ ?_ But.upd (by rw [e]; simp)
      show upd H p _ p = _
      rw [upd_same, e, List.map_append]
      rfl
    · rw [decide_eq_false k1]
      refine iteF ⟨_, rfl, rfl, _, rfl, ?_⟩
      rw [dec_k (b := 58) 58 rfl]
      by_cases k2 : n = 58
      · rw [decide_eq_true k2]
        have e : goPast1 l n = l.set (l.length - 1) 2 := by
          unfold goPast1
          rw [if_neg k1, if_pos k2]
        refine iteT ⟨_, rfl, _, rfl, p, _, -1, l.length - 1, rfl, rfl, hp, (by rw [List.length_map]; exact ixN_last h1), ?_⟩
        refine back _ ?_ But.upd (by rw [e, List.length_set]; exact h1)
        show upd H p _ p = _
        rw [upd_same, e, List.map_set]
      · rw [decide_eq_false k2]
        refine iteF ⟨_, rfl, rfl, _, rfl, ?_⟩
        rw [dec_k (b := 93) 93 rfl]
        by_cases k3 : n = 93
        · rw [decide_eq_true k3]
          have e : goPast1 l n = l.dropLast := by
            unfold goPast1
            rw [if_neg k1, if_neg k2, if_pos k3]
          have hl2 := h93 k3
          refine iteT ⟨_, rfl, .inl ⟨rfl, _, SqL.of hp⟩, p, _, .int (l.getLastD 0), rfl, rfl, hp, ?_, ?_⟩
          · rw [List.length_map, List.getElem?_map, getLast_at l (by intro z; rw [z] at h1; simp at h1)]
            rfl
          refine back _ ?_ But.upd (by rw [e, List.length_dropLast]; omega)
          show upd H p _ p = _
          rw [upd_same, e, List.map_dropLast]
        · rw [decide_eq_false k3]
          have e : goPast1 l n = l := by
            unfold goPast1
            rw [if_neg k1, if_neg k2, if_neg k3]
          refine iteF (back H (e.symm ▸ hp) (fun b o _ z => z) (by rw [e]; exact h1))
end
end NAp

namespace NAp
open PySem PySem.Spec PyProof.Rows L2 NA NAx
open PySem.W (Codec)
section
variable {P : Program} {w : World} {K : PySem.W.Frag} {mg : Str → Option Value} {base : Heap} {h : Heap}
def spFault (K : PySem.W.Frag) : Sp := fun vs H Q _ => ∃ (a tp : Addr) (t : List Nat) (r : List (Nat × Nat)), vs = [.ref a, .ref tp] ∧ Tx K H a t ∧ TokL H tp r ∧ Genuine t r ∧ r.length ≤ 8192 ∧
  ∀ H', Same H H' → Q (optV (fault t [0] r)) H'
theorem scFault : FnScope ["text", "tokens", "places", "start", "end"] ["text", "tokens"] (defScope s_fault_position) := ⟨rfl, rfl, rfl, by decide +kernel, rfl, by decide +kernel, by decide +kernel⟩
theorem ok_fault {f f1 f2 : Addr} {fd fd1 fd2 : FuncData} (F : Fun K "fault_position" "fault_position" s_fault_position f fd) (c0 : Cn mg "AT_START" 0) (c3 : Cn mg "AT_END" 3) (hlen : mg "len" = none)
    (D1 : DefAt K mg "can_stand" s_can_stand ["place", "byte"] f1 fd1) (G1 : FnOk P w K mg base CX0 2 f1 fd1 ["place", "byte"] spCanStand)
    (D2 : DefAt K mg "go_past" s_go_past ["places", "byte"] f2 fd2) (G2 : FnOk P w K mg base CX0 1 f2 fd2 ["places", "byte"] spGoPast) : FnOk P w K mg base CX0 3 f fd ["text", "tokens"] (spFault K) := by
  refine F.ok scFault (fun vs H Q E h => ?_) (fun cdv A outer s H vs Q E hr h => ?_)
  · obtain ⟨a, tp, t, r, rfl, _⟩ := h
    rfl
  · obtain ⟨a, tp, t, r, rfl, hT, ⟨qs, hqs, htu⟩, hg, hl, q⟩ := h
    have hr1 : Room 1 _ := hr.mono (by decide)
    refine ⟨_, pss_cons (ps_set (i := 2) scFault.nd rfl (Or.inl rfl) (pe_lst (pa_cons (pe_cn c0) pa_nil)))
      (pss_cons (ps_for PassesOwn.never rfl (pi_list (pv 1)) (pg_tup rfl (pgs_cons (pg_name (i := 3) scFault.nd rfl (Or.inl rfl)) (pgs_cons (pg_name (i := 4) scFault.nd rfl (Or.inl rfl)) pgs_nil)))
        (pss_cons (ps_if (PW.pt (pw_or (pt_cmpR op_eq (pv 4) (pv 3) (nomark _)) (pw_or1 (pt_not (pt_val (pe_call G1 hr rfl D1.g D1.fn.kp D1.b .nil pass0 (pa_cons (pe_ix ix_list (pv 2) (pe_un un_neg pe_int) (fun _ _ => rfl)) (pa_cons (pe_ix ix_list (pv 0) (pv 3) (fun _ _ => rfl)) pa_nil))))))))
          (pss_one (ps_ret (pv 3))) pss_nil)
        (pss_one (ps_expr (pe_call G2 hr1 rfl D2.g D2.fn.kp D2.b .nil pass0 (pa_cons (pv 2) (pa_cons (pe_ix ix_list (pv 0) (pv 3) (fun _ _ => rfl)) pa_nil)))))))
      (pss_one (ps_ret (pe_ifExp (pt_cmpR op_eq (pe_ix ix_list (pv 2) (pe_un un_neg pe_int) (fun _ _ => rfl)) (pe_cn c3) (nomark _)) pe_non (pe_callB call_len_seq (by rfl) hlen PySem.boot_len (pa_cons (pv 0) pa_nil)))))), ?_⟩
    refine ⟨(by show 1 ≤ sizeLine; decide), fun pl hpl => ?_⟩
    have s0 : Same H (upd H pl (.lst [.int 0])) := fun b o e => by
      rw [upd_ne (ne_of_none e hpl)]
      exact e
    refine ⟨_, rfl, tp, rfl, ⟨_, SqL.of (s0 _ _ hqs)⟩, for_list (K := K) (a := tp) (xs := qs.map V.ref) (fun i σ H' => ∃ (v1 v2 : Option V) (st : PSt), σ = [some (.ref a), some (.ref tp), some (.ref pl), v1, v2] ∧ Same H H' ∧ IL H' pl (enc st) ∧
        (enc st).length ≤ i + 1 ∧ fault t (enc st) (r.drop i) = fault t [0] r) ⟨none, none, .val [], rfl, s0, upd_same, Nat.le_refl _, rfl⟩ (fun i σ H' _ ⟨_, _, _, _, s5, _⟩ => SqL.of (s5 _ _ hqs)) ?_ ?_⟩
    · rintro i y σ H' hi ⟨v1, v2, st, rfl, sm, hil, hle, hf⟩
      obtain ⟨qa, hqa, rfl⟩ : ∃ z, qs[i]? = some z ∧ y = V.ref z := by
        rw [List.getElem?_map] at hi
        obtain ⟨z, e1, e2⟩ := Option.map_eq_some_iff.mp hi
        exact ⟨z, e1, e2.symm⟩
      obtain ⟨x, hx, htx⟩ := htu.at hqa
      have hxr : x ∈ r := List.mem_of_getElem? hx
      obtain ⟨g1, g2⟩ := hg x hxr
      have hi2 : i < r.length := (List.getElem?_eq_some_iff.mp hx).1
      have hdrop : r.drop i = x :: r.drop (i + 1) := by
        rw [List.drop_eq_getElem_cons hi2]
        congr 1
        exact (List.getElem?_eq_some_iff.mp hx).2
      have hne : enc st ≠ [] := fun z => by
        have := enc_pos st
        rw [z] at this
        simp at this
      have hf' : fault t [0] r = if x.2 = x.1 ∨ canStand ((enc st).getLastD 0) (t.getD x.1 0) = false then some x.1 else fault t (goPast (enc st) (t.getD x.1 0)) (r.drop (i + 1)) := by
        rw [← hf, hdrop]
        rfl
      refine ⟨qa, _, rfl, SqT.of (sm _ _ htx), rfl, _, _, rfl, _, _, rfl, rfl, ?_⟩
      refine ⟨_, rfl, _, rfl, rfl, _, rfl, ?_⟩
      rw [dec_nat (a := x.2) (b := x.1) rfl rfl]
      by_cases k1 : x.2 = x.1
      · rw [decide_eq_true k1]
        rw [if_pos (.inl k1)] at hf'
        refine iteT (iteT ⟨_, rfl, ?_⟩)
        rw [hf'] at q
        exact q _ sm
      · rw [decide_eq_false k1]
        refine iteF ⟨_, rfl, _, rfl, pl, _, _, _, rfl, rfl, SqL.of hil, int_last _ hne, _, rfl, _, rfl, a, _, _, _, rfl, rfl, sm.seq hT, bts_at g1, _, _, rfl, _, rfl, ?_⟩
        by_cases k2 : canStand ((enc st).getLastD 0) (t.getD x.1 0) = true
        · rw [k2]
          rw [if_neg (by rintro (z | z); exact k1 z; rw [k2] at z; cases z)] at hf'
          obtain ⟨st', e1⟩ : ∃ st', goPast (enc st) (t.getD x.1 0) = enc st' := by
            have S := step_like (t := t) (s := x.1) (e := x.2) g2 k1 st
            cases e : stp st (tokOf t x.1 x.2) with
            | none =>
              have := S.1 e
              rw [k2] at this
              cases this
            | some st' => exact ⟨st', (S.2 st' e).2⟩
          refine iteF ⟨_, rfl, _, rfl, _, rfl, a, _, _, _, rfl, rfl, sm.seq hT, bts_at g1, pl, enc st, _, rfl, hil, enc_pos st, fun z => enc_pop (st := st) (by rw [← z]; exact k2), by omega, fun H2 h2 b2 => ?_⟩
          refine ⟨_, _, st', rfl, b2.same hpl sm, e1 ▸ h2, ?_, ?_⟩
          · have := goPast_len (enc st) (t.getD x.1 0)
            rw [e1] at this
            omega
          · rw [← e1]
            exact hf'.symm
        · rw [Bool.eq_false_iff.mpr k2]
          rw [if_pos (.inr (Bool.eq_false_iff.mpr k2))] at hf'
          refine iteT ⟨_, rfl, ?_⟩
          rw [hf'] at q
          exact q _ sm
    · rintro σ H' ⟨v1, v2, st, rfl, sm, hil, hle, hf⟩
      rw [List.length_map, htu.len, List.drop_length] at hf
      have hne : enc st ≠ [] := fun z => by
        have := enc_pos st
        rw [z] at this
        simp at this
      refine ⟨_, rfl, _, rfl, pl, _, _, _, rfl, rfl, SqL.of hil, int_last _ hne, rfl, _, rfl, ?_⟩
      rw [decI]
      have hf' : fault t [0] r = if (enc st).getLastD 0 = 3 then none else some t.length := by
        rw [← hf]
        rfl
      by_cases k : (enc st).getLastD 0 = 3
      · rw [decide_eq_true k]
        rw [if_pos k] at hf'
        refine iteT ?_
        rw [hf'] at q
        exact q _ sm
      · rw [decide_eq_false k]
        rw [if_neg k] at hf'
        refine iteF ⟨_, rfl, a, _, rfl, .inl (sm.seq hT), ?_⟩
        rw [bts_len]
        rw [hf'] at q
        exact q _ sm
end
end NAp

namespace NAp
open PySem PySem.Spec PyProof.Rows L2 NA NAx
open PySem.W (Codec)
section
variable {P : Program} {w : World} {K : PySem.W.Frag} {mg : Str → Option Value} {base : Heap} {h : Heap}
def spCheckLength (K : PySem.W.Frag) (CL : Addr) : Sp := fun vs H Q E => ∃ (a : Addr) (t : List Nat), vs = [.ref a] ∧ Tx K H a t ∧ (8192 < t.length → Out E CL (-1) H) ∧ (t.length ≤ 8192 → Q .non H)
theorem scCheckLength : FnScope ["text"] ["text"] (defScope s_check_length) := ⟨rfl, rfl, rfl, by decide +kernel, rfl, by decide +kernel, by decide +kernel⟩
theorem ok_check_length {f CR CL fL : Addr} {fd fdL : FuncData} (F : Fun K "check_length" "check_length" s_check_length f fd) (hlen : mg "len" = none) (cL : Cn mg "LONGEST_TEXT" 8192) (T : RefCls K mg CR "LongRefusal" CL fL)
    (G : FnOk P w K mg base CX0 2 fL fdL ["self"] (spOInit K (-1))) (hb : Binds K fdL ["self"] []) : FnOk P w K mg base (L2.CX P w) 4 f fd ["text"] (spCheckLength K CL) := by
  refine F.okX scCheckLength (fun vs H Q E h => ?_) (fun cdv A outer s H vs Q E hr h => ?_)
  · obtain ⟨a, t, rfl, _⟩ := h
    rfl
  · obtain ⟨a, t, rfl, hT, hE, hQ⟩ := h
    refine ⟨_, pss_one (ps_if (pt_cmpR op_gt (pe_callB call_len_seq (by rfl) hlen PySem.boot_len (pa_cons (pv 0) pa_nil)) (pe_cn cL) (nomark _)) (pss_one (ps_refuse rfl (takes_of rfl rfl rfl rfl) T G hr hb (by rfl))) pss_nil), ?_⟩
    refine ⟨_, rfl, a, _, rfl, .inl hT, _, _, rfl, rfl, _, rfl, ?_⟩
    rw [bts_len]
    by_cases c : 8192 < t.length
    · rw [decide_eq_true (show (8192 : Int) < (t.length : Int) by omega)]
      exact iteT (hE c)
    · rw [decide_eq_false (show ¬ (8192 : Int) < (t.length : Int) by omega)]
      exact iteF (hQ (by omega))
end
end NAp

namespace NAp
open PySem PySem.Spec PyProof.Rows L2 NA NAx
open PySem.W (Codec)
section
variable {P : Program} {w : World} {K : PySem.W.Frag} {mg : Str → Option Value} {base : Heap} {h : Heap}
/-! ### answered: try: return work() / except Refusal as refusal: return [refusal.number] -/
def sgAns : Scope := { kind := .function, names := [("work", .local), ("refusal", .local), ("Refusal", .globalImplicit)], isGenerator := false, isCoroutine := false, more := [] }
def bgAns (p1 p2 p3 p4 p5 p6 p7 p8 p9 p10 : Pos) : List Stmt :=
  [.Try [.Return (some (.Call (.Name "work" p1) [] [] p2)) p3] [.ExceptHandler (some (.Name "Refusal" p4)) (some "refusal") [.Return (some (.List [.Attribute (.Name "refusal" p5) "number" p6] p7)) p8] p9] [] [] p10]
/-- what answered makes of the lambda's reading -/
def TAns (K : PySem.W.Frag) (CR : Addr) : (XK → Hp → VK → Prop) → Hp → VK → Prop := fun tl H Q =>
  tl (fun cls d H' => ∃ (C dd : Addr) (n : Int), cls = .ref C ∧ d = some dd ∧ PySem.W.exmOne K (.ref C) (.ref CR) = some true ∧ XfC K C ∧ PySem.W.findIn K (.ref C) "number" = some none ∧ H' dd = some (.xd [("number", .int n)]) ∧
    ∀ p, H' p = none → Q (.ref p) (upd H' p (.lst [.int n]))) H Q
theorem ans_gives {X : Cx} {q : Str} {g CR : Addr} {cdg : Value} {p1 p2 p3 p4 p5 p6 p7 p8 p9 p10 : Pos} (hme : X.mg "Refusal" = some (.ref CR)) :
    LamX.GivesTo X ["work", "refusal"] "answered" sgAns g cdg (bgAns p1 p2 p3 p4 p5 p6 p7 p8 p9 p10) "work" q (TAns X.K CR) := by
  intro f c' s H Q tl act hc h
  refine ⟨_, pss_one (ps_try_as (X := (cxOf C8.CX0 X.prog X.w X.K X.mg X.base ["work", "refusal"] "answered" sgAns g cdg X.A X.stack s H C8.E0).nox) (i := 1) (c := .ref CR)
      (tb := fun W D σ H => ∃ Ech : XK, (∀ cls d (σ' : L2.St) H', Ech cls d H' → σ'.length = 2 → W cls d σ' H') ∧ σ[0]? = some (some (.ref f)) ∧ H c' = some (LamX.CodeO c' q) ∧ tl Ech H D.rt)
      rfl rfl (show (["work", "refusal"] : List Str).Nodup by decide +kernel) rfl rfl ⟨rfl, by decide, .inl hme⟩ LamX.takes0 (fun W pn xe tk _ => ?_)
      (fun a oe cls d pn hz hf => pss_one (ps_ret (pe_lst (by exact (pa_cons (pe_xfA hz hf (pv 1)) pa_nil)))))), ?_⟩
  · refine ⟨fun pins s' σ H' D I h' => ?_⟩
    obtain ⟨Ech, hW, h1, h2, h3⟩ := h'
    have tk' : Takes ((cxOf C8.CX0 X.prog X.w X.K X.mg X.base ["work", "refusal"] "answered" sgAns g cdg X.A X.stack s H C8.E0).nox.tr pn xe) (fun cls d σ H => σ.length = 2 → W cls d σ H) :=
      fun u s' ⟨a, B, sI, pins, σ, H, cls, d, e, I, nb, up, sky, na, os, ag, k⟩ => tk u s' ⟨a, B, sI, pins, σ, H, cls, d, e, I, nb, up, sky, na, os, ag, k I.len⟩
    exact (pss_one (ps_ret (pos := p3) (act _ pn xe Ech p1 p2 tk' hW))).run pins s' σ H' D I ⟨h1, h2, h3⟩
  · refine ⟨_, ?_, rfl, hc, h⟩
    rintro cls d σ' H' ⟨C, dd, n, rfl, rfl, ex, xf, no, hd, k⟩ hl
    refine ⟨true, ex, fun _ a ha => ?_, fun z => Bool.noConfusion z⟩
    have hs : (σ'.set 1 (some (V.ref a)))[1]? = some (some (V.ref a)) := by
      rw [List.getElem?_set_self (by omega)]
    refine ⟨_, hs, rfl, C, rfl, xf, no, dd, _, .int n, rfl, hd, ?_, (by show 1 ≤ sizeLine; decide), k⟩
    simp [List.lookup]
theorem scAnswered : FnScope ["work", "refusal"] ["work"] (defScope s_answered) := ⟨rfl, rfl, rfl, by decide +kernel, rfl, by decide +kernel, by decide +kernel⟩
/-- what answered wishes of a refusal -/
def AnsE (K : PySem.W.Frag) (CR : Addr) (Q : VK) : XK := fun cls d H' => ∃ (C dd : Addr) (n : Int), cls = .ref C ∧ d = some dd ∧ PySem.W.exmOne K (.ref C) (.ref CR) = some true ∧ XfC K C ∧ PySem.W.findIn K (.ref C) "number" = some none ∧ H' dd = some (.xd [("number", .int n)]) ∧
  ∀ p, H' p = none → Q (.ref p) (upd H' p (.lst [.int n]))
theorem ans_out {CR : Addr} {Q : VK} {n : Int} {H' : Hp} (q : ∀ (H2 : Hp) (p : Addr), H2 p = some (.lst ([n].map V.int)) → Q (.ref p) H2) : OutR K mg CR (AnsE K CR Q) n H' := fun x C fI T d hd =>
  ⟨C, d, n, rfl, rfl, T.te, T.xf, T.no, upd_same, fun p _ => q _ p upd_same⟩
/-- a call of the desk over one text v: answered(lambda: ..) -/
theorem desk_one {x : Str} {st : Stmt} {f fA c T CR : Addr} {fdA : FuncData} {oc kV doc pm ct : Value} {od an : Option Addr} {osl : Array (Option Value)} {k : Nat} {due : List Nat → List Int} {params : Arguments} {body : Expr} {scope : Scope} {p1 p2 p3 p4 : Pos} {t : XK → TE}
    (hst : defBody st = [.Return (some (.Call (.Name "answered" p1) [.Lambda params body scope p2] [] p3)) p4])
    (sc : FnScope ["v"] ["v"] (defScope st)) (hgl : (defScope st).names.lookup ("answered" : Str) = some .globalImplicit)
    (lk : K.lookup f = some ⟨oc, od, .func (PySem.W.fnOf x x (defArgs st) (defBody st) (defScope st) .none kV doc pm an (.ref c) ct), osl⟩) (hcd : PySem.W.codeIn K (.ref c) x = true)
    (TB : LamX.TabB base mg c T) (DA : DefAt K mg "answered" s_answered ["work"] fA fdA) (gR : mg "Refusal" = some (.ref CR)) (LS : LamX.LamS (defScope st) scope)
    (hdef : ∀ env, defaultsOf params env = ([], [])) (hbind : ∀ (q : Str) (cl : List (Str × Addr)) (pm cv ctv : Value), bindArgs (PySem.W.kla_fn "<lambda>" q params body scope cl pm cv ctv) ⟨[], []⟩ = pure [])
    (hbody : ∀ (cdv : Value) (s0 : Shared) (H0 : Hp) (E0 : XK) (A0 : Around) (outer0 : List Env) (A : Around) (outer : List Env) (s : Shared) (H : Hp) (E : XK) (f' c' : Addr),
      Room k (A.deeper (LamX.lamEnv (cxOf CX0 P w K mg base ["v"] x (defScope st) f cdv A0 outer0 s0 H0 E0) scope s.heap.objs.size f' c')) → PE (LamX.lamCx (cxOf CX0 P w K mg base ["v"] x (defScope st) f cdv A0 outer0 s0 H0 E0) A outer s H E scope f' c') body (t E))
    (hread : ∀ (a : Addr) (tx : List Nat) (H : Hp) (Q : VK), Tx K H a tx → tx.length ≤ 20000 → (∀ (H' : Hp) (p : Addr), H' p = some (.lst ((due tx).map V.int)) → Q (.ref p) H') → t (AnsE K CR Q) (L2.start ["v"] [.ref a]) H Q) :
    FnOk P w K mg base CX0 (k + 3) f (PySem.W.fnOf x x (defArgs st) (defBody st) (defScope st) .none kV doc pm an (.ref c) ct) ["v"] (spDesk1 K T due) := by
  obtain ⟨oc1, od1, kV1, doc1, pm1, an1, cdv1, ct1, osl1, rfl, lk1, hcd1⟩ := DA.fn.ex
  refine fn_of lk hcd sc (fun vs H Q E h => ?_) (fun A outer s H vs Q E hr h => ?_)
  · obtain ⟨a, tx, rfl, _⟩ := h
    rfl
  · obtain ⟨a, tx, rfl, hT, hl, hTb, q⟩ := h
    rw [hst]
    refine ⟨_, pss_one (ps_ret (LamX.pe_lamcall (k := k) (T := [(T, _)]) (TT := TAns K CR) (Ng := ["work", "refusal"]) (t := t) hgl DA.g DA.fn.kp lk1 hcd1 DA.b scAnswered rfl (.inl rfl) (ans_gives gR) TB rfl
      (List.mem_singleton.mpr rfl) (fun p hp _ => by rw [List.mem_singleton.mp hp]) hr LS (hdef _) hbind
      (fun A' outer' s' H' E' f' c' hr' => hbody (.ref c) s H E A outer A' outer' s' H' E' f' c' hr'))), ?_⟩
    refine ⟨fun p hp => ?_, fun H1 e1 t1 => ?_⟩
    · rw [List.mem_singleton.mp hp]
      exact LamX.TabS.nil hTb
    · exact hread a tx H1 Q (ext_seq e1 hT) hl q
end
end NAp

namespace NAp
open PySem PySem.Spec PyProof.Rows L2 NA NAx
open PySem.W (Codec)
section
variable {P : Program} {w : World} {K : PySem.W.Frag} {mg : Str → Option Value} {base : Heap} {h : Heap}
/-! ### numbers and arrays in the heap -/
/-- the attributes of an array -/
def naF (ea pa : Addr) (d s : Nat) : List (Str × V) := [("extents", .ref ea), ("parts", .ref pa), ("depth", .int (d : Int)), ("size", .int (s : Int))]
mutual
/-- x stands for the value u; all of it lies in F -/
inductive Rep (C : Addr) (F : Hp) : V → Vaarrm.V → Prop
  | num (n : Int) : Rep C F (.int n) (.num n)
  | arr {a dx ea pa : Addr} {s : List Nat} {l : List Vaarrm.V} {vs : List V} (ha : F a = some (.ins C dx (naF ea pa (1 + depthVs l) (1 + sizeVs l)))) (he : F ea = some (.lst (bts s))) (hp : F pa = some (.lst vs)) (hr : Reps C F vs l) : Rep C F (.ref a) (.arr s l)
inductive Reps (C : Addr) (F : Hp) : List V → List Vaarrm.V → Prop
  | nil : Reps C F [] []
  | cons {v : V} {u : Vaarrm.V} {vs : List V} {l : List Vaarrm.V} (h : Rep C F v u) (r : Reps C F vs l) : Reps C F (v :: vs) (u :: l)
end
mutual
theorem Rep.up {C : Addr} {F F' : Hp} (e : Same F F') : ∀ {v : V} {u : Vaarrm.V}, Rep C F v u → Rep C F' v u
  | _, _, .num n => .num n
  | _, _, .arr ha he hp hr => .arr (e _ _ ha) (e _ _ he) (e _ _ hp) (Reps.up e hr)
theorem Reps.up {C : Addr} {F F' : Hp} (e : Same F F') : ∀ {vs : List V} {l : List Vaarrm.V}, Reps C F vs l → Reps C F' vs l
  | _, _, .nil => .nil
  | _, _, .cons h r => .cons (Rep.up e h) (Reps.up e r)
end
theorem Reps.len {C : Addr} {F : Hp} : ∀ {vs : List V} {l : List Vaarrm.V}, Reps C F vs l → vs.length = l.length
  | _, _, .nil => rfl
  | _, _, .cons _ r => by rw [List.length_cons, List.length_cons, Reps.len r]
theorem Reps.at {C : Addr} {F : Hp} : ∀ {vs : List V} {l : List Vaarrm.V} {i : Nat} {v : V}, Reps C F vs l → vs[i]? = some v → ∃ u, l[i]? = some u ∧ Rep C F v u
  | _, _, i, _, .nil, e => by simp at e
  | _, _, 0, _, .cons h _, e => by
    cases Option.some.inj e
    exact ⟨_, rfl, h⟩
  | _, _, i + 1, _, .cons _ r, e => Reps.at (i := i) r e
theorem Reps.snoc {C : Addr} {F : Hp} {v : V} {u : Vaarrm.V} (h : Rep C F v u) : ∀ {vs : List V} {l : List Vaarrm.V}, Reps C F vs l → Reps C F (vs ++ [v]) (l ++ [u])
  | _, _, .nil => .cons h .nil
  | _, _, .cons h' r => .cons h' (Reps.snoc h r)
/-- the heap goes from H to H', what stands fast in it from F to F': nothing that was there is touched, and what stands fast now either did or is new -/
structure Grow (F H F' H' : Hp) : Prop where
  hh : Same H H'
  ff : Same F F'
  fh : Same F' H'
  new : ∀ b o, H b = some o → F b = none → F' b = none
theorem Grow.refl {F H : Hp} (e : Same F H) : Grow F H F H := ⟨Same.refl _, Same.refl _, e, fun _ _ _ h => h⟩
theorem Grow.trans {F H F1 H1 F2 H2 : Hp} (a : Grow F H F1 H1) (b : Grow F1 H1 F2 H2) : Grow F H F2 H2 :=
  ⟨a.hh.trans b.hh, a.ff.trans b.ff, b.fh, fun c o h n => b.new c o (a.hh c o h) (a.new c o h n)⟩
/-- other objects come and stay beside -/
theorem Grow.more {F H F1 H1 H2 : Hp} (a : Grow F H F1 H1) (b : Same H1 H2) : Grow F H F1 H2 := ⟨a.hh.trans b, a.ff, a.fh.trans b, a.new⟩
theorem same_none {F H : Hp} {p : Addr} (e : Same F H) (h : H p = none) : F p = none := e.free h
theorem same_upd {F H : Hp} {p : Addr} {o : HO} (e : Same F H) (n : F p = none) : Same F (upd H p o) := fun b u q => by
  rw [upd_ne (ne_of_none q n)]
  exact e b u q
theorem same_new {H : Hp} {p : Addr} {o : HO} (n : H p = none) : Same H (upd H p o) := same_upd (Same.refl H) n
theorem lk_here {k : Str} {v : V} {r : List (Str × V)} : List.lookup k ((k, v) :: r) = some v := by
  have e : (k == k) = true := beq_self_eq_true k
  simp only [List.lookup, e]
theorem lk_past {k g : Str} {v : V} {r : List (Str × V)} (h : (k == g) = false) : List.lookup k ((g, v) :: r) = List.lookup k r := by
  simp only [List.lookup, h]
section
variable {ea pa : Addr} {d s : Nat}
theorem naF_extents : (naF ea pa d s).lookup ("extents" : Str) = some (V.ref ea) := lk_here
theorem naF_parts : (naF ea pa d s).lookup ("parts" : Str) = some (V.ref pa) := (lk_past (by decide +kernel)).trans lk_here
theorem naF_depth : (naF ea pa d s).lookup ("depth" : Str) = some (V.int (d : Int)) := (lk_past (by decide +kernel)).trans ((lk_past (by decide +kernel)).trans lk_here)
theorem naF_size : (naF ea pa d s).lookup ("size" : Str) = some (V.int (s : Int)) := (lk_past (by decide +kernel)).trans ((lk_past (by decide +kernel)).trans ((lk_past (by decide +kernel)).trans lk_here))
end
/-- the class of the arrays, as the top has written it -/
structure NaC (K : PySem.W.Frag) (mg : Str → Option Value) (C fI : Addr) (fd : FuncData) : Prop where
  cl : Cls K C
  nE : NoAttr K C "extents"
  nP : NoAttr K C "parts"
  nD : NoAttr K C "depth"
  nS : NoAttr K C "size"
  g : mg "NestedArray" = some (.ref C)
  make : Mk K C fI
  fn : Fun K "__init__" "NestedArray.__init__" si_NestedArray fI fd
  b : Binds K fd ["self", "extents", "parts"] []
  ty : ∀ (H : Hp) (a dx : Addr) (fs : List (Str × V)), H a = some (.ins C dx fs) → TyX K H (.ref a) (.ref C)
  ni : PySem.W.kitOne K (.ref C) (.type "int") = some false
/-- a value is handed in -/
def spVal (C : Addr) (g : Vaarrm.V → V) : Sp := fun vs H Q _ => ∃ (v : V) (u : Vaarrm.V) (F : Hp), vs = [v] ∧ Same F H ∧ Rep C F v u ∧ Q (g u) H
theorem ip_mul {X : Cx} : PIp X .Mult (fun x y H Q => ∃ i j, x = .int i ∧ y = .int j ∧ CMul i j ∧ Q (.int (i * j)) H) := by
  intro pins s σ H x y v u Q I r1 r2 h
  obtain ⟨i, j, rfl, rfl, c, q⟩ := h
  obtain ⟨t, rfl⟩ := r1
  obtain ⟨t', rfl⟩ := r2
  exact PyProof.Rows.imul_int ⟨.int _, H, I.tok _, ⟨_, rfl⟩, q⟩ c.ok
theorem take_snoc {α : Type} {l : List α} {i : Nat} {u : α} (h : l[i]? = some u) : l.take (i + 1) = l.take i ++ [u] := by
  rw [List.take_add_one, h]
  rfl
theorem wipe_one {σ : L2.St} {i : Nat} {x : Option V} : wipe ((wipe σ [i]).set i x) [i] = wipe σ [i] := by
  show ((σ.set i none).set i x).set i none = σ.set i none
  rw [List.set_set, List.set_set]
theorem wipe_at {σ : L2.St} {i : Nat} {x : V} (h : i < σ.length) : ((wipe σ [i]).set i (some x))[i]? = some (some x) := by
  show ((σ.set i none).set i (some x))[i]? = _
  rw [List.set_set, List.getElem?_set_self h]
/-- [f(x) for x in xs], xs a list of values, f(x) a value by itself that tells something of x and leaves all as it was -/
theorem lc_vals {K : PySem.W.Frag} {C a : Addr} {ys : List V} {l : List Vaarrm.V} {F H : Hp} {σ : L2.St} {i : Nat} {tx te : TE} {Q : VK} (g : Vaarrm.V → V) (hx : ∀ Q', Q' (.ref a) H → tx σ H Q') (hi : i < σ.length) (ha : H a = some (.lst ys)) (sm : Same F H) (rp : Reps C F ys l) (hl : l.length ≤ 9000)
    (hte : ∀ (σ' : L2.St) (v : V) (u : Vaarrm.V) (H' : Hp) (Q' : VK), σ'[i]? = some (some v) → Same F H' → Rep C F v u → Q' (g u) H' → te σ' H' Q')
    (q : ∀ (D : Addr) (H' : Hp), H D = none → Same H H' → H' D = some (.lst (l.map g)) → Q (.ref D) H') : tLc (iList K tx) (gName i) tYes te [i] σ H Q := by
  refine hx _ ⟨a, rfl, ⟨_, SqL.of ha⟩, fun D hD => ?_⟩
  refine lc_list (K := K) (a := a) (xs := ys) (fun j H' => Same H H' ∧ H' D = some (.lst ((l.take j).map g))) ⟨same_new hD, upd_same⟩ (fun j H' _ hh => SqL.of (hh.1 _ _ ha)) ?_ ?_
  · rintro j y H' hj ⟨s1, hD1⟩
    obtain ⟨u, hu, ru⟩ := rp.at hj
    refine ⟨wipe_one, ?_⟩
    unfold tYes
    refine iteT ?_
    refine hte _ y u H' _ (wipe_at hi) (sm.trans s1) ru ⟨_, hD1, ?_, ?_, ?_⟩
    · rw [List.length_map, List.length_take]
      exact Nat.lt_of_le_of_lt (Nat.le_trans (Nat.min_le_right _ _) hl) (by decide)
    · intro b o e
      rw [upd_ne (ne_of_none e hD)]
      exact s1 b o e
    · rw [upd_same, take_snoc hu, List.map_append]
      rfl
  · rintro H' ⟨s1, hD1⟩
    rw [rp.len, List.take_length] at hD1
    exact q D H' hD s1 hD1
end
end NAp

namespace NAp
open PySem PySem.Spec PyProof.Rows L2 NA NAx
open PySem.W (Codec)
section
variable {P : Program} {w : World} {K : PySem.W.Frag} {mg : Str → Option Value} {base : Heap} {h : Heap}
/-! ### lists of values in the heap -/
theorem items_depth (u : Vaarrm.V) : depthVs (Vaarrm.itemsOf u) ≤ depthV u := by
  cases u with
  | num m => exact Nat.le_refl _
  | arr s l =>
    show depthVs l ≤ 1 + depthVs l
    omega
theorem item_depth {u v : Vaarrm.V} (hv : v ∈ Vaarrm.itemsOf u) : depthV v ≤ depthV u := Nat.le_trans (depthV_mem hv) (items_depth u)
theorem item_size {u v : Vaarrm.V} (hv : v ∈ Vaarrm.itemsOf u) : sizeV v ≤ sizeV u := by
  cases u with
  | num m =>
    rw [List.mem_singleton.mp hv]
    exact Nat.le_refl _
  | arr s l =>
    have := sizeV_mem (show v ∈ l from hv)
    show sizeV v ≤ 1 + sizeVs l
    omega
theorem items_small {u : Vaarrm.V} (h : sizeV u ≤ 600) : (Vaarrm.itemsOf u).length ≤ 600 := by
  cases u with
  | num n => exact (by decide : 1 ≤ 600)
  | arr s l =>
    have h : 1 + sizeVs l ≤ 600 := h
    have := length_sizeVs l
    show l.length ≤ 600
    omega
/-- so many items have values -/
theorem flat_items : ∀ l : List Vaarrm.V, (l.flatMap Vaarrm.itemsOf).length ≤ sizeVs l
  | [] => Nat.le_refl _
  | v :: r => by
    have h := flat_items r
    rw [List.flatMap_cons, List.length_append]
    show _ ≤ sizeV v + sizeVs r
    have : (Vaarrm.itemsOf v).length ≤ sizeV v := by
      cases v with
      | num n => exact Nat.le_refl _
      | arr s m =>
        have := length_sizeVs m
        show m.length ≤ 1 + sizeVs m
        omega
    omega
theorem size_items {u : Vaarrm.V} : sizeVs (Vaarrm.itemsOf u) ≤ sizeV u := by
  cases u with
  | num n => exact Nat.le_refl _
  | arr s l => exact Nat.le_add_left ..
theorem reps_pair {C : Addr} {F : Hp} : ∀ {ys : List V} {l : List Vaarrm.V}, Reps C F ys l → Paired (Rep C F) ys l
  | _, _, .nil => .nil
  | _, _, .cons a r => .cons a (reps_pair r)
theorem pair_reps {C : Addr} {F : Hp} : ∀ {ys : List V} {l : List Vaarrm.V}, Paired (Rep C F) ys l → Reps C F ys l
  | _, _, .nil => .nil
  | _, _, .cons a r => .cons a (pair_reps r)
theorem reps_back {C : Addr} {F : Hp} : ∀ {ys : List V} {l : List Vaarrm.V} {i : Nat} {u : Vaarrm.V}, Reps C F ys l → l[i]? = some u → ∃ y, ys[i]? = some y ∧ Rep C F y u
  | _, _, i, _, .nil, e => by simp at e
  | _, _, 0, _, .cons h _, e => by
    cases Option.some.inj e
    exact ⟨_, rfl, h⟩
  | _, _, i + 1, _, .cons _ r, e => reps_back (i := i) r e
theorem reps_app {C : Addr} {F : Hp} : ∀ {ys zs : List V} {l m : List Vaarrm.V}, Reps C F ys l → Reps C F zs m → Reps C F (ys ++ zs) (l ++ m)
  | _, _, _, _, .nil, h => h
  | _, _, _, _, .cons a r, h => .cons a (reps_app r h)
theorem reps_cut {C : Addr} {F : Hp} : ∀ {ys : List V} {l : List Vaarrm.V} (i j : Nat), Reps C F ys l → Reps C F ((ys.drop i).take j) ((l.drop i).take j)
  | _, _, i, j, .nil => by
    rw [List.drop_nil, List.take_nil, List.drop_nil, List.take_nil]
    exact .nil
  | _, _, i + 1, j, .cons _ r => reps_cut i j r
  | _, _, 0, 0, .cons _ _ => .nil
  | _, _, 0, j + 1, .cons a r => .cons a (reps_cut 0 j r)
theorem cut_nat {xs : List V} {i j : Nat} (h1 : i ≤ j) (h2 : j ≤ xs.length) : cutV xs (some (i : Int)) (some (j : Int)) = (xs.drop i).take (j - i) := by
  unfold cutV
  rw [HT.sIx_nat, HT.sIx_nat, Nat.min_eq_left h2, Nat.min_eq_left (Nat.le_trans h1 h2)]
theorem cut_ints {l : List Int} {i j : Nat} (h1 : i ≤ j) (h2 : j ≤ l.length) : cutV (l.map V.int) (some (i : Int)) (some (j : Int)) = ((l.drop i).take (j - i)).map V.int := by
  unfold cutV
  rw [HT.sIx_nat, HT.sIx_nat, List.length_map, Nat.min_eq_left h2, Nat.min_eq_left (Nat.le_trans h1 h2), List.map_take, List.map_drop]
/-- xs[1:] -/
theorem cut_one {xs : List V} : cutV xs (some 1) none = xs.drop 1 := by
  unfold cutV
  have e := HT.sIx_nat xs.length 0 1
  rw [show ((1 : Nat) : Int) = 1 from rfl] at e
  rw [e, HT.sIx_none]
  by_cases c : 1 ≤ xs.length
  · rw [Nat.min_eq_left c, List.take_of_length_le (by rw [List.length_drop]; exact Nat.le_refl _)]
  · have z : xs = [] := List.eq_nil_of_length_eq_zero (by omega)
    rw [z]
    rfl
theorem cut_tail {n : Nat} {s : List Nat} : cutV (bts (n :: s)) (some 1) none = bts s := cut_one
theorem pair_snoc {α β : Type} {R : α → β → Prop} {x : α} {y : β} (h : R x y) : ∀ {xs : List α} {ys : List β}, Paired R xs ys → Paired R (xs ++ [x]) (ys ++ [y])
  | _, _, .nil => .cons h .nil
  | _, _, .cons h' r => .cons h' (pair_snoc h r)
theorem pair_map {α β : Type} {R S : α → β → Prop} : ∀ {xs : List α} {ys : List β}, (∀ x ∈ xs, ∀ y, R x y → S x y) → Paired R xs ys → Paired S xs ys
  | _, _, _, .nil => .nil
  | _, _, k, .cons h r => .cons (k _ (List.mem_cons_self ..) _ h) (pair_map (fun x hx => k x (List.mem_cons_of_mem _ hx)) r)
theorem pair_of {α β : Type} {R : α → β → Prop} : ∀ {xs : List α} {ys : List β} {i : Nat} {x : α}, Paired R xs ys → xs[i]? = some x → ∃ y, ys[i]? = some y ∧ R x y
  | _, _, i, _, .nil, e => by simp at e
  | _, _, 0, _, .cons h _, e => by
    cases Option.some.inj e
    exact ⟨_, rfl, h⟩
  | _, _, i + 1, _, .cons _ r, e => pair_of (i := i) r e
theorem map_at {α β : Type} {f : α → β} {l : List α} {i : Nat} {y : β} (h : (l.map f)[i]? = some y) : ∃ x, l[i]? = some x ∧ y = f x := by
  rw [List.getElem?_map] at h
  obtain ⟨z, e1, e2⟩ := Option.map_eq_some_iff.mp h
  exact ⟨z, e1, e2.symm⟩
theorem flatMap_take {α β : Type} {f : α → List β} {l : List α} {i : Nat} {u : α} (h : l[i]? = some u) : (l.take (i + 1)).flatMap f = (l.take i).flatMap f ++ f u := by
  rw [take_snoc h, List.flatMap_append]
  show _ ++ (f u ++ []) = _
  rw [List.append_nil]
theorem flatMap_le {α β : Type} (f : α → List β) (l : List α) (i : Nat) : ((l.take i).flatMap f).length ≤ (l.flatMap f).length := by
  have e : l.flatMap f = (l.take i).flatMap f ++ (l.drop i).flatMap f := by rw [← List.flatMap_append, List.take_append_drop]
  rw [e, List.length_append]
  exact Nat.le_add_right ..
/-- a list that's being filled with new values: F0, H2 at its begin, D the list -/
structure BagF (C : Addr) (F0 H2 : Hp) (D : Addr) (F' H' : Hp) (zs : List V) (dn : List Vaarrm.V) : Prop where
  hh : Same H2 H'
  ff : Same F0 F'
  fh : Same F' H'
  fD : F' D = none
  new : ∀ b o, H2 b = some o → F0 b = none → F' b = none
  hD : H' D = some (.lst zs)
  rz : Reps C F' zs dn
theorem BagF.start {C : Addr} {F0 H2 : Hp} {D : Addr} (sm : Same F0 H2) (h0 : H2 D = none) : BagF C F0 H2 D F0 (upd H2 D (.lst [])) [] [] :=
  ⟨same_new h0, Same.refl _, sm.trans (same_new h0), sm.free h0, fun _ _ _ z => z, upd_same, .nil⟩
section
variable {C : Addr} {F0 H2 : Hp} {D : Addr} {F' H' : Hp} {zs : List V} {dn : List Vaarrm.V}
theorem BagF.step (b : BagF C F0 H2 D F' H' zs dn) (h0 : H2 D = none) {F3 H3 : Hp} {v : V} {u : Vaarrm.V} (g : Grow F' H' F3 H3) (r : Rep C F3 v u) : BagF C F0 H2 D F3 (upd H3 D (.lst (zs ++ [v]))) (zs ++ [v]) (dn ++ [u]) :=
  have fD : F3 D = none := g.new _ _ b.hD b.fD
  ⟨fun c o e => by
    rw [upd_ne (ne_of_none e h0)]
    exact g.hh _ _ (b.hh c o e), b.ff.trans g.ff, same_upd g.fh fD, fD, fun c o e n => g.new c o (b.hh _ _ e) (b.new c o e n), upd_same, Reps.snoc r (b.rz.up g.ff)⟩
theorem BagF.more (b : BagF C F0 H2 D F' H' zs dn) {H3 : Hp} (s : Same H' H3) : BagF C F0 H2 D F' H3 zs dn := ⟨b.hh.trans s, b.ff, b.fh.trans s, b.fD, b.new, s _ _ b.hD, b.rz⟩
theorem BagF.out (b : BagF C F0 H2 D F' H' zs dn) : Grow F0 H2 F' H' := ⟨b.hh, b.ff, b.fh, b.new⟩
theorem BagF.short (b : BagF C F0 H2 D F' H' zs dn) {n : Nat} (h : dn.length ≤ n) (hn : n ≤ 9000 := by omega) : zs.length < sizeLine := by
  rw [b.rz.len]
  exact Nat.lt_of_le_of_lt (Nat.le_trans h hn) (by decide)
end
/-- [te for x in xs], where te tells out one by one and all else stays -/
theorem lc_out {K : PySem.W.Frag} {a : Addr} {xs out : List V} {te : TE} {s : Nat} {σ : L2.St} {H : Hp} {D : Addr} {Qd : Hp → Prop} (h0 : H D = none) (ha : SqL K H a xs) (hl : out.length = xs.length) (hb : xs.length ≤ 9000)
    (hte : ∀ (i : Nat) (x y : V) (H' : Hp) (Q' : VK), xs[i]? = some x → out[i]? = some y → Same H H' → (∀ H3, Same H' H3 → Q' y H3) → te ((wipe σ [s]).set s (some x)) H' Q') (q : ∀ H', Same H H' → H' D = some (.lst out) → Qd H') :
    ∃ W : Nat → Nat → Hp → Prop, (∃ m, W 0 m (upd H D (.lst []))) ∧ ∀ i m H, W i m H →
      ((Itl K a).stop i H ∧ Qd H) ∨ ((Itl K a).go i H ∧ ∃ Nx : Hp → Prop, (∀ H', Nx H' → ∃ m', m' < m ∧ W (i + 1) m' H') ∧ ∀ x H', (Itl K a).yld i H x H' → gName s x (wipe σ [s]) H' fun σ2 H2 => wipe σ2 [s] = wipe σ [s] ∧ tYes σ2 H2 fun b H3 =>
        if b = true then te σ2 H3 fun y H4 => ∃ acc, H4 D = some (.lst acc) ∧ acc.length < sizeLine ∧ Nx (upd H4 D (.lst (acc ++ [y]))) else Nx H3) := by
  refine lc_list (K := K) (a := a) (xs := xs) (fun j H' => Same H H' ∧ H' D = some (.lst (out.take j))) ⟨same_new h0, by rw [upd_same, List.take_zero]⟩ (fun j H' _ hh => hh.1.seq ha) ?_ ?_
  · rintro i x H' hi ⟨s1, hD1⟩
    have hlt : i < out.length := by
      rw [hl]
      exact (List.getElem?_eq_some_iff.mp hi).1
    have hy : out[i]? = some out[i] := List.getElem?_eq_getElem hlt
    refine ⟨wipe_one, ?_⟩
    unfold tYes
    refine iteT (hte i x _ H' _ hi hy s1 fun H3 s3 => ⟨_, s3 _ _ hD1, ?_, fun b o e => ?_, ?_⟩)
    · rw [List.length_take]
      exact Nat.lt_of_le_of_lt (Nat.le_trans (Nat.min_le_right _ _) (show out.length ≤ 9000 by omega)) (by decide)
    · rw [upd_ne (ne_of_none e h0)]
      exact s3 _ _ (s1 b o e)
    · rw [upd_same, take_snoc hy]
  · rintro H' ⟨s1, hD1⟩
    rw [← hl, List.take_length] at hD1
    exact q H' s1 hD1
/-- over zip of two lists -/
theorem lc_zip {K : PySem.W.Frag} {a b : Addr} {xs ys : List V} {g : TG} {tt : TT} {te : TE} {vs : List Nat} {σ : L2.St} {H1 : Hp} {D : Addr} {Qd : Hp → Prop} (Pv : Nat → Hp → Prop) (h0 : Pv 0 (upd H1 D (.lst []))) (hq : ∀ i H, Pv i H → SqL K H a xs ∧ SqL K H b ys)
    (hs : ∀ (i : Nat) (x y : V) (T : Addr) (H : Hp), xs[i]? = some x → ys[i]? = some y → Pv i H → H T = none → g (.ref T) (wipe σ vs) (upd H T (.tup [x, y])) fun σ2 H2 => wipe σ2 vs = wipe σ vs ∧ tt σ2 H2 fun b H3 =>
      if b = true then te σ2 H3 fun y H4 => ∃ acc, H4 D = some (.lst acc) ∧ acc.length < sizeLine ∧ Pv (i + 1) (upd H4 D (.lst (acc ++ [y]))) else Pv (i + 1) H3) (hd : ∀ H, Pv (min xs.length ys.length) H → Qd H) :
    ∃ W : Nat → Nat → Hp → Prop, (∃ m, W 0 m (upd H1 D (.lst []))) ∧ ∀ i m H, W i m H →
      ((Itz K a b).stop i H ∧ Qd H) ∨ ((Itz K a b).go i H ∧ ∃ Nx : Hp → Prop, (∀ H', Nx H' → ∃ m', m' < m ∧ W (i + 1) m' H') ∧ ∀ x H', (Itz K a b).yld i H x H' → g x (wipe σ vs) H' fun σ2 H2 => wipe σ2 vs = wipe σ vs ∧ tt σ2 H2 fun b H3 =>
        if b = true then te σ2 H3 fun y H4 => ∃ acc, H4 D = some (.lst acc) ∧ acc.length < sizeLine ∧ Nx (upd H4 D (.lst (acc ++ [y]))) else Nx H3) := by
  refine ⟨fun i m H => m = min xs.length ys.length - i ∧ i ≤ min xs.length ys.length ∧ Pv i H, ⟨min xs.length ys.length, rfl, Nat.zero_le _, h0⟩, ?_⟩
  rintro i m H ⟨rfl, hi, p⟩
  obtain ⟨qx, qy⟩ := hq i H p
  by_cases hlt : i < min xs.length ys.length
  · have h1 : i < xs.length := by omega
    have h2 : i < ys.length := by omega
    refine .inr ⟨⟨xs, ys, _, _, qx, qy, List.getElem?_eq_getElem h1, List.getElem?_eq_getElem h2⟩, Pv (i + 1), fun H' p' => ⟨min xs.length ys.length - (i + 1), by omega, rfl, hlt, p'⟩, fun v H' y => ?_⟩
    obtain ⟨T, x', y', rfl, hT, rfl, f1, f2⟩ := y
    exact hs i x' y' T H (f1 xs qx) (f2 ys qy) p hT
  · have e : i = min xs.length ys.length := by omega
    subst e
    exact .inl ⟨⟨xs, ys, qx, qy, by omega⟩, hd H p⟩
theorem good_item {u v : Vaarrm.V} (h : goodV u = true) (hv : v ∈ Vaarrm.itemsOf u) : goodV v = true := by
  cases u with
  | num m =>
    rw [List.mem_singleton.mp hv]
    exact h
  | arr s l =>
    have h : (Vaarrm.shapeOk s && goodVs l) = true := h
    have h2 := (Bool.and_eq_true_iff.mp h).2
    rw [goodVs_all, List.all_eq_true] at h2
    exact h2 v hv
def dpInts (s : List Nat) : List PyData := s.map fun (n : Nat) => PyData.int (n : Int)
theorem dp_all {K : PySem.W.Frag} {H : Hp} : ∀ s : List Nat, DpAll K H (bts s) (dpInts s)
  | [] => .nil
  | n :: s => .cons (.int _) (dp_all s)
theorem dp_flat : ∀ s : List Nat, PyData.canLayAll0 (dpInts s) = true ∧ PyData.depthAll (dpInts s) = 0
  | [] => ⟨rfl, rfl⟩
  | n :: s => by
    obtain ⟨a, b⟩ := dp_flat s
    refine ⟨?_, ?_⟩
    · show (true && PyData.canLayAll0 (dpInts s)) = true
      rw [a]
      rfl
    · show max 0 (PyData.depthAll (dpInts s)) = 0
      rw [b]
      rfl
theorem dp_shaped (s : List Nat) : SeqAt.shaped (.list (dpInts s)) = true := by
  obtain ⟨a, b⟩ := dp_flat s
  show (PyData.canLayAll0 (dpInts s) && decide (PyData.depthAll (dpInts s) + 1 ≤ 64)) = true
  rw [a, b]
  rfl
theorem dp_same : ∀ s t : List Nat, PyData.eqvAll (dpInts s) (dpInts t) = (s == t)
  | [], [] => rfl
  | [], _ :: _ => rfl
  | _ :: _, [] => rfl
  | n :: s, m :: t => by
    show (((n : Int) == (m : Int)) && PyData.eqvAll (dpInts s) (dpInts t)) = _
    rw [dp_same s t]
    show _ = ((n == m) && (s == t))
    congr 1
    rw [Bool.eq_iff_iff, beq_iff_eq, beq_iff_eq]
    omega
/-- two lists of numbers compared -/
theorem ne_lists {K : PySem.W.Frag} {H : Hp} {a b : Addr} {s t : List Nat} {Q : VK} (ha : SqL K H a (bts s)) (hb : SqL K H b (bts t)) (q : Q (.bl (!(s == t))) H) : rNeD K (.ref a) (.ref b) H Q := by
  refine ⟨_, _, .lst ha (dp_all s), .lst hb (dp_all t), dp_shaped s, dp_shaped t, ?_⟩
  show Q (.bl (!PyData.eqvAll (dpInts s) (dpInts t))) H
  rw [dp_same]
  exact q
theorem any_not {α : Type} {p : α → Bool} : ∀ l : List α, (l.map fun x => !p x).any id = !l.all p
  | [] => rfl
  | x :: l => by
    rw [List.map_cons, List.any_cons, List.all_cons, any_not l]
    show (!p x || !l.all p) = !(p x && l.all p)
    rw [Bool.not_and]
theorem zip_at2 {α β : Type} : ∀ {xs : List α} {ys : List β} {j : Nat} {x : α} {y : β}, xs[j]? = some x → ys[j]? = some y → (xs.zip ys)[j]? = some (x, y)
  | _ :: _, _ :: _, 0, _, _, h1, h2 => by
    cases h1
    cases h2
    rfl
  | _ :: xs, _ :: ys, j + 1, _, _, h1, h2 => zip_at2 (xs := xs) (ys := ys) (j := j) h1 h2
  | [], _, _, _, _, h1, _ => by simp at h1
  | _ :: _, [], _, _, _, _, h2 => by simp at h2
/-- lists of numbers stand at these places -/
def LstAt (H : Hp) (a : Addr) (l : List Int) : Prop := H a = some (.lst (l.map V.int))
/-- a list of lists of numbers stands at p -/
def StepsL (H : Hp) (p : Addr) (q : List (List Int)) : Prop := ∃ as : List Addr, H p = some (.lst (as.map V.ref)) ∧ Paired (LstAt H) as q
theorem lsts_up {H H' : Hp} (e : Same H H') : ∀ {as : List Addr} {q : List (List Int)}, Paired (LstAt H) as q → Paired (LstAt H') as q
  | _, _, .nil => .nil
  | _, _, .cons a r => .cons (e _ _ a) (lsts_up e r)
theorem StepsL.up {H H' : Hp} {p : Addr} {q : List (List Int)} (e : Same H H') (h : StepsL H p q) : StepsL H' p q := by
  obtain ⟨as, h1, h2⟩ := h
  exact ⟨as, e _ _ h1, lsts_up e h2⟩
theorem drop_at {α : Type} {l : List α} {i : Nat} {x : α} (h : l[i]? = some x) : l.drop i = x :: l.drop (i + 1) := by
  have hlt := (List.getElem?_eq_some_iff.mp h).1
  rw [List.drop_eq_getElem_cons hlt]
  rw [List.getElem?_eq_getElem hlt] at h
  cases h
  rfl
theorem pair_unsnoc {α β : Type} {R : α → β → Prop} {x : α} : ∀ {xs : List α} {ys : List β}, Paired R (xs ++ [x]) ys → ∃ (zs : List β) (y : β), ys = zs ++ [y] ∧ Paired R xs zs ∧ R x y
  | [], _, .cons h .nil => ⟨[], _, rfl, .nil, h⟩
  | _ :: xs, _, .cons h r => by
    obtain ⟨zs, y, rfl, a, b⟩ := pair_unsnoc r
    exact ⟨_ :: zs, y, rfl, .cons h a, b⟩
end
end NAp

namespace NAp
open PySem PySem.Spec PyProof.Rows L2 NA NAx
open PySem.W (Codec)
section
variable {P : Program} {w : World} {K : PySem.W.Frag} {mg : Str → Option Value} {base : Heap} {h : Heap}
theorem sc_is_number : FnScope ["value"] ["value"] (defScope s_is_number) := ⟨rfl, rfl, rfl, by decide +kernel, rfl, by decide +kernel, by decide +kernel⟩
theorem ok_is_number {f C fI : Addr} {fd fdI : FuncData} (F : Fun K "is_number" "is_number" s_is_number f fd) (N : NaC K mg C fI fdI) (ni : mg "isinstance" = none) (nt : mg "int" = none) : FnOk P w K mg base CX0 1 f fd ["value"] (spVal C fun u => .bl (Vaarrm.isNum u)) := by
  refine F.ok sc_is_number (fun vs H Q E h => ?_) (fun cdv A outer s H vs Q E hr h => ?_)
  · obtain ⟨v, u, F0, rfl, _⟩ := h
    rfl
  · obtain ⟨v, u, F0, rfl, sm, rp, q⟩ := h
    refine ⟨_, pss_one (ps_ret (pe_callB call_isi (by rfl) ni (by decide +kernel) (pa_cons (pv 0) (pa_cons (pe_bltn (v := .ty "int") (by rfl) nt boot_int rfl) pa_nil)))), ?_⟩
    refine ⟨_, rfl, ?_⟩
    cases rp with
    | num n => exact ⟨_, _, _, _, true, rfl, .ty "int", .base (.int n), rfl, q⟩
    | arr ha he hp hr => exact ⟨_, _, _, _, false, rfl, .ty "int", N.ty _ _ _ _ (sm _ _ ha), N.ni, q⟩
end
end NAp

namespace NAp
open PySem PySem.Spec PyProof.Rows L2 NA NAx
open PySem.W (Codec)
section
variable {P : Program} {w : World} {K : PySem.W.Frag} {mg : Str → Option Value} {base : Heap} {h : Heap}
theorem sc_depth_of : FnScope ["value"] ["value"] (defScope s_depth_of) := ⟨rfl, rfl, rfl, by decide +kernel, rfl, by decide +kernel, by decide +kernel⟩
theorem ok_depth_of {f C fI f1 : Addr} {fd fdI fd1 : FuncData} (F : Fun K "depth_of" "depth_of" s_depth_of f fd) (N : NaC K mg C fI fdI) (D1 : DefAt K mg "is_number" s_is_number ["value"] f1 fd1)
    (G1 : FnOk P w K mg base CX0 1 f1 fd1 ["value"] (spVal C fun u => .bl (Vaarrm.isNum u))) : FnOk P w K mg base CX0 2 f fd ["value"] (spVal C fun u => .int (depthV u : Nat)) := by
  refine F.ok sc_depth_of (fun vs H Q E h => ?_) (fun cdv A outer s H vs Q E hr h => ?_)
  · obtain ⟨v, u, F0, rfl, _⟩ := h
    rfl
  · obtain ⟨v, u, F0, rfl, sm, rp, q⟩ := h
    refine ⟨_, pss_one (ps_ret (pe_ifExp (pt_val (pe_call G1 hr rfl D1.g D1.fn.kp D1.b .nil pass0 (pa_cons (pv 0) pa_nil))) pe_int (pe_fld (pv 0) rfl))), ?_⟩
    refine ⟨_, rfl, v, u, F0, rfl, sm, rp, _, rfl, ?_⟩
    cases rp with
    | num n => exact iteT q
    | arr ha he hp hr => exact iteF ⟨_, rfl, _, C, _, _, _, rfl, sm _ _ ha, N.cl, N.nD, naF_depth, q⟩
end
end NAp

namespace NAp
open PySem PySem.Spec PyProof.Rows L2 NA NAx
open PySem.W (Codec)
section
variable {P : Program} {w : World} {K : PySem.W.Frag} {mg : Str → Option Value} {base : Heap} {h : Heap}
theorem sc_size_of : FnScope ["value"] ["value"] (defScope s_size_of) := ⟨rfl, rfl, rfl, by decide +kernel, rfl, by decide +kernel, by decide +kernel⟩
theorem ok_size_of {f C fI f1 : Addr} {fd fdI fd1 : FuncData} (F : Fun K "size_of" "size_of" s_size_of f fd) (N : NaC K mg C fI fdI) (D1 : DefAt K mg "is_number" s_is_number ["value"] f1 fd1)
    (G1 : FnOk P w K mg base CX0 1 f1 fd1 ["value"] (spVal C fun u => .bl (Vaarrm.isNum u))) : FnOk P w K mg base CX0 2 f fd ["value"] (spVal C fun u => .int (sizeV u : Nat)) := by
  refine F.ok sc_size_of (fun vs H Q E h => ?_) (fun cdv A outer s H vs Q E hr h => ?_)
  · obtain ⟨v, u, F0, rfl, _⟩ := h
    rfl
  · obtain ⟨v, u, F0, rfl, sm, rp, q⟩ := h
    refine ⟨_, pss_one (ps_ret (pe_ifExp (pt_val (pe_call G1 hr rfl D1.g D1.fn.kp D1.b .nil pass0 (pa_cons (pv 0) pa_nil))) pe_int (pe_fld (pv 0) rfl))), ?_⟩
    refine ⟨_, rfl, v, u, F0, rfl, sm, rp, _, rfl, ?_⟩
    cases rp with
    | num n => exact iteT q
    | arr ha he hp hr => exact iteF ⟨_, rfl, _, C, _, _, _, rfl, sm _ _ ha, N.cl, N.nS, naF_size, q⟩
end
end NAp

namespace NAp
open PySem PySem.Spec PyProof.Rows L2 NA NAx
open PySem.W (Codec)
section
variable {P : Program} {w : World} {K : PySem.W.Frag} {mg : Str → Option Value} {base : Heap} {h : Heap}
def spNaInit (C : Addr) : Sp := fun vs H Q _ => ∃ (x dx ea pa : Addr) (ys : List V) (l : List Vaarrm.V) (F : Hp), vs = [.ref x, .ref ea, .ref pa] ∧ H x = some (.ins C dx []) ∧ F x = none ∧ Same F H ∧ H pa = some (.lst ys) ∧ Reps C F ys l ∧ l.length ≤ 9000 ∧
  ∀ H', But x H H' → H' x = some (.ins C dx (naF ea pa (1 + depthVs l) (1 + sizeVs l))) → Q .non H'
theorem sc_NestedArray : FnScope ["self", "extents", "parts", "part"] ["self", "extents", "parts"] (defScope si_NestedArray) := ⟨rfl, rfl, rfl, by decide +kernel, rfl, by decide +kernel, by decide +kernel⟩
theorem maxOr_depths : ∀ l : List Vaarrm.V, maxOr 0 (l.map fun u => (depthV u : Int)) = (depthVs l : Int)
  | [] => rfl
  | u :: r => by
    have key : ∀ (r : List Vaarrm.V) (a : Nat), (r.map fun u => (depthV u : Int)).foldl max (a : Int) = ((max a (depthVs r) : Nat) : Int) := by
      intro r
      induction r with
      | nil => intro a; show (a : Int) = ((max a 0 : Nat) : Int); rw [Nat.max_zero]
      | cons v r ih =>
        intro a
        rw [List.map_cons, List.foldl_cons]
        have e : max (a : Int) (depthV v : Int) = ((max a (depthV v) : Nat) : Int) := by omega
        rw [e, ih]
        show ((max (max a (depthV v)) (depthVs r) : Nat) : Int) = ((max a (max (depthV v) (depthVs r)) : Nat) : Int)
        omega
    exact key r (depthV u)
theorem sum_sizes : ∀ l : List Vaarrm.V, (l.map fun u => (sizeV u : Int)).sum = (sizeVs l : Int)
  | [] => rfl
  | u :: r => by
    rw [List.map_cons, List.sum_cons, sum_sizes r]
    show (sizeV u : Int) + (sizeVs r : Int) = ((sizeV u + sizeVs r : Nat) : Int)
    omega
theorem put_new {f : Str} {v : V} : ∀ {fs : List (Str × V)}, (∀ p ∈ fs, p.1 ≠ f) → putF f v fs = fs ++ [(f, v)]
  | [], _ => rfl
  | (g, x) :: r, h => by
    show (if g = f then _ else _) = _
    rw [if_neg (h (g, x) (List.mem_cons_self ..)), put_new fun p hp => h p (List.mem_cons_of_mem _ hp)]
    rfl
theorem ok_na_init {C fI f1 f2 : Addr} {fdI fd1 fd2 : FuncData} (N : NaC K mg C fI fdI) (D1 : DefAt K mg "depth_of" s_depth_of ["value"] f1 fd1) (G1 : FnOk P w K mg base CX0 2 f1 fd1 ["value"] (spVal C fun u => .int (depthV u : Nat)))
    (D2 : DefAt K mg "size_of" s_size_of ["value"] f2 fd2) (G2 : FnOk P w K mg base CX0 2 f2 fd2 ["value"] (spVal C fun u => .int (sizeV u : Nat))) (nm : mg "max" = none) (ns : mg "sum" = none) :
    FnOk P w K mg base CX0 3 fI fdI ["self", "extents", "parts"] (spNaInit C) := by
  refine N.fn.ok sc_NestedArray (fun vs H Q E h => ?_) (fun cdv A outer s H vs Q E hr h => ?_)
  · obtain ⟨x, dx, ea, pa, ys, l, F, rfl, _⟩ := h
    rfl
  · obtain ⟨x, dx, ea, pa, ys, l, F, rfl, hx, fx, sm, hp, rp, hl, q⟩ := h
    refine ⟨_, pss_cons (ps_fld (pv 0) (pv 1) rfl) (pss_cons (ps_fld (pv 0) (pv 2) rfl)
      (pss_cons (ps_fld (pv 0) (pe_op op_add pe_int (pe_callBK (crk_max rfl (hu_of hr)) (by rfl) nm (by decide +kernel)
        (pa_cons (pe_lc (own := [("part", 3)]) (g := gName 3) (tt := tYes) rfl sc_NestedArray.nd (pi_list (pv 2)) (blkOk_by (N := ["self", "extents", "parts", "part"]) (sc := defScope si_NestedArray) (by decide +kernel)) (fun _ _ _ _ _ => pg_name (i := 3) sc_NestedArray.nd rfl (Or.inl rfl)) (fun _ _ _ _ _ => pts_nil)
          (fun _ _ _ _ _ => pe_call G1 hr rfl D1.g D1.fn.kp D1.b .nil pass0 (pa_cons (pv 3) pa_nil))) pa_nil) (pk_cons pe_int pk_nil))) rfl)
      (pss_one (ps_fld (pv 0) (pe_op op_add pe_int (pe_callB (cr_sum rfl) (by rfl) ns (by decide +kernel)
        (pa_cons (pe_lc (own := [("part", 3)]) (g := gName 3) (tt := tYes) rfl sc_NestedArray.nd (pi_list (pv 2)) (blkOk_by (N := ["self", "extents", "parts", "part"]) (sc := defScope si_NestedArray) (by decide +kernel)) (fun _ _ _ _ _ => pg_name (i := 3) sc_NestedArray.nd rfl (Or.inl rfl)) (fun _ _ _ _ _ => pts_nil)
          (fun _ _ _ _ _ => pe_call G2 hr rfl D2.g D2.fn.kp D2.b .nil pass0 (pa_cons (pv 3) pa_nil))) pa_nil))) rfl)))), ?_⟩
    have npx : pa ≠ x := ne_of hp hx (by intro z; cases z)
    refine ⟨_, rfl, _, rfl, x, C, dx, [], rfl, hx, N.cl, N.nE, (by show 0 < 1000; decide), ?_⟩
    refine ⟨_, rfl, _, rfl, x, C, dx, _, rfl, upd_same, N.cl, N.nP, (by show 1 < 1000; decide), ?_⟩
    -- the depths
    generalize e1 : upd (upd H x _) x _ = H1
    have b1 : But x H H1 := by
      rw [← e1]
      exact But.upd.trans But.upd
    have hx1 : H1 x = some (.ins C dx [("extents", .ref ea), ("parts", .ref pa)]) := by
      rw [← e1, upd_same]
      rfl
    have hp1 := b1 _ _ npx hp
    have sm1 : Same F H1 := b1.same fx sm
    have hl3 : 3 < (L2.start ["self", "extents", "parts", "part"] [V.ref x, .ref ea, .ref pa]).length := by
      show 3 < 4
      decide
    dsimp only [tSeq, sFld, tOp, tC, tCKw, tCB, tCons]
    refine lc_vals (C := C) (F := F) (fun u => .int (depthV u : Nat)) (fun Q' z => ⟨_, rfl, z⟩) hl3 hp1 sm1 rp hl (fun σ' v u H' Q' hv s' r' z => ⟨_, hv, v, u, F, rfl, s', r', z⟩) fun D H2 hD s2 hD2 => ?_
    have eD : l.map (fun u => V.int (depthV u : Nat)) = (l.map fun u => (depthV u : Int)).map V.int := by
      rw [List.map_map]
      rfl
    refine ⟨D, l.map (fun u => (depthV u : Int)), 0, rfl, rfl, SqL.of (eD ▸ hD2), ?_⟩
    rw [maxOr_depths]
    refine ⟨_, _, rfl, rfl, _, rfl, x, C, dx, _, rfl, s2 _ _ hx1, N.cl, N.nD, (by show 2 < 1000; decide), ?_⟩
    generalize e3 : upd H2 x _ = H3
    have hnx : D ≠ x := fun z => by
      rw [z, hx1] at hD
      cases hD
    have b3 : But x H H3 := by
      rw [← e3]
      exact (b1.trans fun b o _ e => s2 b o e).trans But.upd
    have hx3 : H3 x = some (.ins C dx [("extents", .ref ea), ("parts", .ref pa), ("depth", .int ((1 + depthVs l : Nat) : Int))]) := by
      rw [← e3, upd_same]
      refine congrArg (fun z => some (HO.ins C dx z)) ?_
      have e : (1 : Int) + (depthVs l : Int) = ((1 + depthVs l : Nat) : Int) := by omega
      show putF "depth" (V.int ((1 : Int) + (depthVs l : Int))) _ = _
      rw [e]
      rfl
    refine lc_vals (C := C) (F := F) (fun u => .int (sizeV u : Nat)) (fun Q' z => ⟨_, rfl, z⟩) hl3 (b3 _ _ npx hp) (b3.same fx sm) rp hl (fun σ' v u H' Q' hv s' r' z => ⟨_, hv, v, u, F, rfl, s', r', z⟩) fun D2 H4 hD4 s4 hD42 => ?_
    have eD2 : l.map (fun u => V.int (sizeV u : Nat)) = (l.map fun u => (sizeV u : Int)).map V.int := by
      rw [List.map_map]
      rfl
    refine ⟨D2, l.map (fun u => (sizeV u : Int)), rfl, SqL.of (eD2 ▸ hD42), ?_⟩
    rw [sum_sizes]
    refine ⟨_, _, rfl, rfl, _, rfl, x, C, dx, _, rfl, s4 _ _ hx3, N.cl, N.nS, (by show 3 < 1000; decide), ?_⟩
    refine q _ ((b3.trans fun b o _ e => s4 b o e).trans But.upd) ?_
    rw [upd_same]
    refine congrArg (fun z => some (HO.ins C dx z)) ?_
    have e : (1 : Int) + (sizeVs l : Int) = ((1 + sizeVs l : Nat) : Int) := by omega
    show putF "size" (V.int ((1 : Int) + (sizeVs l : Int))) _ = _
    rw [e]
    rfl
end
end NAp

namespace NAp
open PySem PySem.Spec PyProof.Rows L2 NA NAx
open PySem.W (Codec)
section
variable {P : Program} {w : World} {K : PySem.W.Frag} {mg : Str → Option Value} {base : Heap} {h : Heap}
def spArrayOf (K : PySem.W.Frag) (C : Addr) : Sp := fun vs H Q _ => ∃ (ea pa : Addr) (s : List Nat) (ys : List V) (l : List Vaarrm.V) (F : Hp), vs = [.ref ea, .ref pa] ∧ SqL K H ea (bts s) ∧ SqL K H pa ys ∧ Same F H ∧ Reps C F ys l ∧ l.length ≤ 9000 ∧
  (s = [] → l.length = 1) ∧ ∀ (H' F' : Hp) (v : V), Grow F H F' H' → Rep C F' v (Vaarrm.made s l) → Q v H'
theorem sc_array_of : FnScope ["extents", "parts"] ["extents", "parts"] (defScope s_array_of) := ⟨rfl, rfl, rfl, by decide +kernel, rfl, by decide +kernel, by decide +kernel⟩
theorem made_arr {s : List Nat} {l : List Vaarrm.V} (h : ¬ (s = [] ∧ ∃ n, l = [.num n])) : Vaarrm.made s l = .arr s l := by
  unfold Vaarrm.made
  split
  · rename_i n
    exact absurd ⟨rfl, n, rfl⟩ h
  · rfl
theorem ok_array_of {f C fI f1 : Addr} {fd fdI fd1 : FuncData} (F : Fun K "array_of" "array_of" s_array_of f fd) (N : NaC K mg C fI fdI) (GI : FnOk P w K mg base CX0 3 fI fdI ["self", "extents", "parts"] (spNaInit C))
    (D1 : DefAt K mg "is_number" s_is_number ["value"] f1 fd1) (G1 : FnOk P w K mg base CX0 1 f1 fd1 ["value"] (spVal C fun u => .bl (Vaarrm.isNum u))) (nl : mg "len" = none) (nli : mg "list" = none) :
    FnOk P w K mg base CX0 5 f fd ["extents", "parts"] (spArrayOf K C) := by
  refine F.ok sc_array_of (fun vs H Q E h => ?_) (fun cdv A outer s H vs Q E hr h => ?_)
  · obtain ⟨ea, pa, sh, ys, l, F, rfl, _⟩ := h
    rfl
  · obtain ⟨ea, pa, sh, ys, l, F, rfl, hE, hP, sm, rp, hl, h1, q⟩ := h
    have hr1 : Room 1 _ := hr.mono (by decide)
    refine ⟨_, pss_cons (ps_if (PW.pt (pw_and (pt_cmpR op_eq (pe_callB call_len_seq (by rfl) nl PySem.boot_len (pa_cons (pv 0) pa_nil)) pe_int (nomark _))
          (pw_and1 (pt_val (pe_call G1 hr1 rfl D1.g D1.fn.kp D1.b .nil pass0 (pa_cons (pe_ix ix_list (pv 1) pe_int (fun _ _ => rfl)) pa_nil))))))
        (pss_one (ps_ret (pe_ix ix_list (pv 1) pe_int (fun _ _ => rfl)))) pss_nil)
      (pss_one (ps_ret (pe_make N.make GI hr rfl N.g N.b .nil pass0 (pa_cons (pe_callTy call_list_of (by rfl) nli boot_list (pa_cons (pv 0) pa_nil)) (pa_cons (pe_callTy call_list_of (by rfl) nli boot_list (pa_cons (pv 1) pa_nil)) pa_nil))))), ?_⟩
    -- the array that is made where it is none of a number alone
    have back : ¬ (sh = [] ∧ ∃ n, l = [.num n]) → tMake C (spNaInit C) [] E0 (tCons (tCB (fun xs H Q => ∃ p ys, xs = [.ref p] ∧ (SqL K H p ys ∨ SqT K H p ys) ∧ ∀ l, H l = none → Q (.ref l) (upd H l (.lst ys))) (tCons (tVar 0) tNil))
          (tCons (tCB (fun xs H Q => ∃ p ys, xs = [.ref p] ∧ (SqL K H p ys ∨ SqT K H p ys) ∧ ∀ l, H l = none → Q (.ref l) (upd H l (.lst ys))) (tCons (tVar 1) tNil)) tNil)) (L2.start ["extents", "parts"] [.ref ea, .ref pa]) H Q := by
      intro hno
      refine ⟨_, rfl, ea, _, rfl, .inl hE, fun l1 n1 => ?_⟩
      have s1 : Same H (upd H l1 (.lst (bts sh))) := same_new n1
      refine ⟨_, rfl, pa, _, rfl, .inl (s1.seq hP), fun l2 n2 => ?_⟩
      have s2 : Same (upd H l1 (.lst (bts sh))) (upd (upd H l1 (.lst (bts sh))) l2 (.lst ys)) := same_new n2
      generalize eH2 : upd (upd H l1 (.lst (bts sh))) l2 (.lst ys) = H2 at s2
      have s12 : Same H H2 := s1.trans s2
      have a1 : H2 l1 = some (.lst (bts sh)) := s2 _ _ upd_same
      have a2 : H2 l2 = some (.lst ys) := by rw [← eH2]; exact upd_same
      intro x dx nx ndx ne
      have hx2 : Same H2 (upd (upd H2 dx (.own x)) x (.ins C dx [])) := fun b o e => by
        rw [upd_ne (ne_of_none e nx), upd_ne (ne_of_none e ndx)]
        exact e
      have fx : F x = none := (sm.trans s12).free nx
      refine ⟨x, dx, l1, l2, ys, l, F, rfl, upd_same, fx, (sm.trans s12).trans hx2, hx2 _ _ a2, rp, hl, fun H' bt hx' => ?_⟩
      have s3 : Same H2 H' := fun b o e => bt b o (ne_of_none e nx) (hx2 b o e)
      have f1 : F l1 = none := sm.free n1
      have n2' : H l2 = none := s1.free n2
      have f2 : F l2 = none := sm.free n2'
      have x1 : l1 ≠ x := ne_of_none a1 nx
      have x2 : l2 ≠ x := ne_of_none a2 nx
      have l12 : l1 ≠ l2 := fun z => by
        rw [← z, upd_same] at n2
        cases n2
      have gr : Grow F H (upd (upd (upd F l1 (.lst (bts sh))) l2 (.lst ys)) x (.ins C dx (naF l1 l2 (1 + depthVs l) (1 + sizeVs l)))) H' := by
        refine ⟨s12.trans s3, fun b o e => ?_, fun b o e => ?_, fun b o e n => ?_⟩
        · rw [upd_ne (ne_of_none e fx), upd_ne (ne_of_none e f2), upd_ne (ne_of_none e f1)]
          exact e
        · by_cases hb : b = x
          · rw [hb, upd_same] at e
            cases e
            rw [hb]
            exact hx'
          · rw [upd_ne hb] at e
            by_cases hb2 : b = l2
            · rw [hb2, upd_same] at e
              cases e
              rw [hb2]
              exact s3 _ _ a2
            · rw [upd_ne hb2] at e
              by_cases hb1 : b = l1
              · rw [hb1, upd_same] at e
                cases e
                rw [hb1]
                exact s3 _ _ a1
              · rw [upd_ne hb1] at e
                exact s3 _ _ (s12 _ _ (sm _ _ e))
        · rw [upd_ne (ne_of_none (s12 _ _ e) nx), upd_ne (ne_of_none e n2'), upd_ne (ne_of_none e n1)]
          exact n
      refine ⟨rfl, q _ _ _ gr ?_⟩
      rw [made_arr hno]
      refine .arr upd_same ?_ ?_ (rp.up gr.ff)
      · rw [upd_ne x1, upd_ne l12, upd_same]
      · rw [upd_ne x2, upd_same]
    refine ⟨_, rfl, ea, _, rfl, .inl hE, rfl, _, rfl, ?_⟩
    rw [bts_len, dec_k (b := 0) 0 rfl]
    by_cases c0 : sh.length = 0
    · rw [decide_eq_true c0]
      have e0 : sh = [] := List.length_eq_zero_iff.mp c0
      have hl1 := h1 e0
      subst e0
      obtain ⟨u, rfl⟩ := List.length_eq_one_iff.mp hl1
      cases rp with
      | cons ru rn =>
        rename_i v vs
        have e9 : vs = [] := List.length_eq_zero_iff.mp rn.len
        subst e9
        refine iteT ⟨_, rfl, pa, _, 0, v, rfl, rfl, hP, rfl, v, u, F, rfl, sm, ru, _, rfl, ?_⟩
        cases u with
        | num n =>
          cases ru
          exact iteT ⟨_, rfl, pa, _, 0, _, rfl, rfl, hP, rfl, q _ F _ (Grow.refl sm) (.num n)⟩
        | arr s2 l2 => exact iteF (back (by rintro ⟨_, n, z⟩; cases z))
    · rw [decide_eq_false c0]
      exact iteF (iteF (back (by rintro ⟨z, _⟩; rw [z] at c0; exact c0 rfl)))
end
end NAp

namespace NAp
open PySem PySem.Spec PyProof.Rows L2 NA NAx
open PySem.W (Codec)
section
variable {P : Program} {w : World} {K : PySem.W.Frag} {mg : Str → Option Value} {base : Heap} {h : Heap}
def spProduct (K : PySem.W.Frag) : Sp := fun vs H Q _ => ∃ (a : Addr) (s : List Nat), vs = [.ref a] ∧ SqL K H a (bts s) ∧ (∀ n ∈ s, n ≤ 1000000000000000000) ∧ Q (.int (Vaarrm.product s : Nat)) H
theorem sc_product_of : FnScope ["numbers", "product", "number"] ["numbers"] (defScope s_product_of) := ⟨rfl, rfl, rfl, by decide +kernel, rfl, by decide +kernel, by decide +kernel⟩
theorem product_more {s : List Nat} {i n : Nat} (h : s[i]? = some n) : Vaarrm.product (s.take (i + 1)) = Vaarrm.product (s.take i) * n := by
  unfold Vaarrm.product
  rw [List.take_add_one, h, List.foldl_append]
  rfl
theorem ok_product_of {f : Addr} {fd : FuncData} (F : Fun K "product_of" "product_of" s_product_of f fd) : FnOk P w K mg base CX0 1 f fd ["numbers"] (spProduct K) := by
  refine F.ok sc_product_of (fun vs H Q E h => ?_) (fun cdv A outer s H vs Q E hr h => ?_)
  · obtain ⟨a, sh, rfl, _⟩ := h
    rfl
  · obtain ⟨a, sh, rfl, hS, hb, q⟩ := h
    refine ⟨_, pss_cons (ps_set (i := 1) sc_product_of.nd rfl (Or.inl rfl) pe_int)
      (pss_cons (ps_for PassesOwn.never rfl (pi_list (pv 0)) (pg_name (i := 2) sc_product_of.nd rfl (Or.inl rfl)) (pss_one (ps_aug (i := 1) sc_product_of.nd rfl (.inl rfl) (pv 2) ip_mul)))
      (pss_one (ps_ret (pv 1)))), ?_⟩
    refine ⟨_, rfl, a, rfl, ⟨_, hS⟩, for_list (K := K) (a := a) (xs := bts sh) (fun i σ H' => ∃ v : Option V, σ = [some (.ref a), some (.int (Vaarrm.product (sh.take i) : Nat)), v] ∧ H' = H) ⟨none, rfl, rfl⟩ (fun i σ H' _ ⟨_, _, e⟩ => e ▸ hS) ?_ ?_⟩
    · rintro i y σ H' hi ⟨v, rfl, rfl⟩
      obtain ⟨n, hn, rfl⟩ : ∃ n : Nat, sh[i]? = some n ∧ y = V.int (n : Int) := by
        unfold bts at hi
        rw [List.getElem?_map] at hi
        obtain ⟨z, e1, e2⟩ := Option.map_eq_some_iff.mp hi
        exact ⟨z, e1, e2.symm⟩
      have hle := hb n (List.mem_of_getElem? hn)
      refine ⟨_, rfl, _, rfl, _, _, rfl, rfl, .inr ⟨by omega, by omega⟩, ?_⟩
      refine ⟨some (.int (n : Int)), ?_, rfl⟩
      rw [product_more hn]
      show [some (V.ref a), some (V.int ((Vaarrm.product (sh.take i) : Nat) * (n : Int))), some (V.int (n : Int))] = _
      rw [Int.natCast_mul]
    · rintro σ H' ⟨v, rfl, rfl⟩
      rw [bts_len, List.take_length]
      exact ⟨_, rfl, q⟩
end
end NAp

namespace NAp
open PySem PySem.Spec PyProof.Rows L2 NA NAx
open PySem.W (Codec)
section
variable {P : Program} {w : World} {K : PySem.W.Frag} {mg : Str → Option Value} {base : Heap} {h : Heap}
theorem sc_is_within_limits : FnScope ["value"] ["value"] (defScope s_is_within_limits) := ⟨rfl, rfl, rfl, by decide +kernel, rfl, by decide +kernel, by decide +kernel⟩
theorem ok_is_within_limits {f C f1 f2 : Addr} {fd fd1 fd2 : FuncData} (F : Fun K "is_within_limits" "is_within_limits" s_is_within_limits f fd) (D1 : DefAt K mg "depth_of" s_depth_of ["value"] f1 fd1) (G1 : FnOk P w K mg base CX0 2 f1 fd1 ["value"] (spVal C fun u => .int (depthV u : Nat)))
    (D2 : DefAt K mg "size_of" s_size_of ["value"] f2 fd2) (G2 : FnOk P w K mg base CX0 2 f2 fd2 ["value"] (spVal C fun u => .int (sizeV u : Nat))) (cD : Cn mg "LARGEST_DEPTH" 8) (cS : Cn mg "LARGEST_SIZE" 512) :
    FnOk P w K mg base CX0 3 f fd ["value"] (spVal C fun u => .bl (withinV u)) := by
  refine F.ok sc_is_within_limits (fun vs H Q E h => ?_) (fun cdv A outer s H vs Q E hr h => ?_)
  · obtain ⟨v, u, F0, rfl, _⟩ := h
    rfl
  · obtain ⟨v, u, F0, rfl, sm, rp, q⟩ := h
    refine ⟨_, pss_one (ps_ret (pe_and (pe_cmpR op_le (pe_call G1 hr rfl D1.g D1.fn.kp D1.b .nil pass0 (pa_cons (pv 0) pa_nil)) (pe_cn cD) (nomark _)) (pe_one (pe_cmpR op_le (pe_call G2 hr rfl D2.g D2.fn.kp D2.b .nil pass0 (pa_cons (pv 0) pa_nil)) (pe_cn cS) (nomark _))))), ?_⟩
    refine ⟨_, rfl, v, u, F0, rfl, sm, rp, _, _, rfl, rfl, _, rfl, ?_⟩
    have q : Q (.bl (decide (depthV u ≤ 8) && decide (sizeV u ≤ 512))) H := q
    by_cases c : depthV u ≤ 8
    · rw [decide_eq_true (show (depthV u : Int) ≤ 8 by omega)]
      rw [decide_eq_true c, Bool.true_and] at q
      refine iteT ⟨_, rfl, v, u, F0, rfl, sm, rp, _, _, rfl, rfl, ?_⟩
      have e : decide ((sizeV u : Int) ≤ 512) = decide (sizeV u ≤ 512) := decide_eq_decide.mpr (by omega)
      show Q (.bl (decide ((sizeV u : Int) ≤ 512))) H
      rw [e]
      exact q
    · rw [decide_eq_false (show ¬ (depthV u : Int) ≤ 8 by omega)]
      rw [decide_eq_false c, Bool.false_and] at q
      exact iteF q
end
end NAp

namespace NAp
open PySem PySem.Spec PyProof.Rows L2 NA NAx
open PySem.W (Codec)
section
variable {P : Program} {w : World} {K : PySem.W.Frag} {mg : Str → Option Value} {base : Heap} {h : Heap}
def spIsShape (K : PySem.W.Frag) : Sp := fun vs H Q _ => ∃ (a : Addr) (s : List Nat), vs = [.ref a] ∧ SqL K H a (bts s) ∧ (∀ n ∈ s, n ≤ 1000000000000000000) ∧ ∀ H', Same H H' → Q (.bl (Vaarrm.shapeOk s)) H'
theorem sc_is_shape : FnScope ["extents", "extent"] ["extents"] (defScope s_is_shape) := ⟨rfl, rfl, rfl, by decide +kernel, rfl, by decide +kernel, by decide +kernel⟩
theorem filter_more {s : List Nat} {i n : Nat} (h : s[i]? = some n) : (s.take (i + 1)).filter (fun n => n != 0) = (s.take i).filter (fun n => n != 0) ++ (if n = 0 then [] else [n]) := by
  rw [List.take_add_one, h, List.filter_append]
  congr 1
  by_cases c : n = 0
  · rw [if_pos c, c]
    rfl
  · rw [if_neg c]
    show [n].filter (fun n => n != 0) = [n]
    rw [List.filter_cons, if_pos (bne_iff_ne.mpr c)]
    rfl
theorem ok_is_shape {f f1 : Addr} {fd fd1 : FuncData} (F : Fun K "is_shape" "is_shape" s_is_shape f fd) (D1 : DefAt K mg "product_of" s_product_of ["numbers"] f1 fd1) (G1 : FnOk P w K mg base CX0 1 f1 fd1 ["numbers"] (spProduct K))
    (cM : Cn mg "MOST_EXTENTS" 4) (cL : Cn mg "LARGEST_PRODUCT" 256) (nl : mg "len" = none) : FnOk P w K mg base CX0 2 f fd ["extents"] (spIsShape K) := by
  refine F.ok sc_is_shape (fun vs H Q E h => ?_) (fun cdv A outer s H vs Q E hr h => ?_)
  · obtain ⟨a, sh, rfl, _⟩ := h
    rfl
  · obtain ⟨a, sh, rfl, hS, hb, q⟩ := h
    refine ⟨_, pss_cons (ps_if (pt_cmpR op_gt (pe_callB call_len_seq (by rfl) nl PySem.boot_len (pa_cons (pv 0) pa_nil)) (pe_cn cM) (nomark _)) (pss_one (ps_ret pe_bl)) pss_nil)
      (pss_one (ps_ret (pe_cmpR op_le (pe_call G1 hr rfl D1.g D1.fn.kp D1.b .nil pass0
        (pa_cons (pe_lc (own := [("extent", 1)]) (g := gName 1) rfl sc_is_shape.nd (pi_list (pv 0)) (blkOk_by (N := ["extents", "extent"]) (sc := defScope s_is_shape) (by decide +kernel)) (fun _ _ _ _ _ => pg_name (i := 1) sc_is_shape.nd rfl (Or.inl rfl))
          (fun _ _ _ _ _ => pts_one (pt_cmpR op_ne (pv 1) pe_int (nomark _))) (fun _ _ _ _ _ => pv 1)) pa_nil)) (pe_cn cL) (nomark _)))), ?_⟩
    refine ⟨_, rfl, a, _, rfl, .inl hS, _, _, rfl, rfl, _, rfl, ?_⟩
    rw [bts_len]
    have q : ∀ H', Same H H' → Q (.bl (decide (sh.length ≤ 4) && decide (Vaarrm.product (sh.filter fun n => n != 0) ≤ 256))) H' := q
    by_cases c : sh.length ≤ 4
    · rw [decide_eq_false (show ¬ (4 : Int) < (sh.length : Int) by omega)]
      rw [decide_eq_true c] at q
      refine iteF ?_
      refine ⟨_, rfl, a, rfl, ⟨_, hS⟩, fun D hD => lc_list (K := K) (a := a) (xs := bts sh) (fun j H' => Same H H' ∧ H' D = some (.lst (bts ((sh.take j).filter fun n => n != 0)))) ⟨same_new hD, upd_same⟩ (fun j H' _ hh => hh.1.seq hS) ?_ ?_⟩
      · rintro i y H' hi ⟨s1, hD1⟩
        obtain ⟨n, hn, rfl⟩ : ∃ n : Nat, sh[i]? = some n ∧ y = V.int (n : Int) := by
          unfold bts at hi
          rw [List.getElem?_map] at hi
          obtain ⟨z, e1, e2⟩ := Option.map_eq_some_iff.mp hi
          exact ⟨z, e1, e2.symm⟩
        refine ⟨rfl, _, rfl, rfl, _, rfl, ?_⟩
        rw [dec_k (b := 0) 0 rfl]
        have fm := filter_more hn
        by_cases c0 : n = 0
        · rw [decide_eq_true c0]
          rw [if_pos c0, List.append_nil] at fm
          refine iteF ⟨s1, ?_⟩
          rw [fm]
          exact hD1
        · rw [decide_eq_false c0]
          rw [if_neg c0] at fm
          refine iteT ⟨_, rfl, _, hD1, ?_, ?_, ?_⟩
          · rw [bts_len]
            have h1 := List.length_filter_le (fun n => n != 0) (sh.take i)
            rw [List.length_take] at h1
            exact Nat.lt_of_le_of_lt (Nat.le_trans h1 (Nat.le_trans (Nat.min_le_right _ _) c)) (by decide)
          · intro b o e
            rw [upd_ne (ne_of_none e hD)]
            exact s1 b o e
          · rw [upd_same, fm]
            unfold bts
            rw [List.map_append]
            rfl
      · rintro H' ⟨s1, hD1⟩
        rw [bts_len, List.take_length] at hD1
        refine ⟨D, _, rfl, SqL.of hD1, fun n hn => hb n (List.mem_filter.mp hn).1, _, _, rfl, rfl, ?_⟩
        have e : decide (((Vaarrm.product (sh.filter fun n => n != 0) : Nat) : Int) ≤ 256) = decide (Vaarrm.product (sh.filter fun n => n != 0) ≤ 256) := decide_eq_decide.mpr (by omega)
        show Q (.bl (decide (((Vaarrm.product (sh.filter fun n => n != 0) : Nat) : Int) ≤ 256))) H'
        rw [e]
        exact q H' s1
    · rw [decide_eq_true (show (4 : Int) < (sh.length : Int) by omega)]
      rw [decide_eq_false c, Bool.false_and] at q
      exact iteT (q H (Same.refl H))
end
end NAp

namespace NAp
open PySem PySem.Spec PyProof.Rows L2 NA NAx
open PySem.W (Codec)
section
variable {P : Program} {w : World} {K : PySem.W.Frag} {mg : Str → Option Value} {base : Heap} {h : Heap}
def spNumberTold (K : PySem.W.Frag) : Sp := fun vs H Q _ => ∃ (a : Addr) (t : List Nat) (i e : Nat), vs = [.ref a, .int (i : Int), .int (e : Int)] ∧ Tx K H a t ∧ i < t.length ∧ t.length ≤ 8192 ∧ e ≤ t.length ∧ first t i ≤ e ∧ (∀ c ∈ (t.drop (first t i)).take (e - first t i), 48 ≤ c) ∧
  Q (.int (numTold t i e)) H
theorem sc_number_told : FnScope ["text", "start", "end", "number", "position"] ["text", "start", "end"] (defScope s_number_told) := ⟨rfl, rfl, rfl, by decide +kernel, rfl, by decide +kernel, by decide +kernel⟩
theorem valueOf_snoc (l : List Nat) (c : Nat) : Vaarrm.valueOf (l ++ [c]) = 10 * Vaarrm.valueOf l + (c - 48) := by
  unfold Vaarrm.valueOf
  rw [List.foldl_append]
  rfl
theorem ok_number_told {f f1 : Addr} {fd fd1 : FuncData} (F : Fun K "number_told" "number_told" s_number_told f fd) (D1 : DefAt K mg "digits_start" s_digits_start ["text", "start"] f1 fd1) (G1 : FnOk P w K mg base CX0 1 f1 fd1 ["text", "start"] (spDigitsStart K))
    (cZ : Cn mg "ZERO" 48) (cM : Cn mg "MINUS" 95) (nr : mg "range" = none) : FnOk P w K mg base CX0 2 f fd ["text", "start", "end"] (spNumberTold K) := by
  refine F.ok sc_number_told (fun vs H Q E h => ?_) (fun cdv A outer s H vs Q E hr h => ?_)
  · obtain ⟨a, t, i, e, rfl, _⟩ := h
    rfl
  · obtain ⟨a, t, i, e, rfl, hT, hi, hl, he, hf, hd, q⟩ := h
    refine ⟨_, pss_cons (ps_set (i := 3) sc_number_told.nd rfl (Or.inl rfl) pe_int)
      (pss_cons (ps_for PassesOwn.never rfl (pi_range2 (by rfl) nr (pa_cons (pe_call G1 hr rfl D1.g D1.fn.kp D1.b .nil pass0 (pa_cons (pv 0) (pa_cons (pv 1) pa_nil))) (pa_cons (pv 2) pa_nil))) (pg_name (i := 4) sc_number_told.nd rfl (Or.inl rfl))
        (pss_one (ps_set (i := 3) sc_number_told.nd rfl (Or.inl rfl) (pe_op op_sub (pe_op op_add (pe_op op_mul (pv 3) pe_int) (pe_ix ix_list (pv 0) (pv 4) (fun _ _ => rfl))) (pe_cn cZ)))))
      (pss_one (ps_ret (pe_ifExp (pt_cmpR op_eq (pe_ix ix_list (pv 0) (pv 1) (fun _ _ => rfl)) (pe_cn cM) (nomark _)) (pe_un un_neg (pv 3)) (pv 3))))), ?_⟩
    refine ⟨_, rfl, _, rfl, a, t, i, rfl, hT, hi, ?_⟩
    have en : ((e : Int) - (first t i : Int)).toNat = e - first t i := by omega
    refine ⟨_, rfl, (first t i : Int), (e : Int), rfl, ⟨by omega, by omega, by omega, by omega⟩, ?_⟩
    rw [en]
    refine for_range (lo := (first t i : Int)) (n := e - first t i) (fun j σ H' => ∃ v : Option V, σ = [some (.ref a), some (.int (i : Int)), some (.int (e : Int)), some (.int (Vaarrm.valueOf ((t.drop (first t i)).take j) : Nat)), v] ∧ H' = H) ⟨none, rfl, rfl⟩ ?_ ?_
    · rintro j σ H' hj ⟨v, rfl, rfl⟩
      have hlt : first t i + j < t.length := by omega
      have hc : (t.drop (first t i))[j]? = some (t.getD (first t i + j) 0) := by
        rw [List.getElem?_drop, List.getElem?_eq_getElem hlt, List.getD_eq_getElem?_getD, List.getElem?_eq_getElem hlt]
        rfl
      have hts : (t.drop (first t i)).take (j + 1) = (t.drop (first t i)).take j ++ [t.getD (first t i + j) 0] := by
        rw [List.take_add_one, hc]
        rfl
      have h48 : 48 ≤ t.getD (first t i + j) 0 := by
        refine hd _ ?_
        have : ((t.drop (first t i)).take (e - first t i))[j]? = some (t.getD (first t i + j) 0) := by
          rw [List.getElem?_take_of_lt hj]
          exact hc
        exact List.mem_of_getElem? this
      have eix : (first t i : Int) + (j : Int) = ((first t i + j : Nat) : Int) := by omega
      rw [eix]
      refine ⟨_, rfl, _, _, rfl, rfl, .inr ⟨by decide, by decide⟩, _, rfl, _, rfl, a, _, _, _, rfl, rfl, hT, bts_at hlt, _, _, rfl, rfl, _, _, rfl, rfl, ?_⟩
      refine ⟨some (.int ((first t i + j : Nat) : Int)), ?_, rfl⟩
      rw [hts, valueOf_snoc]
      show [some (V.ref a), some (V.int (i : Int)), some (V.int (e : Int)), some (V.int ((Vaarrm.valueOf ((t.drop (first t i)).take j) : Nat) * (10 : Int) + (t.getD (first t i + j) 0 : Nat) - 48)), some (V.int ((first t i + j : Nat) : Int))] = _
      have ev : ((Vaarrm.valueOf ((t.drop (first t i)).take j) : Nat) : Int) * (10 : Int) + ((t.getD (first t i + j) 0 : Nat) : Int) - 48 = ((10 * Vaarrm.valueOf ((t.drop (first t i)).take j) + (t.getD (first t i + j) 0 - 48) : Nat) : Int) := by omega
      rw [ev]
    · rintro σ H' ⟨v, rfl, rfl⟩
      refine ⟨_, rfl, _, rfl, a, _, _, _, rfl, rfl, hT, bts_at hi, rfl, _, rfl, ?_⟩
      rw [dec_k (b := 95) 95 rfl]
      unfold numTold at q
      by_cases c : t.getD i 0 = 95
      · rw [decide_eq_true c]
        rw [if_pos c] at q
        exact iteT ⟨_, rfl, _, rfl, q⟩
      · rw [decide_eq_false c]
        rw [if_neg c] at q
        exact iteF ⟨_, rfl, q⟩
end
end NAp

namespace NAp
open PySem PySem.Spec PyProof.Rows L2 NA NAx
open PySem.W (Codec)
section
variable {P : Program} {w : World} {K : PySem.W.Frag} {mg : Str → Option Value} {base : Heap} {h : Heap}
/-- whether a number isn't too far from 0 -/
def spInRange : Sp := fun vs H Q _ => ∃ n : Int, vs = [.int n] ∧ Q (.bl (decide (n.natAbs ≤ 1000000000000000000))) H
theorem sc_is_in_range : FnScope ["number"] ["number"] (defScope s_is_in_range) := ⟨rfl, rfl, rfl, by decide +kernel, rfl, by decide +kernel, by decide +kernel⟩
theorem abs_of (n : Int) : (if n < 0 then -n else n) = (n.natAbs : Int) := by
  by_cases c : n < 0
  · rw [if_pos c]; omega
  · rw [if_neg c]; omega
theorem ok_is_in_range {f : Addr} {fd : FuncData} (F : Fun K "is_in_range" "is_in_range" s_is_in_range f fd) (na : mg "abs" = none) (cL : Cn mg "LARGEST_NUMBER" 1000000000000000000) : FnOk P w K mg base CX0 1 f fd ["number"] spInRange := by
  refine F.ok sc_is_in_range (fun vs H Q E h => ?_) (fun cdv A outer s H vs Q E hr h => ?_)
  · obtain ⟨n, rfl, _⟩ := h
    rfl
  · obtain ⟨n, rfl, q⟩ := h
    refine ⟨_, pss_one (ps_ret (pe_cmpR op_le (pe_callB call_abs (by rfl) na (by decide +kernel) (pa_cons (pv 0) pa_nil)) (pe_cn cL) (nomark _))), ?_⟩
    refine ⟨_, rfl, _, rfl, _, _, rfl, rfl, ?_⟩
    show Q (.bl (decide ((if n < 0 then -n else n) ≤ 1000000000000000000))) H
    rw [abs_of, show decide ((n.natAbs : Int) ≤ 1000000000000000000) = decide (n.natAbs ≤ 1000000000000000000) from decide_eq_decide.mpr (by omega)]
    exact q
end
end NAp

namespace NAp
open PySem PySem.Spec PyProof.Rows L2 NA NAx
open PySem.W (Codec)
section
variable {P : Program} {w : World} {K : PySem.W.Frag} {mg : Str → Option Value} {base : Heap} {h : Heap}
/-- a number that's no greater than it may be is given back -/
def spCheckedNumber (K : PySem.W.Frag) (mg : Str → Option Value) (CR : Addr) : Sp := fun vs H Q E => ∃ n : Int, vs = [.int n] ∧ (¬ n.natAbs ≤ 1000000000000000000 → ∀ H', Same H H' → OutR K mg CR E (-3) H') ∧ (n.natAbs ≤ 1000000000000000000 → Q (.int n) H)
theorem sc_checked_number : FnScope ["number"] ["number"] (defScope s_checked_number) := ⟨rfl, rfl, rfl, by decide +kernel, rfl, by decide +kernel, by decide +kernel⟩
theorem ok_checked_number {f f1 CR CB fB : Addr} {fd fd1 fdB : FuncData} (F : Fun K "checked_number" "checked_number" s_checked_number f fd) (T : RefCls K mg CR "BigRefusal" CB fB) (G : FnOk P w K mg base CX0 2 fB fdB ["self"] (spOInit K (-3))) (hb : Binds K fdB ["self"] [])
    (D1 : DefAt K mg "is_in_range" s_is_in_range ["number"] f1 fd1) (G1 : FnOk P w K mg base CX0 1 f1 fd1 ["number"] spInRange) : FnOk P w K mg base (L2.CX P w) 4 f fd ["number"] (spCheckedNumber K mg CR) := by
  refine F.okX sc_checked_number (fun vs H Q E h => ?_) (fun cdv A outer s H vs Q E hr h => ?_)
  · obtain ⟨n, rfl, _⟩ := h
    rfl
  · obtain ⟨n, rfl, hE, hQ⟩ := h
    refine ⟨_, pss_cons (ps_if (pt_not (pt_val (pe_call G1 (hr.mono (by decide)) rfl D1.g D1.fn.kp D1.b .nil pass0 (pa_cons (pv 0) pa_nil)))) (pss_one (ps_refuse rfl (takes_of rfl rfl rfl rfl) T G hr hb (by rfl))) pss_nil)
      (pss_one (ps_ret (pv 0))), ?_⟩
    refine ⟨_, rfl, n, rfl, _, rfl, ?_⟩
    by_cases c : n.natAbs ≤ 1000000000000000000
    · rw [decide_eq_true c]
      exact iteF ⟨_, rfl, hQ c⟩
    · rw [decide_eq_false c]
      exact iteT (hE c H (Same.refl H) _ _ _ T)
theorem bounded_ok {n : Int} (h : n.natAbs ≤ 1000000000000000000) : Vaarrm.bounded n = .ok (.num n) := by
  refine if_pos ?_
  unfold Vaarrm.G
  omega
theorem bounded_no {n : Int} (h : ¬ n.natAbs ≤ 1000000000000000000) : Vaarrm.bounded n = .error (-3) := by
  refine if_neg ?_
  unfold Vaarrm.G
  omega
end
end NAp

namespace NAp
open PySem PySem.Spec PyProof.Rows L2 NA NAx
open PySem.W (Codec)
section
variable {P : Program} {w : World} {K : PySem.W.Frag} {mg : Str → Option Value} {base : Heap} {h : Heap}
def spCheckNumbers (K : PySem.W.Frag) (mg : Str → Option Value) (CR : Addr) : Sp := fun vs H Q E => ∃ (a tp : Addr) (t : List Nat) (r : List (Nat × Nat)), vs = [.ref a, .ref tp] ∧ Tx K H a t ∧ t.length ≤ 8192 ∧ TokL H tp r ∧ Genuine t r ∧ (∀ z ∈ r, z.2 ≠ z.1) ∧
  (r.all (tokSmall t) = false → ∀ H', Same H H' → OutR K mg CR E (-3) H') ∧ (r.all (tokSmall t) = true → Q .non H)
theorem sc_check_numbers : FnScope ["text", "tokens", "start", "end"] ["text", "tokens"] (defScope s_check_numbers) := ⟨rfl, rfl, rfl, by decide +kernel, rfl, by decide +kernel, by decide +kernel⟩
theorem all_take_more {α : Type} {p : α → Bool} {l : List α} {i : Nat} {x : α} (h : l[i]? = some x) : (l.take (i + 1)).all p = ((l.take i).all p && p x) := by
  rw [List.take_add_one, h, List.all_append]
  show ((l.take i).all p && (p x && true)) = _
  rw [Bool.and_true]
theorem all_false_of {α : Type} {p : α → Bool} {l : List α} {i : Nat} {x : α} (h : l[i]? = some x) (hp : p x = false) : l.all p = false := by
  cases e : l.all p with
  | false => rfl
  | true =>
    have := List.all_eq_true.mp e x (List.mem_of_getElem? h)
    rw [hp] at this
    cases this
theorem ok_check_numbers {f f1 f2 CR : Addr} {fd fd1 fd2 : FuncData} (F : Fun K "check_numbers" "check_numbers" s_check_numbers f fd) (hS : Ct K mg "SIGNS" [.int 91, .int 58, .int 93])
    (D1 : DefAt K mg "number_told" s_number_told ["text", "start", "end"] f1 fd1) (G1 : FnOk P w K mg base CX0 2 f1 fd1 ["text", "start", "end"] (spNumberTold K))
    (D2 : DefAt K mg "checked_number" s_checked_number ["number"] f2 fd2) (G2 : FnOk P w K mg base (L2.CX P w) 4 f2 fd2 ["number"] (spCheckedNumber K mg CR)) : FnOk P w K mg base (L2.CX P w) 5 f fd ["text", "tokens"] (spCheckNumbers K mg CR) := by
  obtain ⟨aS, gS, tS⟩ := hS
  refine F.okX sc_check_numbers (fun vs H Q E h => ?_) (fun cdv A outer s H vs Q E hr h => ?_)
  · obtain ⟨a, tp, t, r, rfl, _⟩ := h
    rfl
  · obtain ⟨a, tp, t, r, rfl, hT, hl, ⟨qs, hqs, htu⟩, hg, hn, hE, hQ⟩ := h
    have hr2 : Room 2 _ := hr.mono (by decide)
    refine ⟨_, pss_one (ps_for (passes_of rfl) rfl (pi_list (pv 1)) (pg_tup rfl (pgs_cons (pg_name (i := 2) sc_check_numbers.nd rfl (Or.inl rfl)) (pgs_cons (pg_name (i := 3) sc_check_numbers.nd rfl (Or.inl rfl)) pgs_nil)))
      (pss_one (ps_if (pt_cmpR op_notIn_seq (pe_ix ix_list (pv 0) (pv 2) (fun _ _ => rfl)) (pe_ct gS) (by rfl))
        (pss_one (ps_expr (pe_call G2 hr rfl D2.g D2.fn.kp D2.b .nil (passes_call (takes_of rfl rfl rfl rfl) (fun _ _ _ _ z => z)) (pa_cons (pe_call G1 hr2 rfl D1.g D1.fn.kp D1.b .nil pass0 (pa_cons (pv 0) (pa_cons (pv 2) (pa_cons (pv 3) pa_nil)))) pa_nil)))) pss_nil))), ?_⟩
    refine ⟨_, rfl, tp, rfl, ⟨_, SqL.of hqs⟩, for_list (K := K) (a := tp) (xs := qs.map V.ref) (fun i σ H' => ∃ v1 v2 : Option V, σ = [some (.ref a), some (.ref tp), v1, v2] ∧ H' = H ∧ (r.take i).all (tokSmall t) = true) ⟨none, none, rfl, rfl, rfl⟩ (fun i σ H' _ ⟨_, _, _, e, _⟩ => e ▸ SqL.of hqs) ?_ ?_⟩
    · rintro i y σ H' hi ⟨v1, v2, rfl, rfl, ha⟩
      obtain ⟨qa, hqa, rfl⟩ : ∃ z, qs[i]? = some z ∧ y = V.ref z := by
        rw [List.getElem?_map] at hi
        obtain ⟨z, e1, e2⟩ := Option.map_eq_some_iff.mp hi
        exact ⟨z, e1, e2.symm⟩
      obtain ⟨x, hx, htx⟩ := htu.at hqa
      have hxr : x ∈ r := List.mem_of_getElem? hx
      obtain ⟨g1, g2⟩ := hg x hxr
      have more := all_take_more (p := tokSmall t) hx
      rw [ha, Bool.true_and] at more
      refine ⟨qa, _, rfl, SqT.of htx, rfl, _, _, rfl, _, _, rfl, rfl, ?_⟩
      refine ⟨_, rfl, _, rfl, a, _, _, _, rfl, rfl, hT, bts_at g1, aS, _, rfl, .inr (tS _), rfl, rfl, _, rfl, ?_⟩
      rw [if_pos rfl, inSigns]
      by_cases c : isSign (t.getD x.1 0) = true
      · rw [c]
        refine iteF ⟨_, _, rfl, rfl, ?_⟩
        rw [more]
        unfold tokSmall
        rw [c]
        rfl
      · have c' := Bool.eq_false_iff.mpr c
        rw [c']
        obtain ⟨d1, d2⟩ := tok_digits g2 (hn x hxr) c'
        have hle := tokenEnd_le g1
        refine iteT ⟨_, rfl, _, rfl, _, rfl, a, t, x.1, x.2, rfl, hT, g1, hl, by omega, d1, d2, _, rfl, fun cs => ?_, fun cs => ⟨_, _, rfl, rfl, ?_⟩⟩
        · refine hE (all_false_of hx ?_)
          unfold tokSmall
          rw [c', decide_eq_false cs]
          rfl
        · rw [more]
          unfold tokSmall
          rw [c', decide_eq_true cs]
          rfl
    · rintro σ H' ⟨v1, v2, rfl, rfl, ha⟩
      rw [List.length_map, htu.len, List.take_length] at ha
      exact hQ ha
end
end NAp

namespace NAp
open PySem PySem.Spec PyProof.Rows L2 NA NAx
open PySem.W (Codec)
section
variable {P : Program} {w : World} {K : PySem.W.Frag} {mg : Str → Option Value} {base : Heap} {h : Heap}
def spArrayTold (K : PySem.W.Frag) (C CS : Addr) : Sp := fun vs H Q E => ∃ (ea pa : Addr) (s : List Nat) (ys : List V) (l : List Vaarrm.V) (F : Hp), vs = [.ref ea, .ref pa] ∧ SqL K H ea (bts s) ∧ (∀ n ∈ s, n ≤ 1000000000000000000) ∧ SqL K H pa ys ∧ Same F H ∧ Reps C F ys l ∧ l.length ≤ 9000 ∧
  ((Vaarrm.shapeOk s && decide (l.length = Vaarrm.product s)) = false → ∀ H', Same H H' → Out E CS (-4) H') ∧ ((Vaarrm.shapeOk s && decide (l.length = Vaarrm.product s)) = true → ∀ (H' F' : Hp) (v : V), Grow F H F' H' → Rep C F' v (Vaarrm.made s l) → Q v H')
theorem sc_array_told : FnScope ["extents", "parts"] ["extents", "parts"] (defScope s_array_told) := ⟨rfl, rfl, rfl, by decide +kernel, rfl, by decide +kernel, by decide +kernel⟩
theorem ok_array_told {f f1 f2 f3 C CR CS fS : Addr} {fd fd1 fd2 fd3 fdS : FuncData} (F : Fun K "array_told" "array_told" s_array_told f fd) (nl : mg "len" = none)
    (D1 : DefAt K mg "is_shape" s_is_shape ["extents"] f1 fd1) (G1 : FnOk P w K mg base CX0 2 f1 fd1 ["extents"] (spIsShape K))
    (D2 : DefAt K mg "product_of" s_product_of ["numbers"] f2 fd2) (G2 : FnOk P w K mg base CX0 1 f2 fd2 ["numbers"] (spProduct K))
    (D3 : DefAt K mg "array_of" s_array_of ["extents", "parts"] f3 fd3) (G3 : FnOk P w K mg base CX0 5 f3 fd3 ["extents", "parts"] (spArrayOf K C))
    (T : RefCls K mg CR "ShapeRefusal" CS fS) (G : FnOk P w K mg base CX0 2 fS fdS ["self"] (spOInit K (-4))) (hb : Binds K fdS ["self"] []) : FnOk P w K mg base (L2.CX P w) 6 f fd ["extents", "parts"] (spArrayTold K C CS) := by
  refine F.okX sc_array_told (fun vs H Q E h => ?_) (fun cdv A outer s H vs Q E hr h => ?_)
  · obtain ⟨ea, pa, sh, ys, l, F, rfl, _⟩ := h
    rfl
  · obtain ⟨ea, pa, sh, ys, l, F0, rfl, hEx, hsm, hPa, sm, rp, hl, hE, hQ⟩ := h
    have hr1 : Room 1 _ := hr.mono (by decide)
    have hr2 : Room 2 _ := hr.mono (by decide)
    have hr3 : Room 3 _ := hr.mono (by decide)
    refine ⟨_, pss_cons (ps_if (PW.pt (pw_or (pt_not (pt_val (pe_call G1 hr2 rfl D1.g D1.fn.kp D1.b .nil pass0 (pa_cons (pv 0) pa_nil))))
          (pw_or1 (pt_cmpR op_ne (pe_call G2 hr1 rfl D2.g D2.fn.kp D2.b .nil pass0 (pa_cons (pv 0) pa_nil)) (pe_callB call_len_seq (by rfl) nl PySem.boot_len (pa_cons (pv 1) pa_nil)) (nomark _)))))
        (pss_one (ps_refuse rfl (takes_of rfl rfl rfl rfl) T G hr3 hb (by rfl))) pss_nil)
      (pss_one (ps_ret (pe_call G3 hr rfl D3.g D3.fn.kp D3.b .nil pass0 (pa_cons (pv 0) (pa_cons (pv 1) pa_nil))))), ?_⟩
    refine ⟨_, rfl, ea, sh, rfl, hEx, hsm, fun H1 s1 => ⟨_, rfl, ?_⟩⟩
    by_cases c : Vaarrm.shapeOk sh = true
    · rw [c]
      rw [c] at hE hQ
      refine iteF ⟨_, rfl, ea, sh, rfl, s1.seq hEx, hsm, _, rfl, pa, _, rfl, .inl (s1.seq hPa), rfl, _, rfl, ?_⟩
      rw [rp.len, dec_nat (a := Vaarrm.product sh) (b := l.length) rfl rfl]
      by_cases c2 : Vaarrm.product sh = l.length
      · rw [decide_eq_true c2]
        rw [decide_eq_true c2.symm] at hQ
        refine iteF ⟨_, rfl, _, rfl, ea, pa, sh, ys, l, F0, rfl, s1.seq hEx, s1.seq hPa, sm.trans s1, rp, hl, fun z => ?_, fun H' F' v gr rv => hQ rfl H' F' v ?_ rv⟩
        · rw [z] at c2
          exact c2.symm
        · exact (Grow.refl sm).more s1 |>.trans gr
      · rw [decide_eq_false c2]
        rw [decide_eq_false (fun z => c2 z.symm)] at hE
        exact iteT (hE rfl H1 s1)
    · have c' := Bool.eq_false_iff.mpr c
      rw [c'] at hE
      rw [c']
      exact iteT (iteT (hE rfl H1 s1))
end
end NAp

namespace NAp
open PySem PySem.Spec PyProof.Rows L2 NA NAx
open PySem.W (Codec)
section
variable {P : Program} {w : World} {K : PySem.W.Frag} {mg : Str → Option Value} {base : Heap} {h : Heap}
/-- one of the lists that are begun: it is new since H0, nothing of it stands fast in F, and it holds the values of what's told -/
def Node (C : Addr) (H0 F H : Hp) (q : Addr) (l : List Vaarrm.Told) : Prop := H0 q = none ∧ F q = none ∧ ∃ vs, H q = some (.lst vs) ∧ Reps C F vs (l.map valT)
def Stk (C : Addr) (H0 F H : Hp) : List Addr → List (List Vaarrm.Told) → Prop
  | [], [] => True
  | q :: qs, l :: S => Node C H0 F H q l ∧ Stk C H0 F H qs S
  | _, _ => False
theorem Stk.len {C : Addr} {H0 F H : Hp} : ∀ {qs : List Addr} {S : List (List Vaarrm.Told)}, Stk C H0 F H qs S → qs.length = S.length
  | [], [], _ => rfl
  | _ :: _, _ :: _, h => by rw [List.length_cons, List.length_cons, Stk.len h.2]
  | [], _ :: _, h => h.elim
  | _ :: _, [], h => h.elim
theorem Stk.snoc {C : Addr} {H0 F H : Hp} {q : Addr} {l : List Vaarrm.Told} (h : Node C H0 F H q l) : ∀ {qs : List Addr} {S : List (List Vaarrm.Told)}, Stk C H0 F H qs S → Stk C H0 F H (qs ++ [q]) (S ++ [l])
  | [], [], _ => ⟨h, True.intro⟩
  | _ :: _, _ :: _, r => ⟨r.1, Stk.snoc h r.2⟩
  | [], _ :: _, r => r.elim
  | _ :: _, [], r => r.elim
theorem Stk.last {C : Addr} {H0 F H : Hp} {l : List Vaarrm.Told} : ∀ {S : List (List Vaarrm.Told)} {qs : List Addr}, Stk C H0 F H qs (S ++ [l]) → ∃ qs' q, qs = qs' ++ [q] ∧ Stk C H0 F H qs' S ∧ Node C H0 F H q l
  | [], [q], h => ⟨[], q, rfl, True.intro, h.1⟩
  | [], [], h => h.elim
  | [], _ :: _ :: _, h => h.2.elim
  | s :: S, [], h => h.elim
  | s :: S, q :: qs, h => by
    obtain ⟨qs', q', e, h1, h2⟩ := Stk.last (S := S) h.2
    exact ⟨q :: qs', q', by rw [e]; rfl, ⟨h.1, h1⟩, h2⟩
/-- the lists stay where all else is touched -/
theorem Stk.up {C : Addr} {H0 F F' H H' : Hp} (ff : Same F F') (nw : ∀ q, H0 q = none → F q = none → (∃ vs, H q = some (.lst vs)) → F' q = none) : ∀ {qs : List Addr} {S : List (List Vaarrm.Told)}, (∀ q ∈ qs, ∀ o, H q = some o → H' q = some o) → Stk C H0 F H qs S → Stk C H0 F' H' qs S
  | [], [], _, _ => True.intro
  | q :: qs, l :: S, k, h => by
    obtain ⟨⟨h1, h2, vs, h3, h4⟩, h5⟩ := h
    exact ⟨⟨h1, nw q h1 h2 ⟨vs, h3⟩, vs, k q (List.mem_cons_self ..) _ h3, h4.up ff⟩, Stk.up ff nw (fun p hp => k p (List.mem_cons_of_mem _ hp)) h5⟩
  | [], _ :: _, _, h => h.elim
  | _ :: _, [], _, h => h.elim
theorem Stk.there {C : Addr} {H0 F H : Hp} : ∀ {qs : List Addr} {S : List (List Vaarrm.Told)}, Stk C H0 F H qs S → ∀ q ∈ qs, H0 q = none ∧ F q = none ∧ ∃ vs, H q = some (.lst vs)
  | q :: qs, l :: S, h, p, hp => by
    rcases List.mem_cons.mp hp with rfl | hp
    · obtain ⟨⟨h1, h2, vs, h3, _⟩, _⟩ := h
      exact ⟨h1, h2, vs, h3⟩
    · exact Stk.there h.2 p hp
  | [], [], _, p, hp => by cases hp
  | [], _ :: _, h, _, _ => h.elim
  | _ :: _, [], h, _, _ => h.elim
/-- between two tokens: the list of lists at L, the lists at qs -/
structure RdL (C L : Addr) (H0 F0 F H : Hp) (qs : List Addr) (S : List (List Vaarrm.Told)) (i : Nat) : Prop where
  gr : Grow F0 H0 F H
  l0 : H0 L = none
  lf : F L = none
  hl : H L = some (.lst (qs.map V.ref))
  nd : (L :: qs).Nodup
  stk : Stk C H0 F H qs S
  cnt : qs.length ≤ i + 1
  len : ∀ l ∈ S, l.length ≤ i
section
variable {C L : Addr} {H0 F0 F H : Hp} {qs : List Addr} {S : List (List Vaarrm.Told)} {i : Nat}
theorem RdL.push (R : RdL C L H0 F0 F H qs S i) {q : Addr} (hq : H q = none) : RdL C L H0 F0 F (upd (upd H q (.lst [])) L (.lst (qs.map V.ref ++ [.ref q]))) (qs ++ [q]) (S ++ [[]]) (i + 1) := by
  have q0 : H0 q = none := R.gr.hh.free hq
  have qf : F q = none := R.gr.fh.free hq
  have qL : q ≠ L := fun z => by
    rw [z, R.hl] at hq
    cases hq
  have nin : ∀ p ∈ qs, p ≠ q ∧ p ≠ L := fun p hp => by
    obtain ⟨_, _, vs, e⟩ := R.stk.there p hp
    exact ⟨ne_of_none e hq, fun z => (List.nodup_cons.mp R.nd).1 (z ▸ hp)⟩
  refine ⟨⟨fun b o e => ?_, R.gr.ff, fun b o e => ?_, R.gr.new⟩, R.l0, R.lf, ?_, ?_, ?_, ?_, ?_⟩
  · rw [upd_ne (ne_of_none e R.l0), upd_ne (ne_of_none e q0)]
    exact R.gr.hh b o e
  · rw [upd_ne (ne_of_none e R.lf), upd_ne (ne_of_none e qf)]
    exact R.gr.fh b o e
  · rw [upd_same, List.map_append]
    rfl
  · rw [← List.cons_append]
    refine List.nodup_append.mpr ⟨R.nd, by simp, fun a ha b hb => ?_⟩
    rw [List.mem_singleton.mp hb]
    rcases List.mem_cons.mp ha with rfl | ha
    · exact fun z => qL z.symm
    · exact (nin a ha).1
  · refine Stk.snoc ⟨q0, qf, [], ?_, .nil⟩ (R.stk.up (Same.refl F) (fun _ _ z _ => z) fun p hp o e => ?_)
    · rw [upd_ne qL, upd_same]
    · rw [upd_ne (nin p hp).2, upd_ne (nin p hp).1]
      exact e
  · rw [List.length_append]
    have := R.cnt
    show qs.length + 1 ≤ i + 1 + 1
    omega
  · intro l hl
    rcases List.mem_append.mp hl with hl | hl
    · exact Nat.le_succ_of_le (R.len l hl)
    · rw [List.mem_singleton.mp hl]
      exact Nat.zero_le _
theorem RdL.pop {l : List Vaarrm.Told} (R : RdL C L H0 F0 F H qs (S ++ [l]) i) : ∃ qs' q, qs = qs' ++ [q] ∧ RdL C L H0 F0 F (upd H L (.lst (qs'.map V.ref))) qs' S i ∧ Node C H0 F (upd H L (.lst (qs'.map V.ref))) q l ∧ q ∉ L :: qs' := by
  obtain ⟨qs', q, rfl, st', nq⟩ := R.stk.last
  have nd := R.nd
  rw [← List.cons_append] at nd
  obtain ⟨nd1, _, nd2⟩ := List.nodup_append.mp nd
  have qn : q ∉ L :: qs' := fun z => nd2 q z q (List.mem_singleton.mpr rfl) rfl
  have qL : q ≠ L := fun z => qn (z ▸ List.mem_cons_self ..)
  refine ⟨qs', q, rfl, ⟨⟨fun b o e => ?_, R.gr.ff, fun b o e => ?_, R.gr.new⟩, R.l0, R.lf, upd_same, nd1, ?_, ?_, fun m hm => R.len m (List.mem_append_left _ hm)⟩, ?_, qn⟩
  · rw [upd_ne (ne_of_none e R.l0)]
    exact R.gr.hh b o e
  · rw [upd_ne (ne_of_none e R.lf)]
    exact R.gr.fh b o e
  · refine st'.up (Same.refl F) (fun _ _ z _ => z) fun p hp o e => ?_
    have np : p ≠ L := fun z => (List.nodup_cons.mp nd1).1 (by rw [← z]; exact hp)
    rw [upd_ne np]
    exact e
  · have := R.cnt
    rw [List.length_append] at this
    exact Nat.le_trans (Nat.le_add_right _ _) this
  · obtain ⟨h1, h2, vs, h3, h4⟩ := nq
    exact ⟨h1, h2, vs, by rw [upd_ne qL]; exact h3, h4⟩
/-- a value goes into the last list; what it was reckoned by has left other objects -/
theorem RdL.app {l : List Vaarrm.Told} {x : Vaarrm.Told} {v : V} {F1 H1 : Hp} {qs' : List Addr} {q : Addr} {vs : List V} (R : RdL C L H0 F0 F H (qs' ++ [q]) (S ++ [l]) i) (g1 : Grow F H F1 H1) (hv : H1 q = some (.lst vs)) (rv : Rep C F1 v (valT x)) :
    vs.length ≤ i ∧ RdL C L H0 F0 F1 (upd H1 q (.lst (vs ++ [v]))) (qs' ++ [q]) (S ++ [l ++ [x]]) (i + 1) := by
  obtain ⟨qs2, q2, e2, st', nq⟩ := R.stk.last
  obtain ⟨eA, eB⟩ := List.append_inj' e2 rfl
  subst eA
  have eq : q = q2 := (List.cons.inj eB).1
  subst eq
  obtain ⟨q0, qf, ws, hws, rws⟩ := nq
  have ew : ws = vs := by
    have := g1.hh _ _ hws
    rw [hv] at this
    exact (HO.lst.inj (Option.some.inj this)).symm
  subst ew
  have nd := R.nd
  rw [← List.cons_append] at nd
  obtain ⟨nd1, _, nd2⟩ := List.nodup_append.mp nd
  have nq : ∀ p ∈ L :: qs', p ≠ q := fun p hp => nd2 p hp q (List.mem_singleton.mpr rfl)
  have f1q : F1 q = none := g1.new _ _ hws qf
  have lenl : ws.length = l.length := by rw [rws.len, List.length_map]
  have hlen := R.len l (List.mem_append_right _ (List.mem_singleton.mpr rfl))
  refine ⟨by omega, ⟨⟨fun b o e => ?_, R.gr.ff.trans g1.ff, fun b o e => ?_, fun b o e n => g1.new _ _ (R.gr.hh _ _ e) (R.gr.new _ _ e n)⟩, R.l0, g1.new _ _ R.hl R.lf, ?_, R.nd, ?_, Nat.le_succ_of_le R.cnt, ?_⟩⟩
  · rw [upd_ne (ne_of_none e q0)]
    exact g1.hh _ _ (R.gr.hh b o e)
  · rw [upd_ne (ne_of_none e f1q)]
    exact g1.fh b o e
  · rw [upd_ne (nq L (List.mem_cons_self ..))]
    exact g1.hh _ _ R.hl
  · refine Stk.snoc ⟨q0, f1q, ws ++ [v], upd_same, ?_⟩ (st'.up g1.ff (fun p _ hf ⟨us, hu⟩ => g1.new _ _ hu hf) fun p hp o e => ?_)
    · rw [List.map_append]
      exact (rws.up g1.ff).snoc rv
    · rw [upd_ne (nq p (List.mem_cons_of_mem _ hp))]
      exact g1.hh _ _ e
  · intro m hm
    rcases List.mem_append.mp hm with hm | hm
    · exact Nat.le_succ_of_le (R.len m (List.mem_append_left _ hm))
    · rw [List.mem_singleton.mp hm, List.length_append]
      exact Nat.succ_le_succ hlen
end
theorem reps_nums {C : Addr} {F : Hp} : ∀ {s : List Int} {vs : List V}, Reps C F vs ((s.map Vaarrm.Told.num).map valT) → vs = s.map V.int
  | [], _, .nil => rfl
  | n :: s, _, .cons h r => by
    cases h
    rw [reps_nums r]
    rfl
theorem bts_ints {s : List Int} (h : s.all (fun n => decide (0 ≤ n)) = true) : bts (s.map fun n => n.toNat) = s.map V.int := by
  unfold bts
  rw [List.map_map]
  refine List.map_congr_left fun x hx => ?_
  have := of_decide_eq_true (List.all_eq_true.mp h x hx)
  show V.int ((x.toNat : Nat) : Int) = V.int x
  rw [Int.toNat_of_nonneg this]
def spValueTold (K : PySem.W.Frag) (C CS : Addr) : Sp := fun vs H Q E => ∃ (a tp : Addr) (t : List Nat) (r : List (Nat × Nat)) (x : Vaarrm.Told) (F : Hp), vs = [.ref a, .ref tp] ∧ Tx K H a t ∧ t.length ≤ 8192 ∧ TokL H tp r ∧ Genuine t r ∧ r.length ≤ 8192 ∧ runP t (.val []) r = .ok x ∧ r.all (tokSmall t) = true ∧ Same F H ∧
  (shapedT x = false → ∀ H', Same H H' → Out E CS (-4) H') ∧ (shapedT x = true → ∀ (H' F' : Hp) (v : V), Grow F H F' H' → Rep C F' v (valT x) → Q v H')
theorem sc_value_told : FnScope ["text", "tokens", "lists", "start", "end", "byte", "parts", "extents"] ["text", "tokens"] (defScope s_value_told) := ⟨rfl, rfl, rfl, by decide +kernel, rfl, by decide +kernel, by decide +kernel⟩
theorem last_ref (qs : List Addr) (q : Addr) : atI ((qs ++ [q]).map V.ref) (-1) = some (.ref q) := by
  rw [List.map_append]
  exact atI_last _ _
theorem ok_value_told {f f1 f2 C CS : Addr} {fd fd1 fd2 : FuncData} (F : Fun K "value_told" "value_told" s_value_told f fd) (cO : Cn mg "OPENING" 91) (cC : Cn mg "COLON" 58) (cB : Cn mg "CLOSING" 93)
    (D1 : DefAt K mg "array_told" s_array_told ["extents", "parts"] f1 fd1) (G1 : FnOk P w K mg base (L2.CX P w) 6 f1 fd1 ["extents", "parts"] (spArrayTold K C CS))
    (D2 : DefAt K mg "number_told" s_number_told ["text", "start", "end"] f2 fd2) (G2 : FnOk P w K mg base CX0 2 f2 fd2 ["text", "start", "end"] (spNumberTold K)) : FnOk P w K mg base (L2.CX P w) 7 f fd ["text", "tokens"] (spValueTold K C CS) := by
  refine F.okX sc_value_told (fun vs H Q E h => ?_) (fun cdv A outer s H vs Q E hr h => ?_)
  · obtain ⟨a, tp, t, r, x, F0, rfl, _⟩ := h
    rfl
  · obtain ⟨a, tp, t, r, x, F0, rfl, hT, hl, ⟨qt, hqt, htu⟩, hg, hrl, hrun, hsm, sm, hE, hQ⟩ := h
    have hr2 : Room 2 _ := hr.mono (by decide)
    refine ⟨_, pss_cons (ps_set (i := 2) sc_value_told.nd rfl (Or.inl rfl) (pe_lst (pa_cons (pe_lst pa_nil) pa_nil)))
      (pss_cons (ps_for (passes_of rfl) rfl (pi_list (pv 1)) (pg_tup rfl (pgs_cons (pg_name (i := 3) sc_value_told.nd rfl (Or.inl rfl)) (pgs_cons (pg_name (i := 4) sc_value_told.nd rfl (Or.inl rfl)) pgs_nil)))
        (pss_cons (ps_set (i := 5) sc_value_told.nd rfl (Or.inl rfl) (pe_ix ix_list (pv 0) (pv 3) (fun _ _ => rfl)))
        (pss_one (ps_if (PW.pt (pw_or (pt_cmpR op_eq (pv 5) (pe_cn cO) (nomark _)) (pw_or1 (pt_cmpR op_eq (pv 5) (pe_cn cC) (nomark _)))))
          (pss_one (ps_expr (pe_bm PySem.F.plainAttrs_list PySem.F.slot_list_append PySem.F.type_list_append mt_append (pv 2) (pa_cons (pe_lst pa_nil) pa_nil))))
          (pss_one (ps_if (pt_cmpR op_eq (pv 5) (pe_cn cB) (nomark _))
            (pss_cons (ps_set (i := 6) sc_value_told.nd rfl (Or.inl rfl) (pe_bm0 PySem.F.plainAttrs_list PySem.F.slot_list_pop PySem.F.type_list_pop mt_pop (pv 2)))
            (pss_cons (ps_set (i := 7) sc_value_told.nd rfl (Or.inl rfl) (pe_bm0 PySem.F.plainAttrs_list PySem.F.slot_list_pop PySem.F.type_list_pop mt_pop (pv 2)))
            (pss_one (ps_expr (pe_bm PySem.F.plainAttrs_list PySem.F.slot_list_append PySem.F.type_list_append mt_append (pe_ix ix_list (pv 2) (pe_un un_neg pe_int) (fun _ _ => rfl))
              (pa_cons (pe_call G1 hr rfl D1.g D1.fn.kp D1.b .nil (passes_call (takes_of rfl rfl rfl rfl) (fun _ _ _ _ z => z)) (pa_cons (pv 7) (pa_cons (pv 6) pa_nil))) pa_nil))))))
            (pss_one (ps_expr (pe_bm PySem.F.plainAttrs_list PySem.F.slot_list_append PySem.F.type_list_append mt_append (pe_ix ix_list (pv 2) (pe_un un_neg pe_int) (fun _ _ => rfl))
              (pa_cons (pe_call G2 hr2 rfl D2.g D2.fn.kp D2.b .nil pass0 (pa_cons (pv 0) (pa_cons (pv 3) (pa_cons (pv 4) pa_nil)))) pa_nil))))))))))
      (pss_one (ps_ret (pe_ix ix_list (pe_ix ix_list (pv 2) pe_int (fun _ _ => rfl)) pe_int (fun _ _ => rfl))))), ?_⟩
    refine ⟨Nat.zero_le _, fun q0 hq0 => ⟨(by show 1 ≤ sizeLine; decide), fun L hL => ?_⟩⟩
    have s1 : Same H (upd H q0 (.lst [])) := same_new hq0
    have nL : H L = none := s1.free hL
    have qL : q0 ≠ L := fun z => by
      rw [← z, upd_same] at hL
      cases hL
    have R0 : RdL C L H F0 F0 (upd (upd H q0 (.lst [])) L (.lst [.ref q0])) [q0] [[]] 0 := by
      refine ⟨⟨s1.trans (same_new hL), Same.refl F0, fun b o e => ?_, fun b o e n => n⟩, nL, sm.free nL, upd_same, ?_, ?_, Nat.le_refl _, ?_⟩
      · rw [upd_ne (ne_of_none e (sm.free nL)), upd_ne (ne_of_none e (sm.free hq0))]
        exact sm b o e
      · simp [Ne.symm qL]
      · exact ⟨⟨hq0, sm.free hq0, [], by rw [upd_ne qL, upd_same], .nil⟩, True.intro⟩
      · intro l hl'
        rw [List.mem_singleton.mp hl']
        exact Nat.le_refl _
    refine ⟨_, rfl, tp, rfl, ⟨_, SqL.of (R0.gr.hh _ _ hqt)⟩, for_list (K := K) (a := tp) (xs := qt.map V.ref) (fun i σ H' => ∃ (v1 v2 v3 v4 v5 : Option V) (F' : Hp) (qs : List Addr) (st : PSt), σ = [some (.ref a), some (.ref tp), some (.ref L), v1, v2, v3, v4, v5] ∧
        RdL C L H F0 F' H' qs (encS st) i ∧ fineSt st = true ∧ smallSt st = true ∧ posSt st = true ∧ runP t st (r.drop i) = .ok x)
      ⟨none, none, none, none, none, F0, [q0], .val [], rfl, R0, rfl, rfl, rfl, hrun⟩ (fun i σ H' _ ⟨_, _, _, _, _, _, _, _, _, R, _⟩ => SqL.of (R.gr.hh _ _ hqt)) ?_ ?_⟩
    · rintro i y σ H' hi ⟨v1, v2, v3, v4, v5, F', qs, st, rfl, R, hfine, hsmall, hpos, hrun'⟩
      obtain ⟨qa, hqa, rfl⟩ : ∃ z, qt[i]? = some z ∧ y = V.ref z := by
        rw [List.getElem?_map] at hi
        obtain ⟨z, e1, e2⟩ := Option.map_eq_some_iff.mp hi
        exact ⟨z, e1, e2.symm⟩
      obtain ⟨z, hz, htz⟩ := htu.at hqa
      have hzr : z ∈ r := List.mem_of_getElem? hz
      obtain ⟨g1, g2⟩ := hg z hzr
      have hi2 : i < r.length := (List.getElem?_eq_some_iff.mp hz).1
      have hdrop : r.drop i = z :: r.drop (i + 1) := by
        rw [List.drop_eq_getElem_cons hi2]
        congr 1
        exact (List.getElem?_eq_some_iff.mp hz).2
      rw [hdrop] at hrun'
      have hz2 : z.2 ≠ z.1 := run_ok_toks t _ _ _ hrun' z (List.mem_cons_self ..)
      obtain ⟨st', hst, hrun2⟩ := run_step hrun'
      have hsm' : smallSt st' = true := by
        rw [stp_small hst, hsmall, Bool.true_and]
        have h9 := List.all_eq_true.mp hsm z hzr
        unfold tokSmall at h9
        unfold NA.tokOf
        by_cases hs : isSign (t.getD z.1 0) = true
        · rw [if_pos hs]
          rfl
        · rw [Bool.eq_false_iff.mpr hs, Bool.false_or] at h9
          rw [if_neg hs]
          exact h9
      have hpos' := stp_pos hst hpos
      have hfine' : fineSt st' = closes st (NA.tokOf t z.1 z.2) := by rw [stp_fine hst, hfine, Bool.true_and]
      obtain ⟨L1, L2', L3⟩ := stp_lists hst
      refine ⟨qa, _, rfl, SqT.of (R.gr.hh _ _ htz), rfl, _, _, rfl, _, _, rfl, rfl, ?_⟩
      refine ⟨_, rfl, _, rfl, a, _, _, _, rfl, rfl, R.gr.hh.seq hT, bts_at g1, ?_⟩
      refine ⟨_, rfl, rfl, _, rfl, ?_⟩
      rw [dec_k (b := 91) 91 rfl]
      have ecl : NA.tokOf t z.1 z.2 ≠ .sign 93 → closes st (NA.tokOf t z.1 z.2) = true := fun ne => by
        unfold closes
        split
        · rename_i c heq
          rw [if_neg]
          intro ec
          apply ne
          rw [heq, ec]
        · rfl
      -- [ and : begin a list
      have begins : (t.getD z.1 0 = 91 ∨ t.getD z.1 0 = 58) → ∀ (q : Addr), H' q = none → ∃ (u1 u2 u3 u4 u5 : Option V) (F2 : Hp) (qs2 : List Addr) (st2 : PSt),
          [some (V.ref a), some (.ref tp), some (.ref L), some (.int (z.1 : Int)), some (.int (z.2 : Int)), some (.int ((t.getD z.1 0 : Nat) : Int)), v4, v5] = [some (V.ref a), some (.ref tp), some (.ref L), u1, u2, u3, u4, u5] ∧
          RdL C L H F0 F2 (upd (upd H' q (.lst [])) L (.lst (qs.map V.ref ++ [.ref q]))) qs2 (encS st2) (i + 1) ∧ fineSt st2 = true ∧ smallSt st2 = true ∧ posSt st2 = true ∧ runP t st2 (r.drop (i + 1)) = .ok x := by
        intro hc q hq
        have hs : isSign (t.getD z.1 0) = true := by
          unfold isSign
          rcases hc with e | e <;> rw [e] <;> rfl
        have et : NA.tokOf t z.1 z.2 = .sign (t.getD z.1 0) := if_pos hs
        have e2 : encS st' = encS st ++ [[]] := L2' (by
          rw [et]
          rcases hc with e | e <;> rw [e]
          · exact .inl rfl
          · exact .inr rfl)
        have ne : NA.tokOf t z.1 z.2 ≠ .sign 93 := fun e => by
          rw [et] at e
          have e9 := Vaarrm.Token.sign.inj e
          rcases hc with h | h <;> rw [h] at e9 <;> cases e9
        refine ⟨_, _, _, _, _, F', qs ++ [q], st', rfl, ?_, hfine'.trans (ecl ne), hsm', hpos', hrun2⟩
        rw [e2]
        exact R.push hq
      have room : (qs.map V.ref).length < sizeLine := by
        rw [List.length_map]
        exact Nat.lt_of_le_of_lt (Nat.le_trans R.cnt (Nat.succ_le_of_lt (Nat.lt_of_lt_of_le hi2 hrl))) (by decide)
      have atL : ∀ q, H' q = none → upd H' q (.lst []) L = some (.lst (qs.map V.ref)) := fun q hq => by
        rw [upd_ne (ne_of_none R.hl hq)]
        exact R.hl
      by_cases c1 : t.getD z.1 0 = 91
      · rw [decide_eq_true c1]
        exact iteT (iteT ⟨_, rfl, .inl ⟨rfl, _, SqL.of R.hl⟩, Nat.zero_le _, fun q hq => ⟨L, _, _, rfl, rfl, atL q hq, room, begins (.inl c1) q hq⟩⟩)
      · rw [decide_eq_false c1]
        refine iteF ⟨_, rfl, rfl, _, rfl, ?_⟩
        rw [dec_k (b := 58) 58 rfl]
        by_cases c2 : t.getD z.1 0 = 58
        · rw [decide_eq_true c2]
          exact iteT ⟨_, rfl, .inl ⟨rfl, _, SqL.of R.hl⟩, Nat.zero_le _, fun q hq => ⟨L, _, _, rfl, rfl, atL q hq, room, begins (.inr c2) q hq⟩⟩
        · rw [decide_eq_false c2]
          refine iteF ⟨_, rfl, rfl, _, rfl, ?_⟩
          rw [dec_k (b := 93) 93 rfl]
          by_cases c3 : t.getD z.1 0 = 93
          · rw [decide_eq_true c3]
            have hs : isSign (t.getD z.1 0) = true := by
              rw [c3]
              rfl
            have et : NA.tokOf t z.1 z.2 = .sign 93 := by
              rw [← c3]
              exact if_pos hs
            obtain ⟨S, l, sx, k, o, est, eS, eS'⟩ := L3 et
            subst est
            rw [eS] at R
            obtain ⟨qs1, q2, rfl, R1, n2, m2⟩ := R.pop
            obtain ⟨qs3, q1, rfl, R2, n1, m1⟩ := R1.pop
            have hl1 : H' L = some (.lst (((qs3 ++ [q1]) ++ [q2]).map V.ref)) := R.hl
            have d1 : (((qs3 ++ [q1]) ++ [q2]).map V.ref)[(((qs3 ++ [q1]) ++ [q2]).map V.ref).length - 1]? = some (V.ref q2) := by
              rw [List.map_append]
              simp
            have d2 : ((qs3 ++ [q1]).map V.ref)[((qs3 ++ [q1]).map V.ref).length - 1]? = some (V.ref q1) := by
              rw [List.map_append]
              simp
            have dr1 : (((qs3 ++ [q1]) ++ [q2]).map V.ref).dropLast = (qs3 ++ [q1]).map V.ref := by
              rw [List.map_append]
              exact List.dropLast_concat
            have dr2 : ((qs3 ++ [q1]).map V.ref).dropLast = qs3.map V.ref := by
              rw [List.map_append]
              exact List.dropLast_concat
            refine iteT ⟨_, rfl, .inl ⟨rfl, _, SqL.of hl1⟩, L, _, .ref q2, rfl, rfl, hl1, d1, ?_⟩
            rw [dr1]
            refine ⟨_, rfl, .inl ⟨rfl, _, SqL.of upd_same⟩, L, _, .ref q1, rfl, rfl, upd_same, d2, ?_⟩
            rw [dr2]
            generalize eH2 : upd (upd H' L _) L _ = H2 at R2 n1
            obtain ⟨qs4, q, rfl, st4, nq⟩ := R2.stk.last
            obtain ⟨z1, z2, vs, hvs, rvs⟩ := nq
            obtain ⟨_, _, es, hes, res⟩ := n1
            have hes' := reps_nums res
            subst hes'
            -- the items' list stays where the list of lists is written once more
            obtain ⟨_, _, ys, hys, rys⟩ := n2
            have q2L : q2 ≠ L := fun e => m2 (e ▸ List.mem_cons_self ..)
            have hys2 : H2 q2 = some (.lst ys) := by
              rw [← eH2, upd_ne q2L]
              exact hys
            have hpx : sx.all (fun n => decide (0 ≤ n)) = true := by
              have h9 : (sx.all (fun n => decide (0 ≤ n)) && posO o) = true := hpos
              exact (Bool.and_eq_true_iff.mp h9).1
            have hgx : ∀ n ∈ sx.map (fun n => n.toNat), n ≤ 1000000000000000000 := fun n hn => by
              have h9 : (sx.all (fun n => decide (n ≤ Vaarrm.G)) && (k.all smallT && smallO o)) = true := hsmall
              obtain ⟨m, hm, rfl⟩ := List.mem_map.mp hn
              have h8 := of_decide_eq_true (List.all_eq_true.mp (Bool.and_eq_true_iff.mp h9).1 m hm)
              unfold Vaarrm.G at h8
              omega
            have hk : ((k.reverse).map valT).length = k.length := by rw [List.length_map, List.length_reverse]
            have hkl : ((k.reverse).map valT).length ≤ 9000 := by
              have h9 := R.len k.reverse (List.mem_append_right _ (List.mem_singleton.mpr rfl))
              rw [List.length_map]
              omega
            have hnode : closes (.val ((sx, k) :: o)) (NA.tokOf t z.1 z.2) = (Vaarrm.shapeOk (sx.map fun n => n.toNat) && decide (((k.reverse).map valT).length = Vaarrm.product (sx.map fun n => n.toNat))) := by
              rw [et, hk]
              rfl
            refine ⟨_, rfl, _, rfl, L, _, _, _, rfl, rfl, SqL.of R2.hl, last_ref qs4 q, .inl ⟨rfl, _, SqL.of hvs⟩, _, rfl, _, rfl, ?_⟩
            refine ⟨q1, q2, sx.map (fun n => n.toNat), ys, (k.reverse).map valT, F', rfl, ?_, hgx, SqL.of hys2, R2.gr.fh, rys, hkl, fun hbad H3 s3 => ?_, fun hgood H3 F3 v g3 rv => ?_⟩
            · rw [bts_ints hpx]
              exact SqL.of hes
            · refine hE (run_fine t _ _ _ hrun2 ?_) H3 (R2.gr.hh.trans s3)
              rw [hfine', hnode]
              exact hbad
            · have rv' : Rep C F3 v (valT (.arr sx k.reverse)) := by
                show Rep C F3 v (Vaarrm.made (sx.map fun n => n.toNat) (valTs k.reverse))
                rw [valTs_map]
                exact rv
              obtain ⟨hlv, R3⟩ := R2.app g3 (g3.hh _ _ hvs) rv'
              refine ⟨q, vs, v, rfl, rfl, g3.hh _ _ hvs, Nat.lt_of_le_of_lt (Nat.le_trans hlv (Nat.le_of_lt (Nat.lt_of_lt_of_le hi2 hrl))) (by decide), ?_⟩
              refine ⟨_, _, _, _, _, F3, qs4 ++ [q], st', rfl, ?_, ?_, hsm', hpos', hrun2⟩
              · rw [eS']
                exact R3
              · rw [hfine', hnode]
                exact hgood
          · rw [decide_eq_false c3]
            have hs : isSign (t.getD z.1 0) = false := by
              unfold isSign
              rw [beq_eq_false_iff_ne.mpr c1, beq_eq_false_iff_ne.mpr c2, beq_eq_false_iff_ne.mpr c3]
              rfl
            have et : NA.tokOf t z.1 z.2 = .num (numTold t z.1 z.2) := if_neg (by rw [hs]; exact Bool.false_ne_true)
            obtain ⟨S, l, eS, eS'⟩ := L1 _ et
            rw [eS] at R
            obtain ⟨qs4, q, rfl, st4, nq⟩ := R.stk.last
            obtain ⟨z1, z2, vs, hvs, rvs⟩ := nq
            obtain ⟨dd1, dd2⟩ := tok_digits g2 hz2 hs
            have hle := tokenEnd_le g1
            obtain ⟨hlv, R3⟩ := R.app (x := .num (numTold t z.1 z.2)) (Grow.refl R.gr.fh) hvs (.num _)
            refine iteF ⟨_, rfl, _, rfl, L, _, _, _, rfl, rfl, SqL.of R.hl, last_ref qs4 q, .inl ⟨rfl, _, SqL.of hvs⟩, _, rfl, _, rfl, _, rfl, a, t, z.1, z.2, rfl, R.gr.hh.seq hT, g1, hl, by omega, dd1, dd2, ?_⟩
            refine ⟨q, vs, _, rfl, rfl, hvs, Nat.lt_of_le_of_lt (Nat.le_trans hlv (Nat.le_of_lt (Nat.lt_of_lt_of_le hi2 hrl))) (by decide), ?_⟩
            refine ⟨_, _, _, _, _, F', qs4 ++ [q], st', rfl, ?_, hfine'.trans (ecl (by rw [et]; intro e; cases e)), hsm', hpos', hrun2⟩
            rw [eS']
            exact R3
    · rintro σ H' ⟨v1, v2, v3, v4, v5, F', qs, st, rfl, R, hfine, hsmall, hpos, hrun'⟩
      rw [List.length_map, htu.len, List.drop_length] at hrun'
      have est := run_end hrun'
      subst est
      obtain ⟨qs', q, rfl, st2, nq⟩ := R.stk.last (S := []) (l := [x])
      have eq' : qs' = [] := List.length_eq_zero_iff.mp st2.len
      subst eq'
      obtain ⟨n1, n2, vs, n3, n4⟩ := nq
      cases n4 with
      | cons rv rn =>
        rename_i v ws
        refine ⟨_, rfl, L, _, 0, .ref q, rfl, rfl, SqL.of R.hl, rfl, q, _, 0, v, rfl, rfl, SqL.of n3, (show atI (v :: ws) ((0 : Nat) : Int) = some v from atI_nat rfl), ?_⟩
        exact hQ hfine H' F' v R.gr rv
end
end NAp

namespace NAp
open PySem PySem.Spec PyProof.Rows L2 NA NAx
open PySem.W (Codec)
section
variable {P : Program} {w : World} {K : PySem.W.Frag} {mg : Str → Option Value} {base : Heap} {h : Heap}
def spLookAt (K : PySem.W.Frag) (mg : Str → Option Value) (C CR : Addr) : Sp := fun vs H Q E => ∃ (a : Addr) (t : List Nat) (F : Hp), vs = [.ref a] ∧ Tx K H a t ∧ Same F H ∧
  (∀ n, look t = .error n → ∀ H', Same H H' → OutR K mg CR E n H') ∧ (∀ u, look t = .ok u → ∀ (H' F' : Hp) (v : V), Grow F H F' H' → Rep C F' v u → Q v H')
theorem sc_look_at : FnScope ["text", "tokens", "value"] ["text"] (defScope s_look_at) := ⟨rfl, rfl, rfl, by decide +kernel, rfl, by decide +kernel, by decide +kernel⟩
theorem ok_look_at {f f1 f2 f3 f4 f5 f6 C CR CL CF CS CM fL fF fS fM : Addr} {fd fd1 fd2 fd3 fd4 fd5 fd6 fdF fdM : FuncData} (F : Fun K "look_at" "look_at" s_look_at f fd)
    (TL : RefCls K mg CR "LongRefusal" CL fL) (TF : RefCls K mg CR "FormRefusal" CF fF) (TS : RefCls K mg CR "ShapeRefusal" CS fS) (TM : RefCls K mg CR "LimitRefusal" CM fM)
    (GF : FnOk P w K mg base CX0 2 fF fdF ["self"] (spOInit K (-2))) (bF : Binds K fdF ["self"] []) (GM : FnOk P w K mg base CX0 2 fM fdM ["self"] (spOInit K (-5))) (bM : Binds K fdM ["self"] [])
    (D1 : DefAt K mg "check_length" s_check_length ["text"] f1 fd1) (G1 : FnOk P w K mg base (L2.CX P w) 4 f1 fd1 ["text"] (spCheckLength K CL))
    (D2 : DefAt K mg "tokens_of" s_tokens_of ["text"] f2 fd2) (G2 : FnOk P w K mg base CX0 4 f2 fd2 ["text"] (spTokensOf K))
    (D3 : DefAt K mg "fault_position" s_fault_position ["text", "tokens"] f3 fd3) (G3 : FnOk P w K mg base CX0 3 f3 fd3 ["text", "tokens"] (spFault K))
    (D4 : DefAt K mg "check_numbers" s_check_numbers ["text", "tokens"] f4 fd4) (G4 : FnOk P w K mg base (L2.CX P w) 5 f4 fd4 ["text", "tokens"] (spCheckNumbers K mg CR))
    (D5 : DefAt K mg "value_told" s_value_told ["text", "tokens"] f5 fd5) (G5 : FnOk P w K mg base (L2.CX P w) 7 f5 fd5 ["text", "tokens"] (spValueTold K C CS))
    (D6 : DefAt K mg "is_within_limits" s_is_within_limits ["value"] f6 fd6) (G6 : FnOk P w K mg base CX0 3 f6 fd6 ["value"] (spVal C fun u => .bl (withinV u))) :
    FnOk P w K mg base (L2.CX P w) 8 f fd ["text"] (spLookAt K mg C CR) := by
  refine F.okX sc_look_at (fun vs H Q E h => ?_) (fun cdv A outer s H vs Q E hr h => ?_)
  · obtain ⟨a, t, F0, rfl, _⟩ := h
    rfl
  · obtain ⟨a, t, F0, rfl, hT, sm, hE, hQ⟩ := h
    have hr3 : Room 3 _ := hr.mono (by decide)
    have hr4 : Room 4 _ := hr.mono (by decide)
    refine ⟨_, pss_cons (ps_expr (pe_call G1 hr4 rfl D1.g D1.fn.kp D1.b .nil (passes_call (takes_of rfl rfl rfl rfl) (fun _ _ _ _ z => z)) (pa_cons (pv 0) pa_nil)))
      (pss_cons (ps_set (i := 1) sc_look_at.nd rfl (Or.inl rfl) (pe_call G2 hr4 rfl D2.g D2.fn.kp D2.b .nil pass0 (pa_cons (pv 0) pa_nil)))
      (pss_cons (ps_if (pt_cmpR op_notN (pe_call G3 hr3 rfl D3.g D3.fn.kp D3.b .nil pass0 (pa_cons (pv 0) (pa_cons (pv 1) pa_nil))) pe_non (nomark _)) (pss_one (ps_refuse rfl (takes_of rfl rfl rfl rfl) TF GF hr3 bF (by rfl))) pss_nil)
      (pss_cons (ps_expr (pe_call G4 (hr.mono (by decide)) rfl D4.g D4.fn.kp D4.b .nil (passes_call (takes_of rfl rfl rfl rfl) (fun _ _ _ _ z => z)) (pa_cons (pv 0) (pa_cons (pv 1) pa_nil))))
      (pss_cons (ps_set (i := 2) sc_look_at.nd rfl (Or.inl rfl) (pe_call G5 hr rfl D5.g D5.fn.kp D5.b .nil (passes_call (takes_of rfl rfl rfl rfl) (fun _ _ _ _ z => z)) (pa_cons (pv 0) (pa_cons (pv 1) pa_nil))))
      (pss_cons (ps_if (pt_not (pt_val (pe_call G6 hr3 rfl D6.g D6.fn.kp D6.b .nil pass0 (pa_cons (pv 2) pa_nil)))) (pss_one (ps_refuse rfl (takes_of rfl rfl rfl rfl) TM GM hr3 bM (by rfl))) pss_nil)
      (pss_one (ps_ret (pv 2)))))))), ?_⟩
    refine ⟨_, rfl, a, t, rfl, hT, fun c => ?_, fun c => ?_⟩
    · refine hE (-1) ?_ H (Same.refl H) _ _ _ TL
      unfold look
      rw [if_pos c]
    refine ⟨_, rfl, a, t, rfl, hT, c, fun H1 p1 s1 n1 tk1 => ?_⟩
    have eL : look t = match runP t (.val []) (toks t) with
        | .error _ => .error (-2)
        | .ok x => if (toks t).all (tokSmall t) = false then .error (-3) else if shapedT x = false then .error (-4) else if withinV (valT x) = false then .error (-5) else .ok (valT x) := by
      unfold look
      refine (if_neg (by omega)).trans ?_
      cases runP t (.val []) (toks t) <;> rfl
    refine ⟨_, rfl, _, rfl, a, p1, t, _, rfl, s1.seq hT, tk1, toks_gen t, Nat.le_trans (toks_len t) c, fun H2 s2 => ?_⟩
    have hfr := fault_run t (toks t) (.val []) (toks_gen t)
    have hfr : fault t [0] (toks t) = match runP t (.val []) (toks t) with | .ok _ => none | .error p => some p := hfr
    refine ⟨rfl, _, rfl, ?_⟩
    cases er : runP t (.val []) (toks t) with
    | error p =>
      rw [er] at eL hfr
      rw [hfr]
      exact iteT (hE (-2) eL H2 (s1.trans s2) _ _ _ TF)
    | ok x =>
      rw [er] at eL hfr
      rw [hfr]
      have tk2 : TokL H2 p1 (toks t) := by
        obtain ⟨qs, hq, ht⟩ := tk1
        exact ⟨qs, s2 _ _ hq, ht.up fun b xs e => s2 _ _ e⟩
      refine iteF ⟨_, rfl, _, rfl, a, p1, t, _, rfl, (s1.trans s2).seq hT, c, tk2, toks_gen t, run_ok_toks t _ _ _ er, fun cb => ?_, fun cb => ?_⟩
      · refine fun H3 s3 => hE (-3) ?_ H3 ((s1.trans s2).trans s3)
        rw [eL]
        exact if_pos cb
      · have eL2 : look t = if shapedT x = false then .error (-4) else if withinV (valT x) = false then .error (-5) else .ok (valT x) := by
          rw [eL]
          exact if_neg (by rw [cb]; exact Bool.false_ne_true.symm)
        refine ⟨_, rfl, _, rfl, a, p1, t, _, x, F0, rfl, (s1.trans s2).seq hT, c, tk2, toks_gen t, Nat.le_trans (toks_len t) c, er, cb, sm.trans (s1.trans s2), fun cs H3 s3 => ?_, fun cs H3 F3 v g3 rv => ?_⟩
        · refine hE (-4) ?_ H3 ((s1.trans s2).trans s3) _ _ _ TS
          rw [eL2]
          exact if_pos cs
        · have eL3 : look t = if withinV (valT x) = false then .error (-5) else .ok (valT x) := by
            rw [eL2]
            exact if_neg (by rw [cs]; exact Bool.false_ne_true.symm)
          have g0 : Grow F0 H F3 H3 := ((Grow.refl sm).more (s1.trans s2)).trans g3
          refine ⟨_, rfl, v, valT x, F3, rfl, g3.fh, rv, _, rfl, ?_⟩
          by_cases cw : withinV (valT x) = true
          · rw [cw]
            refine iteF ⟨_, rfl, hQ (valT x) ?_ H3 F3 v g0 rv⟩
            rw [eL3]
            exact if_neg (by rw [cw]; exact Bool.false_ne_true.symm)
          · have cw' := Bool.eq_false_iff.mpr cw
            rw [cw']
            refine iteT (hE (-5) ?_ H3 g0.hh _ _ _ TM)
            rw [eL3]
            exact if_pos cw'
end
end NAp

namespace NAp
open PySem PySem.Spec PyProof.Rows L2 NA NAx
open PySem.W (Codec)
section
variable {P : Program} {w : World} {K : PySem.W.Frag} {mg : Str → Option Value} {base : Heap} {h : Heap}
/-- what is new, and all else as it was -/
def spNewList (C : Addr) (g : Vaarrm.V → List V) : Sp := fun vs H Q _ => ∃ (v : V) (u : Vaarrm.V) (F : Hp), vs = [v] ∧ Same F H ∧ Rep C F v u ∧ ∀ (H' : Hp) (p : Addr), Same H H' → H p = none → H' p = some (.lst (g u)) → Q (.ref p) H'
theorem sc_extents_of : FnScope ["value"] ["value"] (defScope s_extents_of) := ⟨rfl, rfl, rfl, by decide +kernel, rfl, by decide +kernel, by decide +kernel⟩
theorem ok_extents_of {f C fI f1 : Addr} {fd fdI fd1 : FuncData} (F : Fun K "extents_of" "extents_of" s_extents_of f fd) (N : NaC K mg C fI fdI) (nl : mg "list" = none) (D1 : DefAt K mg "is_number" s_is_number ["value"] f1 fd1)
    (G1 : FnOk P w K mg base CX0 1 f1 fd1 ["value"] (spVal C fun u => .bl (Vaarrm.isNum u))) : FnOk P w K mg base CX0 2 f fd ["value"] (spNewList C fun u => bts (Vaarrm.shapeOf u)) := by
  refine F.ok sc_extents_of (fun vs H Q E h => ?_) (fun cdv A outer s H vs Q E hr h => ?_)
  · obtain ⟨v, u, F0, rfl, _⟩ := h
    rfl
  · obtain ⟨v, u, F0, rfl, sm, rp, q⟩ := h
    refine ⟨_, pss_one (ps_ret (pe_ifExp (pt_val (pe_call G1 hr rfl D1.g D1.fn.kp D1.b .nil pass0 (pa_cons (pv 0) pa_nil))) (pe_lst pa_nil) (pe_callTy call_list_of (by rfl) nl boot_list (pa_cons (pe_fld (pv 0) rfl) pa_nil)))), ?_⟩
    refine ⟨_, rfl, v, u, F0, rfl, sm, rp, _, rfl, ?_⟩
    cases rp with
    | num n => exact iteT ⟨Nat.zero_le _, fun p hp => q _ p (same_new hp) hp upd_same⟩
    | arr ha he hp hr => exact iteF ⟨_, rfl, _, C, _, _, _, rfl, sm _ _ ha, N.cl, N.nE, naF_extents, _, _, rfl, .inl (SqL.of (sm _ _ he)), fun p hp => q _ p (same_new hp) hp upd_same⟩
end
end NAp

namespace NAp
open PySem PySem.Spec PyProof.Rows L2 NA NAx
open PySem.W (Codec)
section
variable {P : Program} {w : World} {K : PySem.W.Frag} {mg : Str → Option Value} {base : Heap} {h : Heap}
def spWrittenNumber : Sp := fun vs H Q _ => ∃ n : Int, vs = [.int n] ∧ n.natAbs ≤ 1000000000000000000 ∧ ∀ z : Str, TL.tl z = Vaarrm.numText n → Q (.str z) H
theorem sc_written_number : FnScope ["number", "digits"] ["number"] (defScope s_written_number) := ⟨rfl, rfl, rfl, by decide +kernel, rfl, by decide +kernel, by decide +kernel⟩
theorem log_small {n : Nat} (h : n ≤ 1000000000000000000) : n.log2 < 1920 := by
  by_cases c : n = 0
  · rw [c]
    decide
  · exact (Nat.log2_lt c).mpr (Nat.lt_of_le_of_lt h (Nat.lt_of_lt_of_le (show 1000000000000000000 < 2 ^ 60 by decide) (Nat.pow_le_pow_right (by decide) (by decide))))
theorem tl_dec {n : Nat} (h : n ≤ 1000000000000000000) : TL.tl (Str.ofString (toString ((n : Nat) : Int))) = Vaarrm.decimal n := (TL.tl_num n).trans (decimal_eq h)
theorem tl_len {z : Str} {l : List Nat} (h : TL.tl z = l) : z.length = l.length := by rw [TL.len_tl, h]
theorem ok_written_number {f : Addr} {fd : FuncData} (F : Fun K "written_number" "written_number" s_written_number f fd) (ns : mg "str" = none) (na : mg "abs" = none) : FnOk P w K mg base CX0 1 f fd ["number"] spWrittenNumber := by
  refine F.ok sc_written_number (fun vs H Q E h => ?_) (fun cdv A outer s H vs Q E hr h => ?_)
  · obtain ⟨n, rfl, _⟩ := h
    rfl
  · obtain ⟨n, rfl, hn, q⟩ := h
    refine ⟨_, pss_cons (ps_set (i := 1) sc_written_number.nd rfl (Or.inl rfl) (pe_callTy call_str_int (by rfl) ns (by decide +kernel) (pa_cons (pe_callB call_abs (by rfl) na (by decide +kernel) (pa_cons (pv 0) pa_nil)) pa_nil)))
      (pss_one (ps_ret (pe_ifExp (pt_cmpR op_lt (pv 0) pe_int (nomark _)) (pe_op op_add_str pe_str (pv 1)) (pv 1)))), ?_⟩
    refine ⟨_, rfl, _, rfl, ?_⟩
    rw [abs_of]
    refine ⟨_, rfl, log_small hn, ?_⟩
    have hd := tl_dec hn
    refine ⟨_, rfl, _, _, rfl, rfl, _, rfl, ?_⟩
    by_cases c : n < 0
    · rw [decide_eq_true c]
      refine iteT ⟨_, rfl, _, _, rfl, rfl, ?_, q _ ?_⟩
      · rw [tl_len hd]
        have := decimal_len n.natAbs
        exact Nat.le_trans (Nat.add_le_add_left this _) (by decide)
      · rw [TL.tl_append, hd]
        unfold Vaarrm.numText
        rw [if_pos c]
        rfl
    · rw [decide_eq_false c]
      refine iteF ⟨_, rfl, q _ ?_⟩
      rw [hd]
      unfold Vaarrm.numText
      rw [if_neg c]
      congr 1
      omega
end
end NAp

namespace NAp
open PySem PySem.Spec PyProof.Rows L2 NA NAx
open PySem.W (Codec)
section
variable {P : Program} {w : World} {K : PySem.W.Frag} {mg : Str → Option Value} {base : Heap} {h : Heap}
/-- the text of a value that isn't as deep as d -/
def spWritten (C : Addr) (d : Nat) : Sp := fun vs H Q _ => ∃ (v : V) (u : Vaarrm.V) (F : Hp), vs = [v] ∧ Same F H ∧ Rep C F v u ∧ depthV u < d ∧ sizeV u ≤ 600 ∧ goodV u = true ∧ smallV u ∧ ∀ (H' : Hp) (z : Str), Same H H' → TL.tl z = textV u → Q (.str z) H'
theorem sc_written : FnScope ["value", "extents", "parts", "extent", "part"] ["value"] (defScope s_written) := ⟨rfl, rfl, rfl, by decide +kernel, rfl, by decide +kernel, by decide +kernel⟩
theorem joinL_spaced : ∀ l : List (List Nat), TL.joinL [32] l = Vaarrm.spaced l
  | [] => rfl
  | [p] => by
    show p = p ++ []
    rw [List.append_nil]
  | p :: q :: r => by
    have ih := joinL_spaced (q :: r)
    show p ++ ([32] ++ TL.joinL [32] (q :: r)) = p ++ (q :: r).flatMap fun y => 32 :: y
    rw [ih]
    rfl
theorem joinL_flat : ∀ l : List (List Nat), TL.joinL [] l = l.flatten
  | [] => rfl
  | [p] => by
    show p = p ++ []
    rw [List.append_nil]
  | p :: q :: r => by
    have ih := joinL_flat (q :: r)
    show p ++ ([] ++ TL.joinL [] (q :: r)) = p ++ (q :: r).flatten
    rw [ih]
    rfl
theorem textVs_flatten (l : List Vaarrm.V) : (l.map fun u => 32 :: textV u).flatten = textVs l := by
  rw [textVs_flat, List.flatMap_def]
theorem lens_sum : ∀ zs : List Str, (zs.map (·.length)).sum = ((zs.map TL.tl).flatten).length
  | [] => rfl
  | z :: zs => by
    rw [List.map_cons, List.sum_cons, lens_sum zs, List.map_cons, List.flatten_cons, List.length_append, TL.len_tl]
theorem decimals_len : ∀ s : List Nat, ((s.map Vaarrm.decimal).flatten).length ≤ 40 * s.length
  | [] => Nat.le_refl _
  | n :: r => by
    have h1 := decimal_len n
    have h2 := decimals_len r
    rw [List.map_cons, List.flatten_cons, List.length_append, List.length_cons]
    omega
theorem sizeV_pos : ∀ v : Vaarrm.V, 1 ≤ sizeV v
  | .num _ => Nat.le_refl _
  | .arr s l => by
    show 1 ≤ 1 + sizeVs l
    omega
theorem sizeVs_ge : ∀ l : List Vaarrm.V, l.length ≤ sizeVs l
  | [] => Nat.le_refl _
  | v :: l => by
    have h1 := sizeV_pos v
    have h2 := sizeVs_ge l
    show l.length + 1 ≤ sizeV v + sizeVs l
    omega
theorem ok_written {f C fI f1 f2 : Addr} {fd fdI fd1 fd2 : FuncData} (D : DefAt K mg "written" s_written ["value"] f fd) (N : NaC K mg C fI fdI) (ns : mg "str" = none) (D1 : DefAt K mg "is_number" s_is_number ["value"] f1 fd1)
    (G1 : FnOk P w K mg base CX0 1 f1 fd1 ["value"] (spVal C fun u => .bl (Vaarrm.isNum u))) (D2 : DefAt K mg "written_number" s_written_number ["number"] f2 fd2) (G2 : FnOk P w K mg base CX0 1 f2 fd2 ["number"] spWrittenNumber) :
    ∀ d : Nat, FnOk P w K mg base CX0 (d + 1) f fd ["value"] (spWritten C d)
  | 0 => by
    refine ⟨fun vs H Q E h => ?_, fun A outer s H args us vs Q E hr e0 hb r h => ?_⟩
    · obtain ⟨v, u, F0, rfl, _⟩ := h
      rfl
    · obtain ⟨v, u, F0, rfl, _, _, hd, _⟩ := h
      exact absurd hd (Nat.not_lt_zero _)
  | d + 1 => by
    have IH := ok_written D N ns D1 G1 D2 G2 d
    refine D.fn.ok sc_written (fun vs H Q E h => ?_) (fun cdv A outer s H vs Q E hr h => ?_)
    · obtain ⟨v, u, F0, rfl, _⟩ := h
      rfl
    · obtain ⟨v, u, F0, rfl, sm, rp, hd, hz, hg, hs, q⟩ := h
      have hr1 : Room 1 _ := hr.mono (Nat.succ_le_succ (Nat.zero_le d))
      refine ⟨_, pss_cons (ps_if (pt_val (pe_call G1 hr1 rfl D1.g D1.fn.kp D1.b .nil pass0 (pa_cons (pv 0) pa_nil))) (pss_one (ps_ret (pe_call G2 hr1 rfl D2.g D2.fn.kp D2.b .nil pass0 (pa_cons (pv 0) pa_nil)))) pss_nil)
        (pss_cons (ps_set (i := 1) sc_written.nd rfl (Or.inl rfl) (pe_join pe_str (pe_lc (own := [("extent", 3)]) (g := gName 3) (tt := tYes) rfl sc_written.nd (pi_list (pe_fld (pv 0) rfl)) (blkOk_by (N := ["value", "extents", "parts", "extent", "part"]) (sc := defScope s_written) (by decide +kernel))
            (fun _ _ _ _ _ => pg_name (i := 3) sc_written.nd rfl (Or.inl rfl)) (fun _ _ _ _ _ => pts_nil) (fun _ _ _ _ _ => pe_callTy call_str_int (by rfl) ns (by decide +kernel) (pa_cons (pv 3) pa_nil)))))
        (pss_cons (ps_set (i := 2) sc_written.nd rfl (Or.inl rfl) (pe_join pe_str (pe_lc (own := [("part", 4)]) (g := gName 4) (tt := tYes) rfl sc_written.nd (pi_list (pe_fld (pv 0) rfl)) (blkOk_by (N := ["value", "extents", "parts", "extent", "part"]) (sc := defScope s_written) (by decide +kernel))
            (fun _ _ _ _ _ => pg_name (i := 4) sc_written.nd rfl (Or.inl rfl)) (fun _ _ _ _ _ => pts_nil) (fun _ _ _ _ _ => pe_op op_add_str pe_str (pe_call IH hr rfl D.g D.fn.kp D.b .nil pass0 (pa_cons (pv 4) pa_nil))))))
        (pss_one (ps_ret (pe_op op_add_str (pe_op op_add_str (pe_op op_add_str (pe_op op_add_str pe_str (pv 1)) pe_str) (pv 2)) pe_str))))), ?_⟩
      refine ⟨_, rfl, v, u, F0, rfl, sm, rp, _, rfl, ?_⟩
      cases rp with
      | num n =>
        refine iteT ⟨_, rfl, n, rfl, hs n (List.mem_singleton.mpr rfl), fun z hz => q H z (Same.refl H) hz⟩
      | @arr a dx ea pa sh l ys ha he hp rps =>
        have hd : 1 + depthVs l < d + 1 := hd
        have hz : 1 + sizeVs l ≤ 600 := hz
        have hg' : (Vaarrm.shapeOk sh && goodVs l) = true := hg
        obtain ⟨hg1, hg2⟩ := Bool.and_eq_true_iff.mp hg'
        have hrk : sh.length ≤ 4 := good_rank hg
        refine iteF ?_
        refine ⟨⟨_, rfl⟩, ?_⟩
        refine ⟨_, rfl, a, C, _, _, _, rfl, sm _ _ ha, N.cl, N.nE, naF_extents, ea, rfl, ⟨_, SqL.of (sm _ _ he)⟩, fun D0 h0 => lc_list (K := K) (a := ea) (xs := bts sh) (fun i H' => Same H H' ∧ H' D0 = some (.lst (((sh.take i).map fun n => Str.ofString (toString ((n : Nat) : Int))).map V.str))) ⟨same_new h0, upd_same⟩ (fun i H' _ hh => SqL.of (hh.1 _ _ (sm _ _ he))) ?_ ?_⟩
        · rintro i y H' hi ⟨s1, hD1⟩
          obtain ⟨n, hn, rfl⟩ : ∃ n : Nat, sh[i]? = some n ∧ y = V.int (n : Int) := by
            unfold bts at hi
            rw [List.getElem?_map] at hi
            obtain ⟨z, e1, e2⟩ := Option.map_eq_some_iff.mp hi
            exact ⟨z, e1, e2.symm⟩
          have h256 := shape_extents hg1 n (List.mem_of_getElem? hn)
          refine ⟨rfl, ?_⟩
          unfold tYes
          refine iteT ⟨_, rfl, (n : Int), rfl, log_small (by omega), _, hD1, ?_, ?_, ?_⟩
          · rw [List.length_map, List.length_map, List.length_take]
            exact Nat.lt_of_le_of_lt (Nat.le_trans (Nat.min_le_right _ _) hrk) (by decide)
          · intro b o e
            rw [upd_ne (ne_of_none e h0)]
            exact s1 b o e
          · rw [upd_same, take_snoc hn, List.map_append, List.map_append]
            rfl
        · rintro H1 ⟨s1, hD1⟩
          rw [bts_len, List.take_length] at hD1
          have hx : (sh.map fun n => Str.ofString (toString ((n : Nat) : Int))).map TL.tl = sh.map Vaarrm.decimal := by
            rw [List.map_map]
            exact List.map_congr_left fun n hn => tl_dec (by have := shape_extents hg1 n hn; omega)
          refine ⟨_, D0, sh.map fun n => Str.ofString (toString ((n : Nat) : Int)), rfl, rfl, Or.inl (SqL.of hD1), ?_, ?_⟩
          · have h1 := decimals_len sh
            rw [lens_sum, hx, List.length_map]
            show _ + sh.length * 1 ≤ _
            omega
          · have hj : TL.tl (Txt.join (Str.ofString " ") (sh.map fun n => Str.ofString (toString ((n : Nat) : Int)))) = Vaarrm.spaced (sh.map Vaarrm.decimal) := by
              rw [TL.join_eq, TL.tl_join, hx]
              exact joinL_spaced _
            revert hj
            generalize Txt.join (Str.ofString " ") (sh.map fun n => Str.ofString (toString ((n : Nat) : Int))) = x
            intro hj
            refine ⟨⟨_, rfl⟩, ?_⟩
            refine ⟨_, rfl, a, C, _, _, _, rfl, s1 _ _ (sm _ _ ha), N.cl, N.nP, naF_parts, pa, rfl, ⟨_, SqL.of (s1 _ _ (sm _ _ hp))⟩, fun D2 h2 => lc_list (K := K) (a := pa) (xs := ys) (fun i H' => Same H1 H' ∧ ∃ zs : List Str, H' D2 = some (.lst (zs.map V.str)) ∧ zs.map TL.tl = (l.take i).map fun u => 32 :: textV u)
              ⟨same_new h2, [], upd_same, rfl⟩ (fun i H' _ hh => SqL.of (hh.1 _ _ (s1 _ _ (sm _ _ hp)))) ?_ ?_⟩
            · rintro i y H' hi ⟨s2, zs, hD2, hzs⟩
              obtain ⟨u', hu, ru⟩ := rps.at hi
              have hmem : u' ∈ l := List.mem_of_getElem? hu
              have h3 := depthV_mem hmem
              have h4 := sizeV_mem hmem
              have hgu : goodV u' = true := List.all_eq_true.mp ((goodVs_all l).symm.trans hg2) u' hmem
              have hsu : smallV u' := fun n hn => hs n (by show n ∈ leavesVs l; rw [leavesVs_flat]; exact List.mem_flatMap.mpr ⟨u', hmem, hn⟩)
              have hzl : zs.length ≤ l.length := by
                have := congrArg List.length hzs
                rw [List.length_map, List.length_map, List.length_take] at this
                omega
              have hll := sizeVs_ge l
              refine ⟨rfl, ?_⟩
              unfold tYes
              refine iteT ⟨_, rfl, y, u', F0, rfl, (sm.trans s1).trans s2, ru, by omega, by omega, hgu, hsu, fun H3 z s3 hz3 => ?_⟩
              have h5 := textV_len u' hgu
              refine ⟨_, _, rfl, rfl, ?_, _, s3 _ _ hD2, ?_, ?_, zs ++ [Str.ofString " " ++ z], ?_, ?_⟩
              · rw [tl_len hz3]
                exact Nat.le_trans (show 1 + (textV u').length ≤ 200000 by omega) (by decide)
              · rw [List.length_map]
                exact Nat.lt_of_le_of_lt (show zs.length ≤ 600 by omega) (by decide)
              · intro b o e
                rw [upd_ne (ne_of_none e h2)]
                exact s3 _ _ (s2 b o e)
              · rw [upd_same, List.map_append]
                rfl
              · rw [List.map_append, hzs, take_snoc hu, List.map_append]
                congr 1
                show [TL.tl (Str.ofString " " ++ z)] = [32 :: textV u']
                rw [TL.tl_append, hz3]
                rfl
            · rintro H2 ⟨s2, zs, hD2, hzs⟩
              rw [rps.len, List.take_length] at hzs
              have hfl : (zs.map TL.tl).flatten = textVs l := by rw [hzs, textVs_flatten]
              have h6 := textVs_len l hg2
              refine ⟨_, D2, zs, rfl, rfl, Or.inl (SqL.of hD2), ?_, ?_⟩
              · rw [lens_sum, hfl]
                show _ + zs.length * 0 ≤ _
                omega
              · have hk : TL.tl (Txt.join (Str.ofString "") zs) = textVs l := by
                  rw [TL.join_eq, TL.tl_join]
                  exact (joinL_flat _).trans hfl
                revert hk
                generalize Txt.join (Str.ofString "") zs = y
                intro hk
                have h7 := spaced_len sh
                have hxl := tl_len hj
                have hyl := tl_len hk
                refine ⟨_, rfl, _, _, rfl, rfl, ?_, _, _, rfl, rfl, ?_, _, rfl, _, _, rfl, rfl, ?_, _, _, rfl, rfl, ?_, q H2 _ (s1.trans s2) ?_⟩
                · exact Nat.le_trans (show 1 + x.length ≤ 200000 by omega) (by decide)
                · rw [TL.len_tl, TL.tl_append, List.length_append, ← TL.len_tl, ← TL.len_tl]
                  exact Nat.le_trans (show 1 + x.length + 1 ≤ 200000 by omega) (by decide)
                · rw [TL.len_tl, TL.tl_append, TL.tl_append, List.length_append, List.length_append, ← TL.len_tl, ← TL.len_tl, ← TL.len_tl]
                  exact Nat.le_trans (show 1 + x.length + 1 + y.length ≤ 200000 by omega) (by decide)
                · rw [TL.len_tl, TL.tl_append, TL.tl_append, TL.tl_append, List.length_append, List.length_append, List.length_append, ← TL.len_tl, ← TL.len_tl, ← TL.len_tl, ← TL.len_tl]
                  exact Nat.le_trans (show 1 + x.length + 1 + y.length + 1 ≤ 200000 by omega) (by decide)
                · rw [TL.tl_append, TL.tl_append, TL.tl_append, TL.tl_append, hj, hk]
                  show [91] ++ Vaarrm.spaced (sh.map Vaarrm.decimal) ++ [58] ++ textVs l ++ [93] = 91 :: (Vaarrm.spaced (sh.map Vaarrm.decimal) ++ (58 :: (textVs l ++ [93])))
                  simp only [List.append_assoc, List.singleton_append, List.cons_append, List.nil_append]
end
end NAp

namespace NAp
open PySem PySem.Spec PyProof.Rows L2 NA NAx
open PySem.W (Codec)
section
variable {P : Program} {w : World} {K : PySem.W.Frag} {mg : Str → Option Value} {base : Heap} {h : Heap}
def spTextOf (C : Addr) : Sp := fun vs H Q _ => ∃ (v : V) (u : Vaarrm.V) (F : Hp), vs = [v] ∧ Same F H ∧ Rep C F v u ∧ withinV u = true ∧ goodV u = true ∧ smallV u ∧ ∀ (H' : Hp) (p : Addr), Same H H' → H p = none → H' p = some (.lst (bts (textV u))) → Q (.ref p) H'
theorem sc_text_of : FnScope ["value", "sign"] ["value"] (defScope s_text_of) := ⟨rfl, rfl, rfl, by decide +kernel, rfl, by decide +kernel, by decide +kernel⟩
theorem ok_text_of {f C f1 : Addr} {fd fd1 : FuncData} (F : Fun K "text_of" "text_of" s_text_of f fd) (no : mg "ord" = none) (D1 : DefAt K mg "written" s_written ["value"] f1 fd1) (G1 : FnOk P w K mg base CX0 10 f1 fd1 ["value"] (spWritten C 9)) :
    FnOk P w K mg base CX0 11 f fd ["value"] (spTextOf C) := by
  refine F.ok sc_text_of (fun vs H Q E h => ?_) (fun cdv A outer s H vs Q E hr h => ?_)
  · obtain ⟨v, u, F0, rfl, _⟩ := h
    rfl
  · obtain ⟨v, u, F0, rfl, sm, rp, hw, hg, hs, q⟩ := h
    obtain ⟨hw1, hw2⟩ := within_iff.mp hw
    refine ⟨_, pss_one (ps_ret (pe_lc (own := [("sign", 1)]) (g := gName 1) (tt := tYes) rfl sc_text_of.nd (pi_str (pe_call G1 hr rfl D1.g D1.fn.kp D1.b .nil pass0 (pa_cons (pv 0) pa_nil))) (blkOk_by (N := ["value", "sign"]) (sc := defScope s_text_of) (by decide +kernel))
      (fun _ _ _ _ _ => pg_name (i := 1) sc_text_of.nd rfl (Or.inl rfl)) (fun _ _ _ _ _ => pts_nil) (fun _ _ _ _ _ => pe_callB call_ord (by rfl) no (by decide +kernel) (pa_cons (pv 1) pa_nil)))), ?_⟩
    refine ⟨_, rfl, v, u, F0, rfl, sm, rp, by omega, by omega, hg, hs, fun H1 z s1 hz => ?_⟩
    have hlen := textV_len u hg
    have hzl : z.cps.size = (textV u).length := by rw [← hz, TL.tl, Array.length_toList]
    refine ⟨z, rfl, fun D hD => lc_it walk_str (fun i H' => Same H1 H' ∧ H' D = some (.lst (bts ((textV u).take i)))) ⟨same_new hD, upd_same⟩ (fun _ _ _ _ => True.intro) ?_ ?_⟩
    · rintro i x H' H'' hi ⟨s2, hD2⟩ ⟨rfl, c, hc, rfl⟩
      have hc' : (textV u)[i]? = some c := by
        rw [← hz, Array.getElem?_toList]
        exact hc
      refine ⟨rfl, ?_⟩
      unfold tYes
      refine iteT ⟨_, rfl, _, rfl, rfl, _, hD2, ?_, ?_, ?_⟩
      · rw [bts_len, List.length_take]
        exact Nat.lt_of_le_of_lt (Nat.le_trans (Nat.min_le_right _ _) (show (textV u).length ≤ 200 * 512 by omega)) (by decide)
      · intro b o e
        rw [upd_ne (ne_of_none e hD)]
        exact s2 b o e
      · rw [upd_same, take_snoc hc']
        unfold bts
        rw [List.map_append]
        rfl
    · rintro H' ⟨s2, hD2⟩
      rw [hzl, List.take_length] at hD2
      exact q H' D (s1.trans s2) (s1.free hD) hD2
end
end NAp

namespace NAp
open PySem PySem.Spec PyProof.Rows L2 NA NAx
open PySem.W (Codec)
section
variable {P : Program} {w : World} {K : PySem.W.Frag} {mg : Str → Option Value} {base : Heap} {h : Heap}
/-- the items of a value, in a new list -/
def spPartsOf (C : Addr) : Sp := fun vs H Q _ => ∃ (v : V) (u : Vaarrm.V) (F : Hp), vs = [v] ∧ Same F H ∧ Rep C F v u ∧ ∀ (H' : Hp) (p : Addr) (ys : List V), Same H H' → H p = none → H' p = some (.lst ys) → Reps C F ys (Vaarrm.itemsOf u) → Q (.ref p) H'
theorem sc_parts_of : FnScope ["value"] ["value"] (defScope s_parts_of) := ⟨rfl, rfl, rfl, by decide +kernel, rfl, by decide +kernel, by decide +kernel⟩
theorem ok_parts_of {f C fI f1 : Addr} {fd fdI fd1 : FuncData} (F : Fun K "parts_of" "parts_of" s_parts_of f fd) (N : NaC K mg C fI fdI) (nl : mg "list" = none) (D1 : DefAt K mg "is_number" s_is_number ["value"] f1 fd1)
    (G1 : FnOk P w K mg base CX0 1 f1 fd1 ["value"] (spVal C fun u => .bl (Vaarrm.isNum u))) : FnOk P w K mg base CX0 2 f fd ["value"] (spPartsOf C) := by
  refine F.ok sc_parts_of (fun vs H Q E h => ?_) (fun cdv A outer s H vs Q E hr h => ?_)
  · obtain ⟨v, u, F0, rfl, _⟩ := h
    rfl
  · obtain ⟨v, u, F0, rfl, sm, rp, q⟩ := h
    refine ⟨_, pss_one (ps_ret (pe_ifExp (pt_val (pe_call G1 hr rfl D1.g D1.fn.kp D1.b .nil pass0 (pa_cons (pv 0) pa_nil))) (pe_lst (pa_cons (pv 0) pa_nil)) (pe_callTy call_list_of (by rfl) nl boot_list (pa_cons (pe_fld (pv 0) rfl) pa_nil)))), ?_⟩
    refine ⟨_, rfl, v, u, F0, rfl, sm, rp, _, rfl, ?_⟩
    cases rp with
    | num n => exact iteT ⟨_, rfl, (by show 1 ≤ sizeLine; decide), fun p hp => q _ p _ (same_new hp) hp upd_same (.cons (.num n) .nil)⟩
    | arr ha he hp hr => exact iteF ⟨_, rfl, _, C, _, _, _, rfl, sm _ _ ha, N.cl, N.nP, naF_parts, _, _, rfl, .inl (SqL.of (sm _ _ hp)), fun p hp => q _ p _ (same_new hp) hp upd_same hr⟩
end
end NAp

namespace NAp
open PySem PySem.Spec PyProof.Rows L2 NA NAx
open PySem.W (Codec)
section
variable {P : Program} {w : World} {K : PySem.W.Frag} {mg : Str → Option Value} {base : Heap} {h : Heap}
mutual
/-- all extents in a value -/
def extsV : Vaarrm.V → List Nat
  | .num _ => []
  | .arr s l => s ++ extsVs l
def extsVs : List Vaarrm.V → List Nat
  | [] => []
  | v :: r => extsV v ++ extsVs r
end
/-- no extent is out of all bounds -/
def tameV (u : Vaarrm.V) : Prop := ∀ n ∈ extsV u, n ≤ 1000000000000000000
theorem exts_mem {v : Vaarrm.V} {n : Nat} (h : n ∈ extsV v) : ∀ {l : List Vaarrm.V}, v ∈ l → n ∈ extsVs l
  | w :: r, hm => by
    show n ∈ extsV w ++ extsVs r
    rcases List.mem_cons.mp hm with rfl | hm
    · exact List.mem_append.mpr (.inl h)
    · exact List.mem_append.mpr (.inr (exts_mem h hm))
mutual
theorem good_tame : ∀ u : Vaarrm.V, goodV u = true → tameV u
  | .num _, _ => fun n hn => by cases hn
  | .arr s l, h => fun n hn => by
    have h : (Vaarrm.shapeOk s && goodVs l) = true := h
    have hn : n ∈ s ++ extsVs l := hn
    rcases List.mem_append.mp hn with hn | hn
    · exact Nat.le_trans (shape_extents (Bool.and_eq_true_iff.mp h).1 n hn) (by decide)
    · exact good_tames l (Bool.and_eq_true_iff.mp h).2 n hn
theorem good_tames : ∀ l : List Vaarrm.V, goodVs l = true → ∀ n ∈ extsVs l, n ≤ 1000000000000000000
  | [], _, n, hn => by cases hn
  | v :: r, h, n, hn => by
    have h : (goodV v && goodVs r) = true := h
    have hn : n ∈ extsV v ++ extsVs r := hn
    rcases List.mem_append.mp hn with hn | hn
    · exact good_tame v (Bool.and_eq_true_iff.mp h).1 n hn
    · exact good_tames r (Bool.and_eq_true_iff.mp h).2 n hn
end
/-- whether the shapes in a value that isn't as deep as d are ones -/
def spHasShapes (C : Addr) (d : Nat) : Sp := fun vs H Q _ => ∃ (v : V) (u : Vaarrm.V) (F : Hp), vs = [v] ∧ Same F H ∧ Rep C F v u ∧ depthV u < d ∧ sizeV u ≤ 600 ∧ tameV u ∧ ∀ H' : Hp, Same H H' → Q (.bl (goodV u)) H'
theorem sc_has_shapes : FnScope ["value", "part"] ["value"] (defScope s_has_shapes) := ⟨rfl, rfl, rfl, by decide +kernel, rfl, by decide +kernel, by decide +kernel⟩
theorem ok_has_shapes {f C fI f1 f2 : Addr} {fd fdI fd1 fd2 : FuncData} (D : DefAt K mg "has_shapes" s_has_shapes ["value"] f fd) (N : NaC K mg C fI fdI) (na : mg "all" = none) (D1 : DefAt K mg "is_number" s_is_number ["value"] f1 fd1)
    (G1 : FnOk P w K mg base CX0 1 f1 fd1 ["value"] (spVal C fun u => .bl (Vaarrm.isNum u))) (D2 : DefAt K mg "is_shape" s_is_shape ["extents"] f2 fd2) (G2 : FnOk P w K mg base CX0 2 f2 fd2 ["extents"] (spIsShape K)) :
    ∀ d : Nat, FnOk P w K mg base CX0 (d + 2) f fd ["value"] (spHasShapes C d)
  | 0 => by
    refine ⟨fun vs H Q E h => ?_, fun A outer s H args us vs Q E hr e0 hb r h => ?_⟩
    · obtain ⟨v, u, F0, rfl, _⟩ := h
      rfl
    · obtain ⟨v, u, F0, rfl, _, _, hd, _⟩ := h
      exact absurd hd (Nat.not_lt_zero _)
  | d + 1 => by
    have IH := ok_has_shapes D N na D1 G1 D2 G2 d
    refine D.fn.ok sc_has_shapes (fun vs H Q E h => ?_) (fun cdv A outer s H vs Q E hr h => ?_)
    · obtain ⟨v, u, F0, rfl, _⟩ := h
      rfl
    · obtain ⟨v, u, F0, rfl, sm, rp, hd, hz, ht, q⟩ := h
      have hr2 : Room 2 _ := hr.mono (Nat.le_add_left 2 d)
      have hr1 : Room 1 _ := hr2.mono (by decide)
      refine ⟨_, pss_cons (ps_if (pt_val (pe_call G1 hr1 rfl D1.g D1.fn.kp D1.b .nil pass0 (pa_cons (pv 0) pa_nil))) (pss_one (ps_ret pe_bl)) pss_nil)
        (pss_one (ps_ret (pe_and (pe_call G2 hr2 rfl D2.g D2.fn.kp D2.b .nil pass0 (pa_cons (pe_fld (pv 0) rfl) pa_nil))
          (pe_one (pe_callB (cr_all rfl) (by rfl) na (by decide +kernel) (pa_cons (pe_lc (own := [("part", 1)]) (g := gName 1) (tt := tYes) rfl sc_has_shapes.nd (pi_list (pe_fld (pv 0) rfl)) (blkOk_by (N := ["value", "part"]) (sc := defScope s_has_shapes) (by decide +kernel))
            (fun _ _ _ _ _ => pg_name (i := 1) sc_has_shapes.nd rfl (Or.inl rfl)) (fun _ _ _ _ _ => pts_nil) (fun _ _ _ _ _ => pe_call IH hr rfl D.g D.fn.kp D.b .nil pass0 (pa_cons (pv 1) pa_nil))) pa_nil)))))), ?_⟩
      refine ⟨_, rfl, v, u, F0, rfl, sm, rp, _, rfl, ?_⟩
      cases rp with
      | num n => exact iteT (q H (Same.refl H))
      | @arr a dx ea pa sh l ys ha he hp rps =>
        have hd : 1 + depthVs l < d + 1 := hd
        have hz : 1 + sizeVs l ≤ 600 := hz
        have hll := sizeVs_ge l
        have q : ∀ H', Same H H' → Q (.bl (Vaarrm.shapeOk sh && goodVs l)) H' := q
        refine iteF ?_
        refine ⟨_, rfl, a, C, _, _, _, rfl, sm _ _ ha, N.cl, N.nE, naF_extents, ea, sh, rfl, SqL.of (sm _ _ he), fun n hn => ht n (by show n ∈ sh ++ extsVs l; exact List.mem_append.mpr (.inl hn)), fun H1 s1 => ?_⟩
        refine ⟨_, rfl, ?_⟩
        cases cs : Vaarrm.shapeOk sh with
        | false =>
          rw [cs, Bool.false_and] at q
          exact iteF (q H1 s1)
        | true =>
          rw [cs, Bool.true_and] at q
          refine iteT ?_
          refine ⟨_, rfl, a, C, _, _, _, rfl, s1 _ _ (sm _ _ ha), N.cl, N.nP, naF_parts, pa, rfl, ⟨_, SqL.of (s1 _ _ (sm _ _ hp))⟩, fun D0 h0 => lc_list (K := K) (a := pa) (xs := ys) (fun i H' => Same H1 H' ∧ H' D0 = some (.lst (((l.take i).map goodV).map V.bl)))
            ⟨same_new h0, upd_same⟩ (fun i H' _ hh => SqL.of (hh.1 _ _ (s1 _ _ (sm _ _ hp)))) ?_ ?_⟩
          · rintro i y H' hi ⟨s2, hD2⟩
            obtain ⟨u', hu, ru⟩ := rps.at hi
            have hmem : u' ∈ l := List.mem_of_getElem? hu
            have h3 := depthV_mem hmem
            have h4 := sizeV_mem hmem
            refine ⟨rfl, ?_⟩
            unfold tYes
            refine iteT ⟨_, rfl, y, u', F0, rfl, (sm.trans s1).trans s2, ru, by omega, by omega, fun n hn => ht n (by show n ∈ sh ++ extsVs l; exact List.mem_append.mpr (.inr (exts_mem hn hmem))), fun H3 s3 => ?_⟩
            refine ⟨_, s3 _ _ hD2, ?_, ?_, ?_⟩
            · rw [List.length_map, List.length_map, List.length_take]
              exact Nat.lt_of_le_of_lt (Nat.le_trans (Nat.min_le_right _ _) (show l.length ≤ 600 by omega)) (by decide)
            · intro b o e
              rw [upd_ne (ne_of_none e h0)]
              exact s3 _ _ (s2 b o e)
            · rw [upd_same, take_snoc hu, List.map_append, List.map_append]
              rfl
          · rintro H2 ⟨s2, hD2⟩
            rw [rps.len, List.take_length] at hD2
            refine ⟨D0, _, rfl, SqL.of hD2, ?_⟩
            rw [List.all_map]
            have e : goodVs l = l.all (id ∘ goodV) := goodVs_all l
            rw [← e]
            exact q H2 (s1.trans s2)
end
end NAp

namespace NAp
open PySem PySem.Spec PyProof.Rows L2 NA NAx
open PySem.W (Codec)
section
variable {P : Program} {w : World} {K : PySem.W.Frag} {mg : Str → Option Value} {base : Heap} {h : Heap}
/-- what may come out does, all else is refused -/
def spComeOut (K : PySem.W.Frag) (mg : Str → Option Value) (C CR : Addr) : Sp := fun vs H Q E => ∃ (v : V) (u : Vaarrm.V) (F : Hp), vs = [v] ∧ Same F H ∧ Rep C F v u ∧ tameV u ∧
  (¬ (goodV u = true ∧ withinV u = true) → ∀ H', Same H H' → OutR K mg CR E (-5) H') ∧ (goodV u = true → withinV u = true → ∀ H', Same H H' → Q v H')
theorem sc_come_out : FnScope ["value"] ["value"] (defScope s_come_out) := ⟨rfl, rfl, rfl, by decide +kernel, rfl, by decide +kernel, by decide +kernel⟩
theorem ok_come_out {f f1 f2 C CR CM fM : Addr} {fd fd1 fd2 fdM : FuncData} (F : Fun K "come_out" "come_out" s_come_out f fd) (TM : RefCls K mg CR "LimitRefusal" CM fM) (GM : FnOk P w K mg base CX0 2 fM fdM ["self"] (spOInit K (-5))) (bM : Binds K fdM ["self"] [])
    (D1 : DefAt K mg "is_within_limits" s_is_within_limits ["value"] f1 fd1) (G1 : FnOk P w K mg base CX0 3 f1 fd1 ["value"] (spVal C fun u => .bl (withinV u)))
    (D2 : DefAt K mg "has_shapes" s_has_shapes ["value"] f2 fd2) (G2 : FnOk P w K mg base CX0 11 f2 fd2 ["value"] (spHasShapes C 9)) :
    FnOk P w K mg base (L2.CX P w) 12 f fd ["value"] (spComeOut K mg C CR) := by
  refine F.okX sc_come_out (fun vs H Q E h => ?_) (fun cdv A outer s H vs Q E hr h => ?_)
  · obtain ⟨v, u, F0, rfl, _⟩ := h
    rfl
  · obtain ⟨v, u, F0, rfl, sm, rp, ht, hE, hQ⟩ := h
    have hr3 : Room 3 _ := hr.mono (by decide)
    refine ⟨_, pss_cons (ps_if (PW.pt (pw_or (pt_not (pt_val (pe_call G1 hr3 rfl D1.g D1.fn.kp D1.b .nil pass0 (pa_cons (pv 0) pa_nil)))) (pw_or1 (pt_not (pt_val (pe_call G2 hr rfl D2.g D2.fn.kp D2.b .nil pass0 (pa_cons (pv 0) pa_nil)))))))
        (pss_one (ps_refuse rfl (takes_of rfl rfl rfl rfl) TM GM hr3 bM (by rfl))) pss_nil)
      (pss_one (ps_ret (pv 0))), ?_⟩
    refine ⟨_, rfl, v, u, F0, rfl, sm, rp, _, rfl, ?_⟩
    cases cw : withinV u with
    | false => exact iteT (hE (fun z => by rw [cw] at z; cases z.2) H (Same.refl H) _ _ _ TM)
    | true =>
      obtain ⟨hw1, hw2⟩ := within_iff.mp cw
      refine iteF ⟨_, rfl, v, u, F0, rfl, sm, rp, by omega, by omega, ht, fun H1 s1 => ⟨_, rfl, ?_⟩⟩
      cases cg : goodV u with
      | false => exact iteT (hE (fun z => by rw [cg] at z; cases z.1) H1 s1 _ _ _ TM)
      | true => exact iteF ⟨_, rfl, hQ cg cw H1 s1⟩
end
end NAp

namespace NAp
open PySem PySem.Spec PyProof.Rows L2 NA NAx
open PySem.W (Codec)
section
variable {P : Program} {w : World} {K : PySem.W.Frag} {mg : Str → Option Value} {base : Heap} {h : Heap}
def spOutcome (K : PySem.W.Frag) (mg : Str → Option Value) (C CR : Addr) : Sp := fun vs H Q E => ∃ (v : V) (u : Vaarrm.V) (F : Hp), vs = [v] ∧ Same F H ∧ Rep C F v u ∧ tameV u ∧ smallV u ∧
  (¬ (goodV u = true ∧ withinV u = true) → ∀ H', OutR K mg CR E (-5) H') ∧ (goodV u = true → withinV u = true → ∀ (H' : Hp) (p : Addr), H' p = some (.lst ((0 :: Vaarrm.ints (textV u)).map V.int)) → Q (.ref p) H')
theorem sc_outcome_answer : FnScope ["value"] ["value"] (defScope s_outcome_answer) := ⟨rfl, rfl, rfl, by decide +kernel, rfl, by decide +kernel, by decide +kernel⟩
theorem ok_outcome_answer {f f1 f2 C CR : Addr} {fd fd1 fd2 : FuncData} (F : Fun K "outcome_answer" "outcome_answer" s_outcome_answer f fd)
    (D1 : DefAt K mg "come_out" s_come_out ["value"] f1 fd1) (G1 : FnOk P w K mg base (L2.CX P w) 12 f1 fd1 ["value"] (spComeOut K mg C CR))
    (D2 : DefAt K mg "text_of" s_text_of ["value"] f2 fd2) (G2 : FnOk P w K mg base CX0 11 f2 fd2 ["value"] (spTextOf C)) :
    FnOk P w K mg base (L2.CX P w) 13 f fd ["value"] (spOutcome K mg C CR) := by
  refine F.okX sc_outcome_answer (fun vs H Q E h => ?_) (fun cdv A outer s H vs Q E hr h => ?_)
  · obtain ⟨v, u, F0, rfl, _⟩ := h
    rfl
  · obtain ⟨v, u, F0, rfl, sm, rp, ht, hs, hE, hQ⟩ := h
    refine ⟨_, pss_one (ps_ret (pe_op op_cat (pe_lst (pa_cons pe_int pa_nil)) (pe_call G2 (hr.mono (by decide)) rfl D2.g D2.fn.kp D2.b .nil pass0 (pa_cons (pe_call G1 hr rfl D1.g D1.fn.kp D1.b .nil (passes_call (takes_of rfl rfl rfl rfl) (fun _ _ _ _ z => z)) (pa_cons (pv 0) pa_nil)) pa_nil)))), ?_⟩
    refine ⟨(by show 1 ≤ sizeLine; decide), fun p0 h0 => ?_⟩
    have s0 : Same H (upd H p0 (.lst [.int 0])) := same_new h0
    refine ⟨_, rfl, v, u, F0, rfl, sm.trans s0, rp, ht, fun c H' _ => hE c H', fun hg hw H' s' => ?_⟩
    have hlen := textV_len u hg
    obtain ⟨hw1, hw2⟩ := within_iff.mp hw
    refine ⟨v, u, F0, rfl, (sm.trans s0).trans s', rp, hw, hg, hs, fun H2 p s2 n2 hp => ?_⟩
    have hp0 : H2 p0 = some (.lst [.int 0]) := s2 _ _ (s' _ _ upd_same)
    refine ⟨p0, p, _, _, rfl, rfl, hp0, hp, ?_, fun p2 h2 => hQ hg hw _ p2 ?_⟩
    · rw [bts_len]
      exact Nat.le_trans (show 1 + (textV u).length ≤ 200000 by omega) (by decide)
    · rw [upd_same, List.map_cons]
      unfold Vaarrm.ints bts
      rw [List.map_map]
      rfl
end
end NAp

namespace NAp
open PySem PySem.Spec PyProof.Rows L2 NA NAx
open PySem.W (Codec)
section
variable {P : Program} {w : World} {K : PySem.W.Frag} {mg : Str → Option Value} {base : Heap} {h : Heap}
/-! ### the desk: arguments of any kinds -/
/-- what a call of the desk promises: Pre says what is handed in, and what is due of it -/
def spDesk (T : Addr) (Pre : List V → Hp → List Int → Prop) : Sp := fun vs H Q _ => ∃ due : List Int, Pre vs H due ∧ H T = some (.tbl #[]) ∧
  ∀ (H' : Hp) (p : Addr), H' p = some (.lst (due.map V.int)) → Q (.ref p) H'
/-- a call of the desk: answered(lambda: ..) -/
theorem desk_any {x : Str} {ps : List Str} {st : Stmt} {f fA c T CR : Addr} {fdA : FuncData} {oc kV doc pm ct : Value} {od an : Option Addr} {osl : Array (Option Value)} {k : Nat} {Pre : List V → Hp → List Int → Prop} {params : Arguments} {body : Expr} {scope : Scope} {p1 p2 p3 p4 : Pos} {t : XK → TE}
    (hst : defBody st = [.Return (some (.Call (.Name "answered" p1) [.Lambda params body scope p2] [] p3)) p4])
    (sc : FnScope ps ps (defScope st)) (hgl : (defScope st).names.lookup ("answered" : Str) = some .globalImplicit)
    (lk : K.lookup f = some ⟨oc, od, .func (PySem.W.fnOf x x (defArgs st) (defBody st) (defScope st) .none kV doc pm an (.ref c) ct), osl⟩) (hcd : PySem.W.codeIn K (.ref c) x = true)
    (TB : LamX.TabB base mg c T) (DA : DefAt K mg "answered" s_answered ["work"] fA fdA) (gR : mg "Refusal" = some (.ref CR)) (LS : LamX.LamS (defScope st) scope)
    (hdef : ∀ env, defaultsOf params env = ([], [])) (hbind : ∀ (q : Str) (cl : List (Str × Addr)) (pm cv ctv : Value), bindArgs (PySem.W.kla_fn "<lambda>" q params body scope cl pm cv ctv) ⟨[], []⟩ = pure [])
    (hbody : ∀ (cdv : Value) (s0 : Shared) (H0 : Hp) (E0 : XK) (A0 : Around) (outer0 : List Env) (A : Around) (outer : List Env) (s : Shared) (H : Hp) (E : XK) (f' c' : Addr),
      Room k (A.deeper (LamX.lamEnv (cxOf CX0 P w K mg base ps x (defScope st) f cdv A0 outer0 s0 H0 E0) scope s.heap.objs.size f' c')) → PE (LamX.lamCx (cxOf CX0 P w K mg base ps x (defScope st) f cdv A0 outer0 s0 H0 E0) A outer s H E scope f' c') body (t E))
    (hlen : ∀ vs H due, Pre vs H due → vs.length = ps.length) (hext : ∀ vs H H1 due, LamX.ExtN H H1 → Pre vs H due → Pre vs H1 due)
    (hread : ∀ (vs : List V) (H : Hp) (Q : VK) (due : List Int), Pre vs H due → (∀ (H' : Hp) (p : Addr), H' p = some (.lst (due.map V.int)) → Q (.ref p) H') → t (AnsE K CR Q) (L2.start ps vs) H Q) :
    FnOk P w K mg base CX0 (k + 3) f (PySem.W.fnOf x x (defArgs st) (defBody st) (defScope st) .none kV doc pm an (.ref c) ct) ps (spDesk T Pre) := by
  obtain ⟨oc1, od1, kV1, doc1, pm1, an1, cdv1, ct1, osl1, rfl, lk1, hcd1⟩ := DA.fn.ex
  refine fn_of lk hcd sc (fun vs H Q E h => ?_) (fun A outer s H vs Q E hr h => ?_)
  · obtain ⟨due, hp, _⟩ := h
    exact hlen vs H due hp
  · obtain ⟨due, hp, hTb, q⟩ := h
    rw [hst]
    refine ⟨_, pss_one (ps_ret (LamX.pe_lamcall (k := k) (T := [(T, _)]) (TT := TAns K CR) (Ng := ["work", "refusal"]) (t := t) hgl DA.g DA.fn.kp lk1 hcd1 DA.b scAnswered rfl (.inl rfl) (ans_gives gR) TB rfl
      (List.mem_singleton.mpr rfl) (fun p hp _ => by rw [List.mem_singleton.mp hp]) hr LS (hdef _) hbind
      (fun A' outer' s' H' E' f' c' hr' => hbody (.ref c) s H E A outer A' outer' s' H' E' f' c' hr'))), ?_⟩
    refine ⟨fun p hp => ?_, fun H1 e1 t1 => ?_⟩
    · rw [List.mem_singleton.mp hp]
      exact LamX.TabS.nil hTb
    · exact hread vs H1 Q due (hext vs H H1 due e1 hp) q
/-- one text -/
def preT (K : PySem.W.Frag) (due : List Nat → List Int) : List V → Hp → List Int → Prop := fun vs H d => ∃ (a : Addr) (t : List Nat), vs = [.ref a] ∧ Tx K H a t ∧ t.length ≤ 20000 ∧ d = due t
/-- two texts -/
def preTT (K : PySem.W.Frag) (due : List Nat → List Nat → List Int) : List V → Hp → List Int → Prop := fun vs H d => ∃ (a b : Addr) (t u : List Nat), vs = [.ref a, .ref b] ∧ Tx K H a t ∧ t.length ≤ 20000 ∧ Tx K H b u ∧ u.length ≤ 20000 ∧ d = due t u
/-- a list of ints, none of them great -/
def Pl (K : PySem.W.Frag) (H : Hp) (b : Addr) (l : List Int) : Prop := SqL K H b (l.map V.int) ∧ l.length ≤ 2000 ∧ ∀ n ∈ l, -1000000000000000000 ≤ n ∧ n ≤ 1000000000000000000
theorem Pl.ext {H H1 : Hp} {b : Addr} {l : List Int} (e : LamX.ExtN H H1) (p : Pl K H b l) : Pl K H1 b l := ⟨ext_seq e p.1, p.2⟩
theorem Pl.up {H H1 : Hp} {b : Addr} {l : List Int} (e : Same H H1) (p : Pl K H b l) : Pl K H1 b l := ⟨e.seq p.1, p.2⟩
/-- a text and a list -/
def preTL (K : PySem.W.Frag) (due : List Nat → List Int → List Int) : List V → Hp → List Int → Prop := fun vs H d => ∃ (a b : Addr) (t : List Nat) (l : List Int), vs = [.ref a, .ref b] ∧ Tx K H a t ∧ t.length ≤ 20000 ∧ Pl K H b l ∧ d = due t l
/-- a text, a list, a text -/
def preTLT (K : PySem.W.Frag) (due : List Nat → List Int → List Nat → List Int) : List V → Hp → List Int → Prop := fun vs H d => ∃ (a b c : Addr) (t : List Nat) (l : List Int) (u : List Nat), vs = [.ref a, .ref b, .ref c] ∧ Tx K H a t ∧ t.length ≤ 20000 ∧ Pl K H b l ∧ Tx K H c u ∧ u.length ≤ 20000 ∧ d = due t l u
/-- a number and a text -/
def preKT (K : PySem.W.Frag) (due : Int → List Nat → List Int) : List V → Hp → List Int → Prop := fun vs H d => ∃ (k : Int) (a : Addr) (t : List Nat), vs = [.int k, .ref a] ∧ (-1000000000000000000 ≤ k ∧ k ≤ 1000000000000000000) ∧ Tx K H a t ∧ t.length ≤ 20000 ∧ d = due k t
/-- a number and two texts -/
def preKTT (K : PySem.W.Frag) (due : Int → List Nat → List Nat → List Int) : List V → Hp → List Int → Prop := fun vs H d => ∃ (k : Int) (a b : Addr) (t u : List Nat), vs = [.int k, .ref a, .ref b] ∧ (-1000000000000000000 ≤ k ∧ k ≤ 1000000000000000000) ∧ Tx K H a t ∧ t.length ≤ 20000 ∧ Tx K H b u ∧ u.length ≤ 20000 ∧ d = due k t u
/-- a number and a list -/
def preKL (K : PySem.W.Frag) (due : Int → List Int → List Int) : List V → Hp → List Int → Prop := fun vs H d => ∃ (k : Int) (b : Addr) (l : List Int), vs = [.int k, .ref b] ∧ (-1000000000000000000 ≤ k ∧ k ≤ 1000000000000000000) ∧ Pl K H b l ∧ d = due k l
theorem preT_len {due : List Nat → List Int} : ∀ vs H d, preT K due vs H d → vs.length = 1 := fun _ _ _ ⟨_, _, e, _⟩ => by rw [e]; rfl
theorem preTT_len {due : List Nat → List Nat → List Int} : ∀ vs H d, preTT K due vs H d → vs.length = 2 := fun _ _ _ ⟨_, _, _, _, e, _⟩ => by rw [e]; rfl
theorem preTL_len {due : List Nat → List Int → List Int} : ∀ vs H d, preTL K due vs H d → vs.length = 2 := fun _ _ _ ⟨_, _, _, _, e, _⟩ => by rw [e]; rfl
theorem preTLT_len {due : List Nat → List Int → List Nat → List Int} : ∀ vs H d, preTLT K due vs H d → vs.length = 3 := fun _ _ _ ⟨_, _, _, _, _, _, e, _⟩ => by rw [e]; rfl
theorem preKT_len {due : Int → List Nat → List Int} : ∀ vs H d, preKT K due vs H d → vs.length = 2 := fun _ _ _ ⟨_, _, _, e, _⟩ => by rw [e]; rfl
theorem preKTT_len {due : Int → List Nat → List Nat → List Int} : ∀ vs H d, preKTT K due vs H d → vs.length = 3 := fun _ _ _ ⟨_, _, _, _, _, e, _⟩ => by rw [e]; rfl
theorem preKL_len {due : Int → List Int → List Int} : ∀ vs H d, preKL K due vs H d → vs.length = 2 := fun _ _ _ ⟨_, _, _, e, _⟩ => by rw [e]; rfl
theorem preT_ext {due : List Nat → List Int} : ∀ vs H H1 d, LamX.ExtN H H1 → preT K due vs H d → preT K due vs H1 d := fun _ _ _ _ x ⟨a, t, e, h, r⟩ => ⟨a, t, e, ext_seq x h, r⟩
theorem preTT_ext {due : List Nat → List Nat → List Int} : ∀ vs H H1 d, LamX.ExtN H H1 → preTT K due vs H d → preTT K due vs H1 d := fun _ _ _ _ x ⟨a, b, t, u, e, h, l, h2, r⟩ => ⟨a, b, t, u, e, ext_seq x h, l, ext_seq x h2, r⟩
theorem preTL_ext {due : List Nat → List Int → List Int} : ∀ vs H H1 d, LamX.ExtN H H1 → preTL K due vs H d → preTL K due vs H1 d := fun _ _ _ _ x ⟨a, b, t, l, e, h, hl, p, r⟩ => ⟨a, b, t, l, e, ext_seq x h, hl, p.ext x, r⟩
theorem preTLT_ext {due : List Nat → List Int → List Nat → List Int} : ∀ vs H H1 d, LamX.ExtN H H1 → preTLT K due vs H d → preTLT K due vs H1 d := fun _ _ _ _ x ⟨a, b, c, t, l, u, e, h, hl, p, h2, r⟩ => ⟨a, b, c, t, l, u, e, ext_seq x h, hl, p.ext x, ext_seq x h2, r⟩
theorem preKT_ext {due : Int → List Nat → List Int} : ∀ vs H H1 d, LamX.ExtN H H1 → preKT K due vs H d → preKT K due vs H1 d := fun _ _ _ _ x ⟨k, a, t, e, hk, h, r⟩ => ⟨k, a, t, e, hk, ext_seq x h, r⟩
theorem preKTT_ext {due : Int → List Nat → List Nat → List Int} : ∀ vs H H1 d, LamX.ExtN H H1 → preKTT K due vs H d → preKTT K due vs H1 d := fun _ _ _ _ x ⟨k, a, b, t, u, e, hk, h, l, h2, r⟩ => ⟨k, a, b, t, u, e, hk, ext_seq x h, l, ext_seq x h2, r⟩
theorem preKL_ext {due : Int → List Int → List Int} : ∀ vs H H1 d, LamX.ExtN H H1 → preKL K due vs H d → preKL K due vs H1 d := fun _ _ _ _ x ⟨k, b, l, e, hk, p, r⟩ => ⟨k, b, l, e, hk, p.ext x, r⟩
end
end NAp

namespace NAp
open PySem PySem.Spec PyProof.Rows L2 NA NAx
open PySem.W (Codec)
section
variable {P : Program} {w : World} {K : PySem.W.Frag} {mg : Str → Option Value} {base : Heap} {h : Heap}
/-! ### what is answered of what a work gives -/
def outR (r : Except Int Vaarrm.V) : List Int := match r with
  | .error n => [n]
  | .ok u => if goodV u = true ∧ withinV u = true then 0 :: Vaarrm.ints (textV u) else [-5]
theorem outR_given {r : Except Int Vaarrm.V} (hd : ∀ u, r = .ok u → depthV u < Vaarrm.FAR) : VaarrmNeutral.encode (Vaarrm.given r) = outR r := by
  cases r with
  | error n => rfl
  | ok u =>
    rw [given_ok (hd u rfl)]
    unfold outR
    by_cases c : goodV u = true ∧ withinV u = true
    · rw [if_pos c]
      show _ = (if goodV u = true ∧ withinV u = true then _ else _)
      rw [if_pos c]
      rfl
    · rw [if_neg c]
      show _ = (if goodV u = true ∧ withinV u = true then _ else _)
      rw [if_neg c]
      rfl
/-- a work gives r: a refusal leaves it, or it answers with a value that's made -/
def Yields (K : PySem.W.Frag) (mg : Str → Option Value) (C CR : Addr) (F H : Hp) (r : Except Int Vaarrm.V) (Q : VK) (E : XK) : Prop :=
  (∀ n, r = .error n → ∀ H', Same H H' → OutR K mg CR E n H') ∧ (∀ u, r = .ok u → ∀ (H' F' : Hp) (v : V), Grow F H F' H' → Rep C F' v u → Q v H')
/-- what goes between: the heap has grown -/
theorem Yields.up {C CR : Addr} {F H F1 H1 : Hp} {r : Except Int Vaarrm.V} {Q : VK} {E : XK} (g : Grow F H F1 H1) (y : Yields K mg C CR F H r Q E) : Yields K mg C CR F1 H1 r Q E :=
  ⟨fun n e H' s => y.1 n e H' (g.hh.trans s), fun u e H' F' v g2 rv => y.2 u e H' F' v (g.trans g2) rv⟩
/-- a work on one value -/
def spWork (K : PySem.W.Frag) (mg : Str → Option Value) (C CR : Addr) (g : Vaarrm.V → Except Int Vaarrm.V) : Sp := fun vs H Q E => ∃ (v : V) (u : Vaarrm.V) (F : Hp), vs = [v] ∧ Same F H ∧ Rep C F v u ∧ depthV u ≤ 8 ∧ sizeV u ≤ 600 ∧ Yields K mg C CR F H (g u) Q E
/-- the reading of outcome_answer(..) behind a work -/
theorem yields_out {C CR : Addr} {F H : Hp} {r : Except Int Vaarrm.V} {Q : VK} (hg : ∀ u, r = .ok u → tameV u ∧ smallV u) (q : ∀ (H' : Hp) (p : Addr), H' p = some (.lst ((outR r).map V.int)) → Q (.ref p) H') :
    Yields K mg C CR F H r (fun v H' => spOutcome K mg C CR [v] H' Q (AnsE K CR Q)) (AnsE K CR Q) := by
  refine ⟨fun n e H' _ => ?_, fun u e H' F' v g rv => ?_⟩
  · subst e
    exact ans_out q
  · subst e
    obtain ⟨ht, hs⟩ := hg u rfl
    have q : ∀ (H' : Hp) (p : Addr), H' p = some (.lst ((if goodV u = true ∧ withinV u = true then 0 :: Vaarrm.ints (textV u) else [-5] : List Int).map V.int)) → Q (.ref p) H' := q
    refine ⟨v, u, F', rfl, g.fh, rv, ht, hs, fun c H2 => ?_, fun h1 h2 H2 p hp => ?_⟩
    · rw [if_neg c] at q
      exact ans_out q
    · rw [if_pos ⟨h1, h2⟩] at q
      exact q H2 p hp
theorem made_of {C CR : Addr} {F H : Hp} {u : Vaarrm.V} {Q : VK} {E : XK} (y : Yields K mg C CR F H (.ok u) Q E) : ∀ (H' F' : Hp) (v : V), Grow F H F' H' → Rep C F' v u → Q v H' := y.2 u rfl
/-! ### the items of a value -/
theorem items_exts {u : Vaarrm.V} {n : Nat} (h : n ∈ extsVs (Vaarrm.itemsOf u)) : n ∈ extsV u := by
  cases u with
  | num m => cases h
  | arr s l => exact List.mem_append.mpr (.inr h)
theorem items_leaves (u : Vaarrm.V) : leavesVs (Vaarrm.itemsOf u) = leavesV u := by
  cases u with
  | num m => rfl
  | arr s l => rfl
theorem vector_tame {l : List Vaarrm.V} (hl : l.length ≤ 1000000) (h : ∀ n ∈ extsVs l, n ≤ 1000000000000000000) : tameV (Vaarrm.vector l) := fun n hn => by
  have hn : n ∈ [l.length] ++ extsVs l := hn
  rcases List.mem_append.mp hn with hn | hn
  · rw [List.mem_singleton.mp hn]
    exact Nat.le_trans hl (by decide)
  · exact h n hn
theorem vector_small {l : List Vaarrm.V} (h : ∀ n ∈ leavesVs l, n.natAbs ≤ 1000000000000000000) : smallV (Vaarrm.vector l) := h
end
end NAp

namespace NAp
open PySem PySem.Spec PyProof.Rows L2 NA NAx
open PySem.W (Codec)
section
variable {P : Program} {w : World} {K : PySem.W.Frag} {mg : Str → Option Value} {base : Heap} {h : Heap}
theorem extsVs_mem {n : Nat} : ∀ {l : List Vaarrm.V}, n ∈ extsVs l ↔ ∃ v ∈ l, n ∈ extsV v
  | [] => ⟨fun h => (nomatch h), fun ⟨_, h, _⟩ => (nomatch h)⟩
  | w :: r => by
    have e : n ∈ extsVs (w :: r) ↔ n ∈ extsV w ++ extsVs r := Iff.rfl
    rw [e, List.mem_append, extsVs_mem (l := r)]
    refine ⟨fun h => ?_, fun ⟨v, hv, hn⟩ => ?_⟩
    · rcases h with h | ⟨v, hv, h⟩
      · exact ⟨w, List.mem_cons_self .., h⟩
      · exact ⟨v, List.mem_cons_of_mem _ hv, h⟩
    · rcases List.mem_cons.mp hv with z | hv
      · rw [z] at hn
        exact .inl hn
      · exact .inr ⟨v, hv, hn⟩
theorem leavesVs_mem {n : Int} : ∀ {l : List Vaarrm.V}, n ∈ leavesVs l ↔ ∃ v ∈ l, n ∈ leavesV v
  | [] => ⟨fun h => (nomatch h), fun ⟨_, h, _⟩ => (nomatch h)⟩
  | w :: r => by
    have e : n ∈ leavesVs (w :: r) ↔ n ∈ leavesV w ++ leavesVs r := Iff.rfl
    rw [e, List.mem_append, leavesVs_mem (l := r)]
    refine ⟨fun h => ?_, fun ⟨v, hv, hn⟩ => ?_⟩
    · rcases h with h | ⟨v, hv, h⟩
      · exact ⟨w, List.mem_cons_self .., h⟩
      · exact ⟨v, List.mem_cons_of_mem _ hv, h⟩
    · rcases List.mem_cons.mp hv with z | hv
      · rw [z] at hn
        exact .inl hn
      · exact .inr ⟨v, hv, hn⟩
theorem depthVs_le {d : Nat} : ∀ {l : List Vaarrm.V}, (∀ v ∈ l, depthV v ≤ d) → depthVs l ≤ d
  | [], _ => Nat.zero_le _
  | w :: r, h => Nat.max_le.mpr ⟨h w (List.mem_cons_self ..), depthVs_le fun v hv => h v (List.mem_cons_of_mem _ hv)⟩
/-- what is asked of a value's numbers, and of its extents -/
def Fine (u : Vaarrm.V) : Prop := tameV u ∧ smallV u
theorem fine_list {l : List Vaarrm.V} (h : ∀ v ∈ l, Fine v) : (∀ n ∈ extsVs l, n ≤ 1000000000000000000) ∧ ∀ n ∈ leavesVs l, n.natAbs ≤ 1000000000000000000 :=
  ⟨fun n hn => by
    obtain ⟨v, hv, hn⟩ := extsVs_mem.mp hn
    exact (h v hv).1 n hn, fun n hn => by
    obtain ⟨v, hv, hn⟩ := leavesVs_mem.mp hn
    exact (h v hv).2 n hn⟩
theorem fine_items {u v : Vaarrm.V} (h : Fine u) (hv : v ∈ Vaarrm.itemsOf u) : Fine v := by
  cases u with
  | num m =>
    rw [List.mem_singleton.mp hv]
    exact h
  | arr s l => exact ⟨fun n hn => h.1 n (List.mem_append.mpr (.inr (extsVs_mem.mpr ⟨v, hv, hn⟩))), fun n hn => h.2 n (leavesVs_mem.mpr ⟨v, hv, hn⟩)⟩
theorem fine_arr {s : List Nat} {l : List Vaarrm.V} (hs : ∀ n ∈ s, n ≤ 1000000000000000000) (h : ∀ v ∈ l, Fine v) : Fine (.arr s l) :=
  ⟨fun n hn => (List.mem_append.mp hn).elim (hs n) ((fine_list h).1 n), (fine_list h).2⟩
theorem fine_made {s : List Nat} {l : List Vaarrm.V} (hs : ∀ n ∈ s, n ≤ 1000000000000000000) (h : ∀ v ∈ l, Fine v) : Fine (Vaarrm.made s l) := by
  unfold Vaarrm.made
  split
  · exact h _ (List.mem_cons_self ..)
  · exact fine_arr hs h
theorem fine_vector {l : List Vaarrm.V} (hl : l.length ≤ 1000000) (h : ∀ v ∈ l, Fine v) : Fine (Vaarrm.vector l) :=
  fine_arr (fun n hn => by rw [List.mem_singleton.mp hn]; exact Nat.le_trans hl (by decide)) h
theorem look_fine {t : List Nat} {u : Vaarrm.V} (e : look t = .ok u) : Fine u := ⟨good_tame u (look_good e), look_small e⟩
theorem fine_shape {u : Vaarrm.V} (h : Fine u) : ∀ n ∈ Vaarrm.shapeOf u, n ≤ 1000000000000000000 := fun n hn => by
  cases u with
  | num m => cases hn
  | arr s l => exact h.1 n (List.mem_append.mpr (.inl hn))
theorem fine_num {n : Int} (h : n.natAbs ≤ 1000000000000000000) : Fine (.num n) := ⟨fun m hm => (nomatch hm), fun m hm => by rw [List.mem_singleton.mp hm]; exact h⟩
end
end NAp

namespace NAp
open PySem PySem.Spec PyProof.Rows L2 NA NAx
open PySem.W (Codec)
section
variable {P : Program} {w : World} {K : PySem.W.Frag} {mg : Str → Option Value} {base : Heap} {h : Heap}
/-! ### a desk beside a def that makes lambdas too -/
def spDesk2 (T T2 : Addr) (Pre : List V → Hp → List Int → Prop) : Sp := fun vs H Q _ => ∃ due : List Int, Pre vs H due ∧ H T = some (.tbl #[]) ∧ H T2 = some (.tbl #[]) ∧
  ∀ (H' : Hp) (p : Addr), H' p = some (.lst (due.map V.int)) → Q (.ref p) H'
theorem desk_tab {x : Str} {ps : List Str} {st : Stmt} {f fA c T T2 CR : Addr} {q2 : Str} {fdA : FuncData} {oc kV doc pm ct : Value} {od an : Option Addr} {osl : Array (Option Value)} {k : Nat} {Pre : List V → Hp → List Int → Prop} {params : Arguments} {body : Expr} {scope : Scope} {p1 p2 p3 p4 : Pos} {t : XK → TE}
    (hst : defBody st = [.Return (some (.Call (.Name "answered" p1) [.Lambda params body scope p2] [] p3)) p4])
    (sc : FnScope ps ps (defScope st)) (hgl : (defScope st).names.lookup ("answered" : Str) = some .globalImplicit)
    (lk : K.lookup f = some ⟨oc, od, .func (PySem.W.fnOf x x (defArgs st) (defBody st) (defScope st) .none kV doc pm an (.ref c) ct), osl⟩) (hcd : PySem.W.codeIn K (.ref c) x = true)
    (TB : LamX.TabB base mg c T) (ne : T ≠ T2) (DA : DefAt K mg "answered" s_answered ["work"] fA fdA) (gR : mg "Refusal" = some (.ref CR)) (LS : LamX.LamS (defScope st) scope)
    (hdef : ∀ env, defaultsOf params env = ([], [])) (hbind : ∀ (q : Str) (cl : List (Str × Addr)) (pm cv ctv : Value), bindArgs (PySem.W.kla_fn "<lambda>" q params body scope cl pm cv ctv) ⟨[], []⟩ = pure [])
    (hbody : ∀ (cdv : Value) (s0 : Shared) (H0 : Hp) (E0 : XK) (A0 : Around) (outer0 : List Env) (A : Around) (outer : List Env) (s : Shared) (H : Hp) (E : XK) (f' c' : Addr),
      Room k (A.deeper (LamX.lamEnv (cxOf CX0 P w K mg base ps x (defScope st) f cdv A0 outer0 s0 H0 E0) scope s.heap.objs.size f' c')) → PE (LamX.lamCx (cxOf CX0 P w K mg base ps x (defScope st) f cdv A0 outer0 s0 H0 E0) A outer s H E scope f' c') body (t E))
    (hlen : ∀ vs H due, Pre vs H due → vs.length = ps.length) (hext : ∀ vs H H1 due, LamX.ExtN H H1 → Pre vs H due → Pre vs H1 due)
    (hread : ∀ (vs : List V) (H : Hp) (Q : VK) (due : List Int), Pre vs H due → LamX.TabS H T2 q2 → (∀ (H' : Hp) (p : Addr), H' p = some (.lst (due.map V.int)) → Q (.ref p) H') → t (AnsE K CR Q) (L2.start ps vs) H Q) :
    FnOk P w K mg base CX0 (k + 3) f (PySem.W.fnOf x x (defArgs st) (defBody st) (defScope st) .none kV doc pm an (.ref c) ct) ps (spDesk2 T T2 Pre) := by
  obtain ⟨oc1, od1, kV1, doc1, pm1, an1, cdv1, ct1, osl1, rfl, lk1, hcd1⟩ := DA.fn.ex
  refine fn_of lk hcd sc (fun vs H Q E h => ?_) (fun A outer s H vs Q E hr h => ?_)
  · obtain ⟨due, hp, _⟩ := h
    exact hlen vs H due hp
  · obtain ⟨due, hp, hTb, hTb2, q⟩ := h
    rw [hst]
    refine ⟨_, pss_one (ps_ret (LamX.pe_lamcall (k := k) (T := [(T, _), (T2, q2)]) (TT := TAns K CR) (Ng := ["work", "refusal"]) (t := t) hgl DA.g DA.fn.kp lk1 hcd1 DA.b scAnswered rfl (.inl rfl) (ans_gives gR) TB rfl
      (List.mem_cons_self ..) (fun p hp h1 => ?_) hr LS (hdef _) hbind
      (fun A' outer' s' H' E' f' c' hr' => hbody (.ref c) s H E A outer A' outer' s' H' E' f' c' hr'))), ?_⟩
    · rcases List.mem_cons.mp hp with e | hp
      · rw [e]
      · rw [List.mem_singleton.mp hp] at h1
        exact absurd h1.symm ne
    refine ⟨fun p hp => ?_, fun H1 e1 t1 => ?_⟩
    · rcases List.mem_cons.mp hp with e | hp
      · rw [e]
        exact LamX.TabS.nil hTb
      · rw [List.mem_singleton.mp hp]
        exact LamX.TabS.nil hTb2
    · exact hread vs H1 Q due (hext vs H H1 due e1 hp) (t1 (T2, q2) (List.mem_cons_of_mem _ (List.mem_singleton.mpr rfl))) q
end
end NAp

namespace NAp
open PySem PySem.Spec PyProof.Rows L2 NA NAx
open PySem.W (Codec)
section
variable {P : Program} {w : World} {K : PySem.W.Frag} {mg : Str → Option Value} {base : Heap} {h : Heap}
/-- a heap without its tables -/
def noT (F : Hp) : Hp := fun b => match F b with
  | some (.tbl _) => none
  | x => x
theorem noT_some {F : Hp} {b : Addr} {o : HO} (h : noT F b = some o) : F b = some o ∧ ∀ ps, o ≠ .tbl ps := by
  unfold noT at h
  split at h
  · cases h
  · rename_i hn
    refine ⟨h, fun ps z => ?_⟩
    subst z
    exact hn ps h
theorem noT_of {F : Hp} {b : Addr} {o : HO} (h : F b = some o) (n : ∀ ps, o ≠ .tbl ps) : noT F b = some o := by
  unfold noT
  rw [h]
  cases o <;> first | rfl | exact absurd rfl (n _)
theorem noT_ext {F H H1 : Hp} (s : Same F H) (e : LamX.ExtN H H1) : Same (noT F) H1 := fun b o h => e b o (s b o (noT_some h).1) (noT_some h).2
theorem noT_sub {F : Hp} : Same (noT F) F := fun b o h => (noT_some h).1
mutual
theorem Rep.noT {C : Addr} {F : Hp} : ∀ {v : V} {u : Vaarrm.V}, Rep C F v u → Rep C (noT F) v u
  | _, _, .num n => .num n
  | _, _, .arr ha he hp hr => .arr (noT_of ha fun _ z => by cases z) (noT_of he fun _ z => by cases z) (noT_of hp fun _ z => by cases z) (Reps.noT hr)
theorem Reps.noT {C : Addr} {F : Hp} : ∀ {vs : List V} {l : List Vaarrm.V}, Reps C F vs l → Reps C (noT F) vs l
  | _, _, .nil => .nil
  | _, _, .cons h r => .cons (Rep.noT h) (Reps.noT r)
end
/-- a number for a number -/
def spNum (g : Int → Int) : Sp := fun vs H Q _ => ∃ n : Int, vs = [.int n] ∧ Q (.int (g n)) H
/-- a value that isn't as deep as d, with another number for each of its numbers: the lambda at f tells which -/
def spWith (C f c' : Addr) (q : Str) (g : Int → Int) (d : Nat) : Sp := fun vs H Q _ => ∃ (v : V) (u : Vaarrm.V) (F : Hp), vs = [v, .ref f] ∧ Same F H ∧ Rep C F v u ∧ depthV u < d ∧ sizeV u ≤ 600 ∧ normV u ∧ H c' = some (LamX.CodeO c' q) ∧ ∀ (H' F' : Hp) (v' : V), Grow F H F' H' → Rep C F' v' (mapV g u) → Q v' H'
theorem sc_with_numbers : FnScope ["value", "number_for", "part"] ["value", "number_for"] (defScope s_with_numbers) := ⟨rfl, rfl, rfl, by decide +kernel, rfl, by decide +kernel, by decide +kernel⟩
theorem map_made {g : Int → Int} {s : List Nat} {l : List Vaarrm.V} (h : normV (.arr s l)) : Vaarrm.made s (mapVs g l) = mapV g (.arr s l) := by
  refine made_arr ?_
  rintro ⟨e, n, z⟩
  obtain ⟨s', l', rfl⟩ := h.1 e
  cases z
theorem ok_with_numbers {f C fI f1 f2 f3 f4 fL c' : Addr} {q : Str} {g : Int → Int} {fd fdI fd1 fd2 fd3 fd4 : FuncData} (D : DefAt K mg "with_numbers" s_with_numbers ["value", "number_for"] f fd) (N : NaC K mg C fI fdI) (D1 : DefAt K mg "is_number" s_is_number ["value"] f1 fd1)
    (G1 : FnOk P w K mg base CX0 1 f1 fd1 ["value"] (spVal C fun u => .bl (Vaarrm.isNum u))) (D2 : DefAt K mg "extents_of" s_extents_of ["value"] f2 fd2) (G2 : FnOk P w K mg base CX0 2 f2 fd2 ["value"] (spNewList C fun u => bts (Vaarrm.shapeOf u)))
    (D3 : DefAt K mg "parts_of" s_parts_of ["value"] f3 fd3) (G3 : FnOk P w K mg base CX0 2 f3 fd3 ["value"] (spPartsOf C)) (D4 : DefAt K mg "array_of" s_array_of ["extents", "parts"] f4 fd4) (G4 : FnOk P w K mg base CX0 5 f4 fd4 ["extents", "parts"] (spArrayOf K C))
    (GL : NAl.LamOk P w K mg base CX0 5 fL c' q ["number"] (spNum g)) : ∀ d : Nat, FnOk P w K mg base CX0 (d + 5) f fd ["value", "number_for"] (spWith C fL c' q g d)
  | 0 => by
    refine ⟨fun vs H Q E h => ?_, fun A outer s H args us vs Q E hr e0 hb r h => ?_⟩
    · obtain ⟨v, u, F0, rfl, _⟩ := h
      rfl
    · obtain ⟨v, u, F0, rfl, _, _, hd, _⟩ := h
      exact absurd hd (Nat.not_lt_zero _)
  | d + 1 => by
    have IH := ok_with_numbers D N D1 G1 D2 G2 D3 G3 D4 G4 GL d
    refine D.fn.ok sc_with_numbers (fun vs H Q E h => ?_) (fun cdv A outer s H vs Q E hr h => ?_)
    · obtain ⟨v, u, F0, rfl, _⟩ := h
      rfl
    · obtain ⟨v, u, F0, rfl, sm, rp, hd, hz, hn, hco, q⟩ := h
      have hr5 : Room 5 _ := hr.mono (Nat.le_add_left 5 d)
      have hr2 : Room 2 _ := hr5.mono (by decide)
      have hr1 : Room 1 _ := hr5.mono (by decide)
      refine ⟨_, pss_cons (ps_if (pt_val (pe_call G1 hr1 rfl D1.g D1.fn.kp D1.b .nil pass0 (pa_cons (pv 0) pa_nil))) (pss_one (ps_ret (NAl.pe_callL (i := 1) (E := E0) GL hr5 pass0 rfl (Or.inr (Or.inl rfl)) (pa_cons (pv 0) pa_nil)))) pss_nil)
        (pss_one (ps_ret (pe_call G4 hr5 rfl D4.g D4.fn.kp D4.b .nil pass0 (pa_cons (pe_call G2 hr2 rfl D2.g D2.fn.kp D2.b .nil pass0 (pa_cons (pv 0) pa_nil))
          (pa_cons (pe_lc (own := [("part", 2)]) (g := gName 2) (tt := tYes) (te := tCall (spWith C fL c' _ g d) [] E0 (tCons (tVar 2) (tCons (tVar 1) tNil))) rfl sc_with_numbers.nd (pi_list (pe_call G3 hr2 rfl D3.g D3.fn.kp D3.b .nil pass0 (pa_cons (pv 0) pa_nil))) (blkOk_by (N := ["value", "number_for", "part"]) (sc := defScope s_with_numbers) (by decide +kernel))
            (fun _ _ _ _ _ => pg_name (i := 2) sc_with_numbers.nd rfl (Or.inl rfl)) (fun _ _ _ _ _ => pts_nil) (fun _ _ _ _ _ => pe_call IH hr rfl D.g D.fn.kp D.b .nil pass0 (pa_cons (pv 2) (pa_cons (pv 1) pa_nil)))) pa_nil))))), ?_⟩
      refine ⟨_, rfl, v, u, F0, rfl, sm, rp, _, rfl, ?_⟩
      cases u with
      | num n =>
        cases rp
        exact iteT ⟨rfl, _, rfl, hco, n, rfl, q H F0 _ (Grow.refl sm) (.num (g n))⟩
      | arr sh l =>
        have hd : 1 + depthVs l < d + 1 := hd
        have hz : 1 + sizeVs l ≤ 600 := hz
        have hll := length_sizeVs l
        refine iteF ⟨_, rfl, v, _, F0, rfl, sm, rp, fun H1 p1 s1 n1 hp1 => ?_⟩
        refine ⟨_, rfl, v, _, F0, rfl, sm.trans s1, rp, fun H2 p2 ys s2 n2 hp2 rps => ?_⟩
        have rps : Reps C F0 ys l := rps
        have sH2 : Same H H2 := s1.trans s2
        refine ⟨p2, rfl, ⟨_, SqL.of hp2⟩, fun D0 h0 => lc_list (K := K) (a := p2) (xs := ys) (fun i H' => ∃ (F' : Hp) (zs : List V), BagF C F0 H2 D0 F' H' zs ((l.take i).map (mapV g)))
          ⟨F0, [], BagF.start (sm.trans sH2) h0⟩ (fun i H' _ ⟨_, _, b⟩ => SqL.of (b.hh _ _ hp2)) ?_ ?_⟩
        · rintro i y H' hi ⟨F', zs, b⟩
          obtain ⟨u', hu, ru⟩ := rps.at hi
          have hmem : u' ∈ l := List.mem_of_getElem? hu
          have h3 := depthV_mem hmem
          have h4 := sizeV_mem hmem
          refine ⟨rfl, ?_⟩
          unfold tYes
          refine iteT ⟨_, rfl, _, rfl, y, u', F', rfl, b.fh, ru.up b.ff, by omega, by omega, normVs_mem hn.2 hmem, b.hh _ _ (sH2 _ _ hco), fun H3 F3 v3 g3 r3 => ?_⟩
          refine ⟨_, g3.hh _ _ b.hD, b.short (n := 600) (by rw [List.length_map, List.length_take]; omega), F3, zs ++ [v3], ?_⟩
          rw [take_snoc hu, List.map_append]
          exact b.step h0 g3 r3
        · rintro H3 ⟨F', zs, b⟩
          rw [rps.len, List.take_length, ← mapVs_map] at b
          have hml : (mapVs g l).length = l.length := by rw [mapVs_map, List.length_map]
          refine ⟨p1, D0, sh, zs, _, F', rfl, SqL.of (b.hh _ _ (s2 _ _ hp1)), SqL.of b.hD, b.fh, b.rz, by omega, fun e => ?_, fun H4 F4 v4 g4 r4 => q H4 F4 v4 ((((Grow.refl sm).more sH2).trans b.out).trans g4) ?_⟩
          · obtain ⟨s', l', z⟩ := hn.1 e
            rw [hml, z]
            rfl
          · rw [map_made hn] at r4
            exact r4
/-! ### a def that hands with_numbers a lambda -/
/-- what with_numbers promises, whatever base it is held over -/
abbrev WithOk (P : Program) (w : World) (K : PySem.W.Frag) (mg : Str → Option Value) (C fW : Addr) (fdW : FuncData) : Prop := ∀ bs : Heap, K.In bs → bs.Ns mainGlobals mg → ∀ (fL c' : Addr) (q : Str) (g : Int → Int), NAl.LamOk P w K mg bs CX0 5 fL c' q ["number"] (spNum g) →
  FnOk P w K mg bs CX0 14 fW fdW ["value", "number_for"] (spWith C fL c' q g 9)
/-- what such a def promises: its table grows -/
def MapT (C T : Addr) (q : Str) (v : V) (u : Vaarrm.V) (g : Int → Int) (H : Hp) (Q : VK) : Prop := ∃ F : Hp, Same F H ∧ Rep C F v u ∧ depthV u ≤ 8 ∧ sizeV u ≤ 600 ∧ normV u ∧ LamX.TabS H T q ∧
  ∀ (H' F' : Hp) (v' : V), LamX.ExtN H H' → LamX.TabS H' T q → Same (noT F) F' → Same F' H' → Rep C F' v' (mapV g u) → Q v' H'
theorem lam_mono {P : Program} {w : World} {K : PySem.W.Frag} {mg : Str → Option Value} {base : Heap} {CX : CXT} {j k : Nat} {f c' : Addr} {q : Str} {ps : List Str} {sp : Sp} (o : NAl.LamOk P w K mg base CX j f c' q ps sp) (h : j ≤ k) : NAl.LamOk P w K mg base CX k f c' q ps sp :=
  ⟨o.len, o.at_, fun A outer s H us vs Q E hr => o.run A outer s H us vs Q E (hr.mono h)⟩
abbrev lamQ (x : Str) : Str := (x ++ ".<locals>.") ++ "<lambda>"
end
end NAp

namespace NAp
open PySem PySem.Spec PyProof.Rows L2 NA NAx
open PySem.W (Codec)
section
variable {P : Program} {w : World} {K : PySem.W.Frag} {mg : Str → Option Value} {base : Heap} {h : Heap}
def spSkeleton (C T : Addr) : Sp := fun vs H Q _ => ∃ (v : V) (u : Vaarrm.V), vs = [v] ∧ MapT C T (lamQ "skeleton_of") v u (fun _ => 0) H Q
theorem sc_skeleton_of : FnScope ["value"] ["value"] (defScope s_skeleton_of) := ⟨rfl, rfl, rfl, by decide +kernel, rfl, by decide +kernel, by decide +kernel⟩
theorem ok_skeleton_of {f fW c T C : Addr} {fdW : FuncData} {oc kV doc pm ct : Value} {od an : Option Addr} {osl : Array (Option Value)}
    (lk : K.lookup f = some ⟨oc, od, .func (PySem.W.fnOf "skeleton_of" "skeleton_of" (defArgs s_skeleton_of) (defBody s_skeleton_of) (defScope s_skeleton_of) .none kV doc pm an (.ref c) ct), osl⟩) (hcd : PySem.W.codeIn K (.ref c) "skeleton_of" = true)
    (TB : LamX.TabB base mg c T) (DW : DefAt K mg "with_numbers" s_with_numbers ["value", "number_for"] fW fdW) (GW : WithOk P w K mg C fW fdW) :
    FnOk P w K mg base CX0 15 f (PySem.W.fnOf "skeleton_of" "skeleton_of" (defArgs s_skeleton_of) (defBody s_skeleton_of) (defScope s_skeleton_of) .none kV doc pm an (.ref c) ct) ["value"] (spSkeleton C T) := by
  refine fn_of lk hcd sc_skeleton_of (fun vs H Q E h => ?_) (fun A outer s H vs Q E hr h => ?_)
  · obtain ⟨v, u, rfl, _⟩ := h
    rfl
  · obtain ⟨v, u, rfl, F0, sm, rp, hd, hz, hn, ht, q⟩ := h
    refine ⟨_, pss_one (ps_ret (NAl.pe_give (T := [(T, lamQ "skeleton_of")]) (fr := []) (js := []) (E := E0) (sp := fun fL c' _ => spWith C fL c' (lamQ "skeleton_of") (fun _ => 0) 9) rfl DW.g DW.fn.kp DW.b TB rfl (List.mem_singleton.mpr rfl) (fun p hp _ => by rw [List.mem_singleton.mp hp]; rfl) hr
      rfl (NdefX.ndef_free (sc := defScope s_skeleton_of) (fr := []) (by decide +kernel)) (NdefX.ndef_fr (sc := defScope s_skeleton_of) (by decide +kernel)) rfl (fun _ => rfl) pass0
      (fun base' fL c' pm' ctv ws hK hNs hf hC => GW base' hK hNs fL c' _ _ (lam_mono (NAl.lamOk_of (k := 0) (N := ["number"]) hf hC (NdefX.nscope_by (by decide +kernel)) (fun us hl => match us, hl with | [_], _ => rfl) (fun vs H Q E h => by obtain ⟨n, rfl, _⟩ := h; rfl)
        (fun A' outer' s' H' vs' Q' E' hr' h => ⟨_, pe_int, by obtain ⟨n, rfl, h⟩ := h; exact h⟩)) (by decide))) (pv 0))), ?_⟩
    refine ⟨_, rfl, fun p hp => by rw [List.mem_singleton.mp hp]; exact ht, fun fL c' H2 e2 t2 hco => ?_⟩
    exact ⟨v, u, noT F0, rfl, noT_ext sm e2, rp.noT, by omega, hz, hn, hco, fun H' F' v' g r => q H' F' v' (e2.trans (LamX.ExtN.of g.hh)) ((t2 _ (List.mem_singleton.mpr rfl)).ext g.hh) g.ff g.fh r⟩
end
end NAp

namespace NAp
open PySem PySem.Spec PyProof.Rows L2 NA NAx
open PySem.W (Codec)
section
variable {P : Program} {w : World} {K : PySem.W.Frag} {mg : Str → Option Value} {base : Heap} {h : Heap}
theorem sc_skeleton : FnScope ["v"] ["v"] (defScope s_skeleton) := ⟨rfl, rfl, rfl, by decide +kernel, rfl, by decide +kernel, by decide +kernel⟩
/-- what is answered of what comes out -/
def outS (u : Vaarrm.V) : List Int := if goodV u = true ∧ withinV u = true then 0 :: Vaarrm.ints (textV u) else [-5]
theorem outS_given {u : Vaarrm.V} (hd : depthV u < Vaarrm.FAR) : VaarrmNeutral.encode (Vaarrm.given (.ok u)) = outS u := by
  rw [given_ok hd]
  unfold outS
  by_cases c : goodV u = true ∧ withinV u = true
  · rw [if_pos c, if_pos c]
    rfl
  · rw [if_neg c, if_neg c]
    rfl
def dueSkeleton (t : List Nat) : List Int := match look t with
  | .error n => [n]
  | .ok u => outS (mapV (fun _ => 0) u)
mutual
theorem map_exts (g : Int → Int) : ∀ u : Vaarrm.V, extsV (mapV g u) = extsV u
  | .num _ => rfl
  | .arr s l => by
    show s ++ extsVs (mapVs g l) = s ++ extsVs l
    rw [map_extss g l]
theorem map_extss (g : Int → Int) : ∀ l : List Vaarrm.V, extsVs (mapVs g l) = extsVs l
  | [] => rfl
  | v :: r => by
    show extsV (mapV g v) ++ extsVs (mapVs g r) = extsV v ++ extsVs r
    rw [map_exts g v, map_extss g r]
end
mutual
theorem map_leaves (g : Int → Int) : ∀ u : Vaarrm.V, leavesV (mapV g u) = (leavesV u).map g
  | .num _ => rfl
  | .arr s l => map_leavess g l
theorem map_leavess (g : Int → Int) : ∀ l : List Vaarrm.V, leavesVs (mapVs g l) = (leavesVs l).map g
  | [] => rfl
  | v :: r => by
    show leavesV (mapV g v) ++ leavesVs (mapVs g r) = (leavesV v ++ leavesVs r).map g
    rw [map_leaves g v, map_leavess g r, List.map_append]
end
mutual
theorem map_depth (g : Int → Int) : ∀ u : Vaarrm.V, depthV (mapV g u) = depthV u
  | .num _ => rfl
  | .arr s l => by
    show 1 + depthVs (mapVs g l) = 1 + depthVs l
    rw [map_depths g l]
theorem map_depths (g : Int → Int) : ∀ l : List Vaarrm.V, depthVs (mapVs g l) = depthVs l
  | [] => rfl
  | v :: r => by
    show max (depthV (mapV g v)) (depthVs (mapVs g r)) = max (depthV v) (depthVs r)
    rw [map_depth g v, map_depths g r]
end
theorem ok_skeleton {f fA fL fE fO c T T2 CR C : Addr} {fdA fdL fdE fdO : FuncData} {oc kV doc pm ct : Value} {od an : Option Addr} {osl : Array (Option Value)}
    (lk : K.lookup f = some ⟨oc, od, .func (PySem.W.fnOf "skeleton" "skeleton" (defArgs s_skeleton) (defBody s_skeleton) (defScope s_skeleton) .none kV doc pm an (.ref c) ct), osl⟩) (hcd : PySem.W.codeIn K (.ref c) "skeleton" = true)
    (TB : LamX.TabB base mg c T) (ne : T ≠ T2) (DA : DefAt K mg "answered" s_answered ["work"] fA fdA) (gR : mg "Refusal" = some (.ref CR))
    (DL : DefAt K mg "look_at" s_look_at ["text"] fL fdL) (GL : FnOk P w K mg base (L2.CX P w) 8 fL fdL ["text"] (spLookAt K mg C CR))
    (DE : DefAt K mg "skeleton_of" s_skeleton_of ["value"] fE fdE) (GE : FnOk P w K mg base CX0 15 fE fdE ["value"] (spSkeleton C T2))
    (DO : DefAt K mg "outcome_answer" s_outcome_answer ["value"] fO fdO) (GO : FnOk P w K mg base (L2.CX P w) 13 fO fdO ["value"] (spOutcome K mg C CR)) :
    FnOk P w K mg base CX0 18 f (PySem.W.fnOf "skeleton" "skeleton" (defArgs s_skeleton) (defBody s_skeleton) (defScope s_skeleton) .none kV doc pm an (.ref c) ct) ["v"] (spDesk2 T T2 (preT K dueSkeleton)) := by
  refine desk_tab (k := 15) (CR := CR) (fdA := fdA) (q2 := lamQ "skeleton_of") rfl sc_skeleton rfl lk hcd TB ne DA gR (LamX.lamS_by (by decide +kernel)) (fun _ => rfl) (fun _ _ _ _ _ => rfl)
    (t := fun E => tCall (spOutcome K mg C CR) [] E (tCons (tCall (spSkeleton C T2) [] E0 (tCons (tCall (spLookAt K mg C CR) [] E (tCons (tVar 0) tNil)) tNil)) tNil))
    (fun cdv s0 H0 E0 A0 outer0 A outer s H E f' c' hr' => ?_) preT_len preT_ext (fun vs H Q due hp tab q => ?_)
  · exact pe_call GO (hr'.mono (by decide)) rfl DO.g DO.fn.kp DO.b .nil (passes_call (takes_of rfl rfl rfl rfl) (fun _ _ _ _ z => z)) (pa_cons (pe_call GE hr' rfl DE.g DE.fn.kp DE.b .nil pass0 (pa_cons (pe_call GL (hr'.mono (by decide)) rfl DL.g DL.fn.kp DL.b .nil (passes_call (takes_of rfl rfl rfl rfl) (fun _ _ _ _ z => z)) (pa_cons (pv 0) pa_nil)) pa_nil)) pa_nil)
  · obtain ⟨a, tx, rfl, hT, hl, rfl⟩ := hp
    unfold dueSkeleton at q
    refine ⟨_, rfl, a, tx, fun _ => none, rfl, hT, (fun b o e => nomatch e), fun n e H' s' => ?_, fun u e H' F' v g rv => ?_⟩
    · rw [e] at q
      exact ans_out q
    · rw [e] at q
      obtain ⟨hw1, hw2⟩ := within_iff.mp (look_within e)
      refine ⟨v, u, rfl, F', g.fh, rv, hw1, by omega, look_norm e, tab.ext g.hh, fun H2 F2 v2 e2 t2 f2 h2 r2 => ?_⟩
      have q : ∀ (H' : Hp) (p : Addr), H' p = some (.lst ((outS (mapV (fun _ => 0) u)).map V.int)) → Q (.ref p) H' := q
      unfold outS at q
      refine ⟨v2, _, F2, rfl, h2, r2, fun n hn => ?_, fun n hn => ?_, fun c H3 => ?_, fun hg hw H3 p hp => ?_⟩
      · rw [map_exts] at hn
        exact good_tame u (look_good e) n hn
      · rw [map_leaves] at hn
        obtain ⟨m, _, z⟩ := List.mem_map.mp hn
        rw [← z]
        decide
      · rw [if_neg c] at q
        exact ans_out q
      · rw [if_pos ⟨hg, hw⟩] at q
        exact q H3 p hp
theorem due_skeleton (ns : List Int) (hb : ∀ x ∈ ns, 0 ≤ x ∧ x ≤ 255) : PyVaarrm.skeleton ns = dueSkeleton (ns.map Int.toNat) := by
  refine (one_due hb (.one 4) 5 fun l => rfl).trans ?_
  rw [one_look]
  unfold dueSkeleton
  cases e : look (ns.map Int.toNat) with
  | error n => rfl
  | ok u =>
    have hw := within_iff.mp (look_within e)
    have hd : depthV u < Vaarrm.FAR := by
      unfold Vaarrm.FAR
      omega
    show VaarrmNeutral.encode (Vaarrm.given (.ok (Vaarrm.mapNums (fun _ => 0) Vaarrm.FAR u))) = _
    rw [map_far _ _ _ hd]
    exact outS_given (by rw [map_depth]; exact hd)
end
end NAp

namespace NAp
open PySem PySem.Spec PyProof.Rows L2 NA NAx
open PySem.W (Codec)
section
variable {P : Program} {w : World} {K : PySem.W.Frag} {mg : Str → Option Value} {base : Heap} {h : Heap}
/-! ### what the top has written, as it is looked up -/
/-- how the arguments of a def meet its parameters -/
def BindsAs (x q : Str) (st : Stmt) (ps : List Str) : Prop := ∀ (kV doc pm : Value) (an : Option Addr) (cdv ct : Value) (us : List Value), us.length = ps.length →
  bindArgs (PySem.W.fnOf x q (defArgs st) (defBody st) (defScope st) .none kV doc pm an cdv ct) ⟨us, []⟩ = pure (ps.zip us)
/-- the def of the statement st is written at f -/
def Wr (K : PySem.W.Frag) (x q : Str) (st : Stmt) (f : Addr) : Prop := ∃ (oc : Value) (od an : Option Addr) (osl : Array (Option Value)) (kV doc pm cdv ct : Value),
  K.lookup f = some ⟨oc, od, .func (PySem.W.fnOf x q (defArgs st) (defBody st) (defScope st) .none kV doc pm an cdv ct), osl⟩ ∧ PySem.W.codeIn K cdv q = true ∧ PySem.W.keepIn K (.ref f) = true
theorem wr_mk {x q : Str} {st : Stmt} {f : Addr} {oc : Value} {od an : Option Addr} {osl : Array (Option Value)} {kV doc pm cdv ct : Value}
    (l : K.lookup f = some ⟨oc, od, .func (PySem.W.fnOf x q (defArgs st) (defBody st) (defScope st) .none kV doc pm an cdv ct), osl⟩) (c : PySem.W.codeIn K cdv q = true) (k : PySem.W.keepIn K (.ref f) = true) : Wr K x q st f := ⟨oc, od, an, osl, kV, doc, pm, cdv, ct, l, c, k⟩
theorem Wr.fn {x q : Str} {st : Stmt} {f : Addr} (d : Wr K x q st f) : ∃ fd, Fun K x q st f fd := by
  obtain ⟨oc, od, an, osl, kV, doc, pm, cdv, ct, l, c, k⟩ := d
  exact ⟨_, fun_mk l c k⟩
def DF (K : PySem.W.Frag) (x : Str) (st : Stmt) : Prop := ∃ f, PySem.W.nsIn K mainGlobals x = some (some (.ref f)) ∧ Wr K x x st f
theorem df_mk {x : Str} {st : Stmt} {f : Addr} (a : PySem.W.nsIn K mainGlobals x = some (some (.ref f))) (d : Wr K x x st f) : DF K x st := ⟨f, a, d⟩
theorem DF.at {x : Str} {st : Stmt} {ps : List Str} (d : DF K x st) (b : BindsAs x x st ps) (X : K.In h) (G : h.Ns mainGlobals mg) : ∃ f fd, DefAt K mg x st ps f fd := by
  obtain ⟨f, a, d⟩ := d
  obtain ⟨fd, F⟩ := d.fn
  exact ⟨f, fd, F, PySem.W.mg_of X G a, F.binds b⟩
def CnF (K : PySem.W.Frag) (x : Str) (n : Int) : Prop := ∃ t, PySem.W.nsIn K mainGlobals x = some (some (.int n t))
theorem cnf_mk {x : Str} {n : Int} {t : Tok} (a : PySem.W.nsIn K mainGlobals x = some (some (.int n t))) : CnF K x n := ⟨t, a⟩
theorem CnF.at {x : Str} {n : Int} (c : CnF K x n) (X : K.In h) (G : h.Ns mainGlobals mg) : Cn mg x n := by
  obtain ⟨t, a⟩ := c
  exact ⟨t, PySem.W.mg_of X G a⟩
def CtF (K : PySem.W.Frag) (x : Str) (xs : List V) : Prop := ∃ (a : Addr) (its : Array Value) (n : Nat) (dd : Option Addr) (sl : Array (Option Value)), PySem.W.nsIn K mainGlobals x = some (some (.ref a)) ∧ K.lookup a = some ⟨.type "tuple", dd, .seq its n, sl⟩ ∧ its.size ≤ sizeLine ∧ Vals xs its.toList
theorem ctf_mk {x : Str} {xs : List V} {a : Addr} {its : Array Value} {n : Nat} {dd : Option Addr} {sl : Array (Option Value)} (e : PySem.W.nsIn K mainGlobals x = some (some (.ref a))) (l : K.lookup a = some ⟨.type "tuple", dd, .seq its n, sl⟩) (z : its.size ≤ sizeLine)
    (v : Vals xs its.toList) : CtF K x xs := ⟨a, its, n, dd, sl, e, l, z, v⟩
theorem CtF.at {x : Str} {xs : List V} (c : CtF K x xs) (X : K.In h) (G : h.Ns mainGlobals mg) : Ct K mg x xs := by
  obtain ⟨a, its, n, dd, sl, e, l, z, v⟩ := c
  exact ⟨a, PySem.W.mg_of X G e, fun _ => .inr ⟨_, its, n, l, rfl, rfl, z, v⟩⟩
/-- the class of all refusals -/
structure BaseF (K : PySem.W.Frag) (CR : Addr) : Prop where
  a : PySem.W.nsIn K mainGlobals "Refusal" = some (some (.ref CR))
  rd : PySem.W.readsIn K CR (.type "type") = true
  ga : PySem.W.specialIn K (.ref CR) "__getattribute__" = some (some (.builtin "type.__getattribute__"))
  fc : ∃ fR, PySem.W.findCls K (.ref CR) (.type "type") "__init__" = some (.val (.ref fR)) ∧ Wr K "__init__" "Refusal.__init__" si_Refusal fR
  ex : PySem.W.subIn K (.ref CR) (.type "BaseException") = some true
  ic : PySem.W.isClsIn K CR = true
  ty : PySem.W.typeIn K (.ref CR) = some (.type "type")
theorem basef_mk {CR fR : Addr} (a : PySem.W.nsIn K mainGlobals "Refusal" = some (some (.ref CR))) (rd : PySem.W.readsIn K CR (.type "type") = true) (ga : PySem.W.specialIn K (.ref CR) "__getattribute__" = some (some (.builtin "type.__getattribute__")))
    (fc : PySem.W.findCls K (.ref CR) (.type "type") "__init__" = some (.val (.ref fR))) (w : Wr K "__init__" "Refusal.__init__" si_Refusal fR) (ex : PySem.W.subIn K (.ref CR) (.type "BaseException") = some true) (ic : PySem.W.isClsIn K CR = true)
    (ty : PySem.W.typeIn K (.ref CR) = some (.type "type")) : BaseF K CR := ⟨a, rd, ga, ⟨fR, fc, w⟩, ex, ic, ty⟩
theorem BaseF.at {CR : Addr} (B : BaseF K CR) (X : K.In h) (G : h.Ns mainGlobals mg) : ∃ fR fdR, RefBase K mg CR fR fdR := by
  obtain ⟨fR, fc, w⟩ := B.fc
  obtain ⟨fd, F⟩ := w.fn
  exact ⟨fR, fd, PySem.W.mg_of X G B.a, B.rd, B.ga, fc, F, F.binds fun _ _ _ _ _ _ us hl => match us, hl with | [_, _], _ => rfl⟩
/-- an error of the class at C is what «except S» names, S a class above C -/
theorem exm_of {C S : Addr} (h1 : PySem.W.subIn K (.ref S) (.type "BaseException") = some true) (h2 : PySem.W.isClsIn K S = true) (h3 : PySem.W.typeIn K (.ref S) = some (.type "type")) (h4 : PySem.W.subIn K (.ref C) (.ref S) = some true) :
    PySem.W.exmOne K (.ref C) (.ref S) = some true := by
  have e2 : ((PySem.W.clsIn K S).isSome && PySem.W.typeIn K (.ref S) == some (.type "type")) = true := by
    rw [show (PySem.W.clsIn K S).isSome = true from h2, h3] <;> rfl
  have e3 : PySem.W.kitCls K (.ref C) (.ref S) = some true := (if_pos e2).trans h4
  unfold PySem.W.exmOne
  rw [h1]
  exact e3
/-- a refusal's class, called x: q is the name of its __init__, st the def -/
structure RefF (K : PySem.W.Frag) (CR : Addr) (x q : Str) (st : Stmt) (C fI : Addr) : Prop where
  a : PySem.W.nsIn K mainGlobals x = some (some (.ref C))
  cls : ∃ nm q N bs sn sub ab col dd k0 k1 k2 k3 k5, K.lookup C = some (excClassObj nm q C N bs [.ref CR, .type "Exception", .type "BaseException", .type "object"] true sn sub ab col dd k0 k1 k2 k3 k5 "Exception.__new__")
  sa : PySem.W.findIn K (.ref C) "__setattr__" = some (some (.builtin "object.__setattr__"))
  ga : PySem.W.findIn K (.ref C) "__getattribute__" = some (some (.builtin "BaseException.__getattribute__"))
  gg : PySem.W.findIn K (.ref C) "__getattr__" = some none
  no : PySem.W.findIn K (.ref C) "number" = some none
  iC : PySem.W.findIn K (.ref C) "__init__" = some (some (.ref fI))
  tI : PySem.W.typeIn K (.ref fI) = some (.type "function")
  kC : PySem.W.keepIn K (.ref C) = true
  ex : PySem.W.subIn K (.ref C) (.type "BaseException") = some true
  ty : PySem.W.typeIn K (.ref C) = some (.type "type")
  hd : PySem.W.hasDictIn K C = true
  up : PySem.W.subIn K (.ref C) (.ref CR) = some true
  w : Wr K "__init__" q st fI
theorem reff_mk {CR : Addr} {x q : Str} {st : Stmt} {C fI : Addr} {nm qn : Str} {N : Addr} {bs : List Value} {sn : List Str} {sub : List Value} {ab : Bool} {col : Option Bool} {dd : Option Addr} {m0 m1 m2 m3 m5 : Option Value}
    (a : PySem.W.nsIn K mainGlobals x = some (some (.ref C))) (l : K.lookup C = some (excClassObj nm qn C N bs [.ref CR, .type "Exception", .type "BaseException", .type "object"] true sn sub ab col dd m0 m1 m2 m3 m5 "Exception.__new__"))
    (sa : PySem.W.findIn K (.ref C) "__setattr__" = some (some (.builtin "object.__setattr__"))) (ga : PySem.W.findIn K (.ref C) "__getattribute__" = some (some (.builtin "BaseException.__getattribute__"))) (gg : PySem.W.findIn K (.ref C) "__getattr__" = some none)
    (no : PySem.W.findIn K (.ref C) "number" = some none) (iC : PySem.W.findIn K (.ref C) "__init__" = some (some (.ref fI))) (tI : PySem.W.typeIn K (.ref fI) = some (.type "function")) (kC : PySem.W.keepIn K (.ref C) = true)
    (ex : PySem.W.subIn K (.ref C) (.type "BaseException") = some true) (ty : PySem.W.typeIn K (.ref C) = some (.type "type")) (hd : PySem.W.hasDictIn K C = true) (up : PySem.W.subIn K (.ref C) (.ref CR) = some true) (w : Wr K "__init__" q st fI) :
    ∃ C fI, RefF K CR x q st C fI := ⟨C, fI, a, ⟨_, _, _, _, _, _, _, _, _, _, _, _, _, _, l⟩, sa, ga, gg, no, iC, tI, kC, ex, ty, hd, up, w⟩
theorem RefF.at {CR C fI : Addr} {x q : Str} {st : Stmt} (R : RefF K CR x q st C fI) (B : BaseF K CR) (X : K.In h) (G : h.Ns mainGlobals mg) : RefCls K mg CR x C fI where
  g := PySem.W.mg_of X G R.a
  ox := by
    obtain ⟨nm, q, N, bs, sn, sub, ab, col, dd, k0, k1, k2, k3, k5, l⟩ := R.cls
    exact ⟨⟨nm, q, N, bs, _, sn, sub, ab, col, dd, k0, k1, k2, k3, k5, l, [CR], rfl⟩, R.sa, R.ex, R.ty, R.kC⟩
  no := R.no
  iC := R.iC
  tI := R.tI
  xf := ⟨R.ga, R.gg, R.ex, R.hd⟩
  te := exm_of B.ex B.ic B.ty R.up
/-- the row's def: its code object, the table of that -/
structure TopF (K : PySem.W.Frag) (x : Str) (st : Stmt) (f c T : Addr) : Prop where
  a : PySem.W.nsIn K mainGlobals x = some (some (.ref f))
  l : ∃ (oc : Value) (od an : Option Addr) (osl : Array (Option Value)) (kV doc pm ct : Value), K.lookup f = some ⟨oc, od, .func (PySem.W.fnOf x x (defArgs st) (defBody st) (defScope st) .none kV doc pm an (.ref c) ct), osl⟩
  cd : PySem.W.codeIn K (.ref c) x = true
  lc : ∃ (oc2 : Value) (od2 : Option Addr) (vs : Array Value) (sl2 : Array (Option Value)), K.lookup c = some ⟨oc2, od2, .fields vs, sl2⟩ ∧ vs[11]? = some (.ref T)
  nT : K.lookup T = none
theorem topf_mk {x : Str} {st : Stmt} {f c T : Addr} {oc oc2 : Value} {od an od2 : Option Addr} {osl sl2 : Array (Option Value)} {kV doc pm ct : Value} {vs : Array Value} (a : PySem.W.nsIn K mainGlobals x = some (some (.ref f)))
    (l : K.lookup f = some ⟨oc, od, .func (PySem.W.fnOf x x (defArgs st) (defBody st) (defScope st) .none kV doc pm an (.ref c) ct), osl⟩) (cd : PySem.W.codeIn K (.ref c) x = true) (lc : K.lookup c = some ⟨oc2, od2, .fields vs, sl2⟩) (hv : vs[11]? = some (.ref T))
    (nT : K.lookup T = none) : ∃ f c T, TopF K x st f c T := ⟨f, c, T, a, ⟨_, _, _, _, _, _, _, _, l⟩, cd, ⟨_, _, _, _, lc, hv⟩, nT⟩
theorem bts_back (ns : List Int) (hb : ∀ x ∈ ns, 0 ≤ x ∧ x ≤ 255) : bts (ns.map Int.toNat) = ns.map V.int := by
  unfold bts
  rw [List.map_map]
  refine List.map_congr_left fun x hx => ?_
  have := hb x hx
  show V.int ((x.toNat : Nat) : Int) = V.int x
  rw [Int.toNat_of_nonneg this.1]
theorem tx_back {H : Hp} {a : Addr} {ns : List Int} (hb : ∀ x ∈ ns, 0 ≤ x ∧ x ≤ 255) (hs : SqL K H a (ns.map V.int)) : Tx K H a (ns.map Int.toNat) := by
  show SqL K H a (bts (ns.map Int.toNat))
  rw [bts_back _ hb]
  exact hs
theorem twof_mk {x x2 : Str} {st st2 : Stmt} {f c T f2 c2 T2 : Addr} {oc oc2 oc3 oc4 : Value} {od an od2 od3 an3 od4 : Option Addr} {osl sl2 osl3 sl4 : Array (Option Value)} {kV doc pm ct kV3 doc3 pm3 ct3 : Value} {vs vs4 : Array Value} (a : PySem.W.nsIn K mainGlobals x = some (some (.ref f)))
    (l : K.lookup f = some ⟨oc, od, .func (PySem.W.fnOf x x (defArgs st) (defBody st) (defScope st) .none kV doc pm an (.ref c) ct), osl⟩) (cd : PySem.W.codeIn K (.ref c) x = true) (lc : K.lookup c = some ⟨oc2, od2, .fields vs, sl2⟩) (hv : vs[11]? = some (.ref T)) (nT : K.lookup T = none)
    (a2 : PySem.W.nsIn K mainGlobals x2 = some (some (.ref f2))) (l2 : K.lookup f2 = some ⟨oc3, od3, .func (PySem.W.fnOf x2 x2 (defArgs st2) (defBody st2) (defScope st2) .none kV3 doc3 pm3 an3 (.ref c2) ct3), osl3⟩) (cd2 : PySem.W.codeIn K (.ref c2) x2 = true)
    (lc2 : K.lookup c2 = some ⟨oc4, od4, .fields vs4, sl4⟩) (hv2 : vs4[11]? = some (.ref T2)) (nT2 : K.lookup T2 = none) (kp2 : PySem.W.keepIn K (.ref f2) = true) (ne : T ≠ T2) : ∃ f c T f2 c2 T2, TopF K x st f c T ∧ TopF K x2 st2 f2 c2 T2 ∧ PySem.W.keepIn K (.ref f2) = true ∧ T ≠ T2 :=
  ⟨f, c, T, f2, c2, T2, ⟨a, ⟨_, _, _, _, _, _, _, _, l⟩, cd, ⟨_, _, _, _, lc, hv⟩, nT⟩, ⟨a2, ⟨_, _, _, _, _, _, _, _, l2⟩, cd2, ⟨_, _, _, _, lc2, hv2⟩, nT2⟩, kp2, ne⟩
end
end NAp

namespace NAp
open PySem PySem.Spec PyProof.Rows L2 NA NAx
open PySem.W (Codec)
section
variable {P : Program} {w : World} {K : PySem.W.Frag} {mg : Str → Option Value} {base : Heap} {h : Heap}
/-- the class of the arrays, as it is looked up -/
structure NaF (K : PySem.W.Frag) (C fI : Addr) : Prop where
  a : PySem.W.nsIn K mainGlobals "NestedArray" = some (some (.ref C))
  cl : Cls K C
  make : Mk K C fI
  nE : NoAttr K C "extents"
  nP : NoAttr K C "parts"
  nD : NoAttr K C "depth"
  nS : NoAttr K C "size"
  w : Wr K "__init__" "NestedArray.__init__" si_NestedArray fI
  k1 : PySem.W.findIn K (.ref C) "__class__" = some (some (.builtin "object.__class__"))
  k2 : PySem.W.specialIn K (.builtin "object.__class__") "__get__" = some (some (.builtin "getset_descriptor.__get__"))
  k3 : PySem.W.takesIn K (.builtin "object.__class__") = some true
  k4 : PySem.W.mroIn K C (.type "object") = some true
  k5 : PySem.W.subIn K (.ref C) (.type "int") = some false
theorem naf_mk {C fI : Addr} (a : PySem.W.nsIn K mainGlobals "NestedArray" = some (some (.ref C))) (pg : PySem.W.plainGet K C Str.empty = true) (hd : PySem.W.hasDictIn K C = true) (po : PySem.W.plainOver K C = true)
    (sa : PySem.W.findIn K (.ref C) "__setattr__" = some (some (.builtin "object.__setattr__"))) (mk : PySem.W.makesIn K C = true) (kc : PySem.W.keepIn K (.ref C) = true) (iC : PySem.W.findIn K (.ref C) "__init__" = some (some (.ref fI))) (fC : PySem.W.isFn K (.ref fI) = true)
    (nE : PySem.W.findIn K (.ref C) "extents" = some none) (nP : PySem.W.findIn K (.ref C) "parts" = some none) (nD : PySem.W.findIn K (.ref C) "depth" = some none) (nS : PySem.W.findIn K (.ref C) "size" = some none)
    (w : Wr K "__init__" "NestedArray.__init__" si_NestedArray fI) (k1 : PySem.W.findIn K (.ref C) "__class__" = some (some (.builtin "object.__class__"))) (k2 : PySem.W.specialIn K (.builtin "object.__class__") "__get__" = some (some (.builtin "getset_descriptor.__get__")))
    (k3 : PySem.W.takesIn K (.builtin "object.__class__") = some true) (k4 : PySem.W.mroIn K C (.type "object") = some true) (k5 : PySem.W.subIn K (.ref C) (.type "int") = some false) : ∃ C fI, NaF K C fI :=
  ⟨C, fI, a, ⟨pg, hd, po, sa⟩, ⟨mk, iC, fC, kc⟩, nE, nP, nD, nS, w, k1, k2, k3, k4, k5⟩
theorem NaF.at {C fI : Addr} (N : NaF K C fI) (X : K.In h) (G : h.Ns mainGlobals mg) : ∃ fd, NaC K mg C fI fd := by
  obtain ⟨fd, F⟩ := N.w.fn
  refine ⟨fd, N.cl, N.nE, N.nP, N.nD, N.nS, PySem.W.mg_of X G N.a, N.make, F, F.binds fun _ _ _ _ _ _ us hl => match us, hl with | [_, _, _], _ => rfl, fun H a dx fs e => .base (.ins e N.cl N.k1 N.k2 N.k3 N.k4), ?_⟩
  have e1 : (Value.ref C == Value.type "int") = false := rfl
  have e2 : PySem.W.kitMeta "int" = true := by decide +kernel
  have e3 : PySem.W.kitCls K (.ref C) (.type "int") = some false := by
    show (if PySem.W.kitMeta "int" = true then PySem.W.subIn K (.ref C) (.type "int") else none) = some false
    rw [if_pos e2]
    exact N.k5
  unfold PySem.W.kitOne
  rw [e1]
  exact e3
end
end NAp

namespace NAp
open PySem PySem.Spec PyProof.Rows L2 NA NAx
open PySem.W (Codec)
section
variable {P : Program} {w : World} {K : PySem.W.Frag} {mg : Str → Option Value} {base : Heap} {h : Heap}
theorem all_mk {w : World} {K : PySem.W.Frag} {q : Program} {loose : List Str} {mean : ExcName → Option Value} {mg mb : Str → Option Value} {h : Heap} {fa CR : Addr} {d : DefRec} (X : K.In h) (TP : Top q loose mean mg mb h) (hfa : mg "skeleton" = some (.ref fa))
    (hrec : (recsOf q).find? (fun e => e.name == ("skeleton" : Str)) = some d)
    {d2 : DefRec} (hrec2 : (recsOf q).find? (fun e => e.name == ("skeleton_of" : Str)) = some d2)
    (base : BaseF K CR)
    (r_LongRefusal : ∃ C fI, RefF K CR "LongRefusal" "LongRefusal.__init__" si_LongRefusal C fI)
    (r_FormRefusal : ∃ C fI, RefF K CR "FormRefusal" "FormRefusal.__init__" si_FormRefusal C fI)
    (r_BigRefusal : ∃ C fI, RefF K CR "BigRefusal" "BigRefusal.__init__" si_BigRefusal C fI)
    (r_ShapeRefusal : ∃ C fI, RefF K CR "ShapeRefusal" "ShapeRefusal.__init__" si_ShapeRefusal C fI)
    (r_LimitRefusal : ∃ C fI, RefF K CR "LimitRefusal" "LimitRefusal.__init__" si_LimitRefusal C fI)
    (cNA : ∃ C fI, NaF K C fI)
    (c_LARGEST_NUMBER : CnF K "LARGEST_NUMBER" 1000000000000000000)
    (c_MOST_EXTENTS : CnF K "MOST_EXTENTS" 4)
    (c_LARGEST_PRODUCT : CnF K "LARGEST_PRODUCT" 256)
    (c_LARGEST_DEPTH : CnF K "LARGEST_DEPTH" 8)
    (c_LARGEST_SIZE : CnF K "LARGEST_SIZE" 512)
    (c_BLANKS : CtF K "BLANKS" [.int 32, .int 9, .int 10, .int 13])
    (c_OPENING : CnF K "OPENING" 91)
    (c_COLON : CnF K "COLON" 58)
    (c_CLOSING : CnF K "CLOSING" 93)
    (c_SIGNS : CtF K "SIGNS" [.int 91, .int 58, .int 93])
    (c_MINUS : CnF K "MINUS" 95)
    (c_ZERO : CnF K "ZERO" 48)
    (c_NINE : CnF K "NINE" 57)
    (c_AT_START : CnF K "AT_START" 0)
    (c_AMONG_EXTENTS : CnF K "AMONG_EXTENTS" 1)
    (c_AMONG_ITEMS : CnF K "AMONG_ITEMS" 2)
    (c_AT_END : CnF K "AT_END" 3)
    (c_LONGEST_TEXT : CnF K "LONGEST_TEXT" 8192)
    (n_len : PySem.W.nsIn K mainGlobals "len" = some none)
    (n_isinstance : PySem.W.nsIn K mainGlobals "isinstance" = some none)
    (n_int : PySem.W.nsIn K mainGlobals "int" = some none)
    (n_range : PySem.W.nsIn K mainGlobals "range" = some none)
    (n_abs : PySem.W.nsIn K mainGlobals "abs" = some none)
    (n_list : PySem.W.nsIn K mainGlobals "list" = some none)
    (n_max : PySem.W.nsIn K mainGlobals "max" = some none)
    (n_sum : PySem.W.nsIn K mainGlobals "sum" = some none)
    (n_all : PySem.W.nsIn K mainGlobals "all" = some none)
    (n_str : PySem.W.nsIn K mainGlobals "str" = some none)
    (n_ord : PySem.W.nsIn K mainGlobals "ord" = some none)
    (d_array_of : DF K "array_of" s_array_of)
    (d_is_number : DF K "is_number" s_is_number)
    (d_extents_of : DF K "extents_of" s_extents_of)
    (d_parts_of : DF K "parts_of" s_parts_of)
    (d_depth_of : DF K "depth_of" s_depth_of)
    (d_size_of : DF K "size_of" s_size_of)
    (d_product_of : DF K "product_of" s_product_of)
    (d_is_shape : DF K "is_shape" s_is_shape)
    (d_is_in_range : DF K "is_in_range" s_is_in_range)
    (d_is_within_limits : DF K "is_within_limits" s_is_within_limits)
    (d_checked_number : DF K "checked_number" s_checked_number)
    (d_come_out : DF K "come_out" s_come_out)
    (d_has_shapes : DF K "has_shapes" s_has_shapes)
    (d_with_numbers : DF K "with_numbers" s_with_numbers)
    (d_is_digit : DF K "is_digit" s_is_digit)
    (d_blanks_end : DF K "blanks_end" s_blanks_end)
    (d_digits_end : DF K "digits_end" s_digits_end)
    (d_digits_start : DF K "digits_start" s_digits_start)
    (d_token_end : DF K "token_end" s_token_end)
    (d_tokens_of : DF K "tokens_of" s_tokens_of)
    (d_can_stand : DF K "can_stand" s_can_stand)
    (d_go_past : DF K "go_past" s_go_past)
    (d_fault_position : DF K "fault_position" s_fault_position)
    (d_look_at : DF K "look_at" s_look_at)
    (d_check_length : DF K "check_length" s_check_length)
    (d_check_numbers : DF K "check_numbers" s_check_numbers)
    (d_number_told : DF K "number_told" s_number_told)
    (d_value_told : DF K "value_told" s_value_told)
    (d_array_told : DF K "array_told" s_array_told)
    (d_text_of : DF K "text_of" s_text_of)
    (d_written : DF K "written" s_written)
    (d_written_number : DF K "written_number" s_written_number)
    (d_answered : DF K "answered" s_answered)
    (d_outcome_answer : DF K "outcome_answer" s_outcome_answer)
    (t : ∃ f c T f2 c2 T2, TopF K "skeleton" s_skeleton f c T ∧ TopF K "skeleton_of" s_skeleton_of f2 c2 T2 ∧ PySem.W.keepIn K (.ref f2) = true ∧ T ≠ T2) :
    SpecAt PySem.Challenge.rw_nestarray_s06_skeleton w K CX0 18 ["v"] mg h fa := by
  have G := TP.g
  obtain ⟨f, c, T, f2, c2, T2, t, tm, kp2, neT⟩ := t
  obtain ⟨oc, od, an, osl, kV, doc, pm, ct, lk⟩ := t.l
  obtain ⟨oc2, od2, vs, sl2, lc, hv⟩ := t.lc
  have tab := tab_at TP X hrec t.a lk rfl lc hv
  obtain ⟨oc3, od3, an3, osl3, kV3, doc3, pm3, ct3, lkm⟩ := tm.l
  obtain ⟨oc4, od4, vs4, sl4, lcm, hvm⟩ := tm.lc
  have tab2 := tab_at TP X hrec2 tm.a lkm rfl lcm hvm
  have FM := fun_mk lkm tm.cd kp2
  have D_skeleton_of : DefAt K mg "skeleton_of" s_skeleton_of ["value"] f2 _ := ⟨FM, PySem.W.mg_of X G tm.a, FM.binds (fun _ _ _ _ _ _ us hl => match us, hl with | [_], _ => rfl)⟩
  cases hfa.symm.trans (PySem.W.mg_of X G t.a)
  obtain ⟨fR, fdR, RB⟩ := base.at X G
  obtain ⟨C_LongRefusal, fI_LongRefusal, r_LongRefusal⟩ := r_LongRefusal
  have T_LongRefusal := r_LongRefusal.at base X G
  obtain ⟨fd_LongRefusal, F_LongRefusal⟩ := r_LongRefusal.w.fn
  have b_LongRefusal := F_LongRefusal.binds (ps := ["self"]) fun _ _ _ _ _ _ us hl => match us, hl with | [_], _ => rfl
  obtain ⟨C_FormRefusal, fI_FormRefusal, r_FormRefusal⟩ := r_FormRefusal
  have T_FormRefusal := r_FormRefusal.at base X G
  obtain ⟨fd_FormRefusal, F_FormRefusal⟩ := r_FormRefusal.w.fn
  have b_FormRefusal := F_FormRefusal.binds (ps := ["self"]) fun _ _ _ _ _ _ us hl => match us, hl with | [_], _ => rfl
  obtain ⟨C_BigRefusal, fI_BigRefusal, r_BigRefusal⟩ := r_BigRefusal
  have T_BigRefusal := r_BigRefusal.at base X G
  obtain ⟨fd_BigRefusal, F_BigRefusal⟩ := r_BigRefusal.w.fn
  have b_BigRefusal := F_BigRefusal.binds (ps := ["self"]) fun _ _ _ _ _ _ us hl => match us, hl with | [_], _ => rfl
  obtain ⟨C_ShapeRefusal, fI_ShapeRefusal, r_ShapeRefusal⟩ := r_ShapeRefusal
  have T_ShapeRefusal := r_ShapeRefusal.at base X G
  obtain ⟨fd_ShapeRefusal, F_ShapeRefusal⟩ := r_ShapeRefusal.w.fn
  have b_ShapeRefusal := F_ShapeRefusal.binds (ps := ["self"]) fun _ _ _ _ _ _ us hl => match us, hl with | [_], _ => rfl
  obtain ⟨C_LimitRefusal, fI_LimitRefusal, r_LimitRefusal⟩ := r_LimitRefusal
  have T_LimitRefusal := r_LimitRefusal.at base X G
  obtain ⟨fd_LimitRefusal, F_LimitRefusal⟩ := r_LimitRefusal.w.fn
  have b_LimitRefusal := F_LimitRefusal.binds (ps := ["self"]) fun _ _ _ _ _ _ us hl => match us, hl with | [_], _ => rfl
  obtain ⟨C_NA, fI_NA, cNA⟩ := cNA
  obtain ⟨fd_NA, NA⟩ := cNA.at X G
  replace c_LARGEST_NUMBER := c_LARGEST_NUMBER.at X G
  replace c_MOST_EXTENTS := c_MOST_EXTENTS.at X G
  replace c_LARGEST_PRODUCT := c_LARGEST_PRODUCT.at X G
  replace c_LARGEST_DEPTH := c_LARGEST_DEPTH.at X G
  replace c_LARGEST_SIZE := c_LARGEST_SIZE.at X G
  replace c_BLANKS := c_BLANKS.at X G
  replace c_OPENING := c_OPENING.at X G
  replace c_COLON := c_COLON.at X G
  replace c_CLOSING := c_CLOSING.at X G
  replace c_SIGNS := c_SIGNS.at X G
  replace c_MINUS := c_MINUS.at X G
  replace c_ZERO := c_ZERO.at X G
  replace c_NINE := c_NINE.at X G
  replace c_AT_START := c_AT_START.at X G
  replace c_AMONG_EXTENTS := c_AMONG_EXTENTS.at X G
  replace c_AMONG_ITEMS := c_AMONG_ITEMS.at X G
  replace c_AT_END := c_AT_END.at X G
  replace c_LONGEST_TEXT := c_LONGEST_TEXT.at X G
  replace n_len := PySem.W.mg_none_of X G n_len
  replace n_isinstance := PySem.W.mg_none_of X G n_isinstance
  replace n_int := PySem.W.mg_none_of X G n_int
  replace n_range := PySem.W.mg_none_of X G n_range
  replace n_abs := PySem.W.mg_none_of X G n_abs
  replace n_list := PySem.W.mg_none_of X G n_list
  replace n_max := PySem.W.mg_none_of X G n_max
  replace n_sum := PySem.W.mg_none_of X G n_sum
  replace n_all := PySem.W.mg_none_of X G n_all
  replace n_str := PySem.W.mg_none_of X G n_str
  replace n_ord := PySem.W.mg_none_of X G n_ord
  obtain ⟨f_array_of, fd_array_of, D_array_of⟩ := d_array_of.at (ps := ["extents", "parts"]) (fun _ _ _ _ _ _ us hl => match us, hl with | [_, _], _ => rfl) X G
  obtain ⟨f_is_number, fd_is_number, D_is_number⟩ := d_is_number.at (ps := ["value"]) (fun _ _ _ _ _ _ us hl => match us, hl with | [_], _ => rfl) X G
  obtain ⟨f_extents_of, fd_extents_of, D_extents_of⟩ := d_extents_of.at (ps := ["value"]) (fun _ _ _ _ _ _ us hl => match us, hl with | [_], _ => rfl) X G
  obtain ⟨f_parts_of, fd_parts_of, D_parts_of⟩ := d_parts_of.at (ps := ["value"]) (fun _ _ _ _ _ _ us hl => match us, hl with | [_], _ => rfl) X G
  obtain ⟨f_depth_of, fd_depth_of, D_depth_of⟩ := d_depth_of.at (ps := ["value"]) (fun _ _ _ _ _ _ us hl => match us, hl with | [_], _ => rfl) X G
  obtain ⟨f_size_of, fd_size_of, D_size_of⟩ := d_size_of.at (ps := ["value"]) (fun _ _ _ _ _ _ us hl => match us, hl with | [_], _ => rfl) X G
  obtain ⟨f_product_of, fd_product_of, D_product_of⟩ := d_product_of.at (ps := ["numbers"]) (fun _ _ _ _ _ _ us hl => match us, hl with | [_], _ => rfl) X G
  obtain ⟨f_is_shape, fd_is_shape, D_is_shape⟩ := d_is_shape.at (ps := ["extents"]) (fun _ _ _ _ _ _ us hl => match us, hl with | [_], _ => rfl) X G
  obtain ⟨f_is_in_range, fd_is_in_range, D_is_in_range⟩ := d_is_in_range.at (ps := ["number"]) (fun _ _ _ _ _ _ us hl => match us, hl with | [_], _ => rfl) X G
  obtain ⟨f_is_within_limits, fd_is_within_limits, D_is_within_limits⟩ := d_is_within_limits.at (ps := ["value"]) (fun _ _ _ _ _ _ us hl => match us, hl with | [_], _ => rfl) X G
  obtain ⟨f_checked_number, fd_checked_number, D_checked_number⟩ := d_checked_number.at (ps := ["number"]) (fun _ _ _ _ _ _ us hl => match us, hl with | [_], _ => rfl) X G
  obtain ⟨f_come_out, fd_come_out, D_come_out⟩ := d_come_out.at (ps := ["value"]) (fun _ _ _ _ _ _ us hl => match us, hl with | [_], _ => rfl) X G
  obtain ⟨f_has_shapes, fd_has_shapes, D_has_shapes⟩ := d_has_shapes.at (ps := ["value"]) (fun _ _ _ _ _ _ us hl => match us, hl with | [_], _ => rfl) X G
  obtain ⟨f_with_numbers, fd_with_numbers, D_with_numbers⟩ := d_with_numbers.at (ps := ["value", "number_for"]) (fun _ _ _ _ _ _ us hl => match us, hl with | [_, _], _ => rfl) X G
  obtain ⟨f_is_digit, fd_is_digit, D_is_digit⟩ := d_is_digit.at (ps := ["byte"]) (fun _ _ _ _ _ _ us hl => match us, hl with | [_], _ => rfl) X G
  obtain ⟨f_blanks_end, fd_blanks_end, D_blanks_end⟩ := d_blanks_end.at (ps := ["text", "start"]) (fun _ _ _ _ _ _ us hl => match us, hl with | [_, _], _ => rfl) X G
  obtain ⟨f_digits_end, fd_digits_end, D_digits_end⟩ := d_digits_end.at (ps := ["text", "start"]) (fun _ _ _ _ _ _ us hl => match us, hl with | [_, _], _ => rfl) X G
  obtain ⟨f_digits_start, fd_digits_start, D_digits_start⟩ := d_digits_start.at (ps := ["text", "start"]) (fun _ _ _ _ _ _ us hl => match us, hl with | [_, _], _ => rfl) X G
  obtain ⟨f_token_end, fd_token_end, D_token_end⟩ := d_token_end.at (ps := ["text", "start"]) (fun _ _ _ _ _ _ us hl => match us, hl with | [_, _], _ => rfl) X G
  obtain ⟨f_tokens_of, fd_tokens_of, D_tokens_of⟩ := d_tokens_of.at (ps := ["text"]) (fun _ _ _ _ _ _ us hl => match us, hl with | [_], _ => rfl) X G
  obtain ⟨f_can_stand, fd_can_stand, D_can_stand⟩ := d_can_stand.at (ps := ["place", "byte"]) (fun _ _ _ _ _ _ us hl => match us, hl with | [_, _], _ => rfl) X G
  obtain ⟨f_go_past, fd_go_past, D_go_past⟩ := d_go_past.at (ps := ["places", "byte"]) (fun _ _ _ _ _ _ us hl => match us, hl with | [_, _], _ => rfl) X G
  obtain ⟨f_fault_position, fd_fault_position, D_fault_position⟩ := d_fault_position.at (ps := ["text", "tokens"]) (fun _ _ _ _ _ _ us hl => match us, hl with | [_, _], _ => rfl) X G
  obtain ⟨f_look_at, fd_look_at, D_look_at⟩ := d_look_at.at (ps := ["text"]) (fun _ _ _ _ _ _ us hl => match us, hl with | [_], _ => rfl) X G
  obtain ⟨f_check_length, fd_check_length, D_check_length⟩ := d_check_length.at (ps := ["text"]) (fun _ _ _ _ _ _ us hl => match us, hl with | [_], _ => rfl) X G
  obtain ⟨f_check_numbers, fd_check_numbers, D_check_numbers⟩ := d_check_numbers.at (ps := ["text", "tokens"]) (fun _ _ _ _ _ _ us hl => match us, hl with | [_, _], _ => rfl) X G
  obtain ⟨f_number_told, fd_number_told, D_number_told⟩ := d_number_told.at (ps := ["text", "start", "end"]) (fun _ _ _ _ _ _ us hl => match us, hl with | [_, _, _], _ => rfl) X G
  obtain ⟨f_value_told, fd_value_told, D_value_told⟩ := d_value_told.at (ps := ["text", "tokens"]) (fun _ _ _ _ _ _ us hl => match us, hl with | [_, _], _ => rfl) X G
  obtain ⟨f_array_told, fd_array_told, D_array_told⟩ := d_array_told.at (ps := ["extents", "parts"]) (fun _ _ _ _ _ _ us hl => match us, hl with | [_, _], _ => rfl) X G
  obtain ⟨f_text_of, fd_text_of, D_text_of⟩ := d_text_of.at (ps := ["value"]) (fun _ _ _ _ _ _ us hl => match us, hl with | [_], _ => rfl) X G
  obtain ⟨f_written, fd_written, D_written⟩ := d_written.at (ps := ["value"]) (fun _ _ _ _ _ _ us hl => match us, hl with | [_], _ => rfl) X G
  obtain ⟨f_written_number, fd_written_number, D_written_number⟩ := d_written_number.at (ps := ["number"]) (fun _ _ _ _ _ _ us hl => match us, hl with | [_], _ => rfl) X G
  obtain ⟨f_answered, fd_answered, D_answered⟩ := d_answered.at (ps := ["work"]) (fun _ _ _ _ _ _ us hl => match us, hl with | [_], _ => rfl) X G
  obtain ⟨f_outcome_answer, fd_outcome_answer, D_outcome_answer⟩ := d_outcome_answer.at (ps := ["value"]) (fun _ _ _ _ _ _ us hl => match us, hl with | [_], _ => rfl) X G
  refine ⟨PySem.W.fnOf "skeleton" "skeleton" (defArgs s_skeleton) (defBody s_skeleton) (defScope s_skeleton) .none kV doc pm an (.ref c) ct, [(c, T), (c2, T2)], spDesk2 T T2 (preT K dueSkeleton), fun p hp => ?_, fun p hp => ?_, fun s us hu => match us, hu with | [_], _ => .of_eq rfl, fun bs hK hG hTB => ?_, fun H xs a hH hwi hask hx => ?_⟩
  · rcases List.mem_cons.mp hp with e | hp
    · rw [e]
      exact tab
    · rw [List.mem_singleton.mp hp]
      exact tab2
  · rcases List.mem_cons.mp hp with e | hp
    · rw [e]
      exact t.nT
    · rw [List.mem_singleton.mp hp]
      exact tm.nT
  · have G_Refusal : FnOk PySem.Challenge.rw_nestarray_s06_skeleton.prog w K mg bs CX0 1 fR fdR ["self", "number"] (spRInit K) := ok_rinit RB.fn
    have G_LongRefusal : FnOk PySem.Challenge.rw_nestarray_s06_skeleton.prog w K mg bs CX0 2 fI_LongRefusal fd_LongRefusal ["self"] (spOInit K (-1)) := ok_init_LongRefusal F_LongRefusal RB G_Refusal
    have G_FormRefusal : FnOk PySem.Challenge.rw_nestarray_s06_skeleton.prog w K mg bs CX0 2 fI_FormRefusal fd_FormRefusal ["self"] (spOInit K (-2)) := ok_init_FormRefusal F_FormRefusal RB G_Refusal
    have G_BigRefusal : FnOk PySem.Challenge.rw_nestarray_s06_skeleton.prog w K mg bs CX0 2 fI_BigRefusal fd_BigRefusal ["self"] (spOInit K (-3)) := ok_init_BigRefusal F_BigRefusal RB G_Refusal
    have G_ShapeRefusal : FnOk PySem.Challenge.rw_nestarray_s06_skeleton.prog w K mg bs CX0 2 fI_ShapeRefusal fd_ShapeRefusal ["self"] (spOInit K (-4)) := ok_init_ShapeRefusal F_ShapeRefusal RB G_Refusal
    have G_LimitRefusal : FnOk PySem.Challenge.rw_nestarray_s06_skeleton.prog w K mg bs CX0 2 fI_LimitRefusal fd_LimitRefusal ["self"] (spOInit K (-5)) := ok_init_LimitRefusal F_LimitRefusal RB G_Refusal
    have G_is_digit : FnOk PySem.Challenge.rw_nestarray_s06_skeleton.prog w K mg bs CX0 1 f_is_digit fd_is_digit ["byte"] (spDigit) := ok_is_digit D_is_digit.fn c_ZERO c_NINE
    have G_blanks_end : FnOk PySem.Challenge.rw_nestarray_s06_skeleton.prog w K mg bs CX0 1 f_blanks_end fd_blanks_end ["text", "start"] (spBlanksEnd K) := ok_blanks_end D_blanks_end.fn c_BLANKS n_len
    have G_digits_end : FnOk PySem.Challenge.rw_nestarray_s06_skeleton.prog w K mg bs CX0 2 f_digits_end fd_digits_end ["text", "start"] (spDigitsEnd K) := ok_digits_end D_digits_end.fn D_is_digit G_is_digit n_len
    have G_digits_start : FnOk PySem.Challenge.rw_nestarray_s06_skeleton.prog w K mg bs CX0 1 f_digits_start fd_digits_start ["text", "start"] (spDigitsStart K) := ok_digits_start D_digits_start.fn c_MINUS
    have G_token_end : FnOk PySem.Challenge.rw_nestarray_s06_skeleton.prog w K mg bs CX0 3 f_token_end fd_token_end ["text", "start"] (spTokenEnd K) := ok_token_end D_token_end.fn c_SIGNS c_ZERO D_digits_start G_digits_start D_digits_end G_digits_end
    have G_tokens_of : FnOk PySem.Challenge.rw_nestarray_s06_skeleton.prog w K mg bs CX0 4 f_tokens_of fd_tokens_of ["text"] (spTokensOf K) := ok_tokens_of D_tokens_of.fn n_len D_blanks_end G_blanks_end D_token_end G_token_end
    have G_can_stand : FnOk PySem.Challenge.rw_nestarray_s06_skeleton.prog w K mg bs CX0 2 f_can_stand fd_can_stand ["place", "byte"] (spCanStand) := ok_can_stand D_can_stand.fn c_AT_START c_AMONG_EXTENTS c_AMONG_ITEMS c_COLON c_CLOSING D_is_digit G_is_digit
    have G_go_past : FnOk PySem.Challenge.rw_nestarray_s06_skeleton.prog w K mg bs CX0 1 f_go_past fd_go_past ["places", "byte"] (spGoPast) := ok_go_past D_go_past.fn c_AMONG_EXTENTS c_AMONG_ITEMS c_AT_END c_OPENING c_COLON c_CLOSING n_len
    have G_fault_position : FnOk PySem.Challenge.rw_nestarray_s06_skeleton.prog w K mg bs CX0 3 f_fault_position fd_fault_position ["text", "tokens"] (spFault K) := ok_fault D_fault_position.fn c_AT_START c_AT_END n_len D_can_stand G_can_stand D_go_past G_go_past
    have G_check_length : FnOk PySem.Challenge.rw_nestarray_s06_skeleton.prog w K mg bs (L2.CX PySem.Challenge.rw_nestarray_s06_skeleton.prog w) 4 f_check_length fd_check_length ["text"] (spCheckLength K C_LongRefusal) := ok_check_length D_check_length.fn n_len c_LONGEST_TEXT T_LongRefusal G_LongRefusal b_LongRefusal
    have G_is_number : FnOk PySem.Challenge.rw_nestarray_s06_skeleton.prog w K mg bs CX0 1 f_is_number fd_is_number ["value"] (spVal C_NA fun u => .bl (Vaarrm.isNum u)) := ok_is_number D_is_number.fn NA n_isinstance n_int
    have G_depth_of : FnOk PySem.Challenge.rw_nestarray_s06_skeleton.prog w K mg bs CX0 2 f_depth_of fd_depth_of ["value"] (spVal C_NA fun u => .int (depthV u : Nat)) := ok_depth_of D_depth_of.fn NA D_is_number G_is_number
    have G_size_of : FnOk PySem.Challenge.rw_nestarray_s06_skeleton.prog w K mg bs CX0 2 f_size_of fd_size_of ["value"] (spVal C_NA fun u => .int (sizeV u : Nat)) := ok_size_of D_size_of.fn NA D_is_number G_is_number
    have G_NA : FnOk PySem.Challenge.rw_nestarray_s06_skeleton.prog w K mg bs CX0 3 fI_NA fd_NA ["self", "extents", "parts"] (spNaInit C_NA) := ok_na_init NA D_depth_of G_depth_of D_size_of G_size_of n_max n_sum
    have G_array_of : FnOk PySem.Challenge.rw_nestarray_s06_skeleton.prog w K mg bs CX0 5 f_array_of fd_array_of ["extents", "parts"] (spArrayOf K C_NA) := ok_array_of D_array_of.fn NA G_NA D_is_number G_is_number n_len n_list
    have G_product_of : FnOk PySem.Challenge.rw_nestarray_s06_skeleton.prog w K mg bs CX0 1 f_product_of fd_product_of ["numbers"] (spProduct K) := ok_product_of D_product_of.fn
    have G_is_within_limits : FnOk PySem.Challenge.rw_nestarray_s06_skeleton.prog w K mg bs CX0 3 f_is_within_limits fd_is_within_limits ["value"] (spVal C_NA fun u => .bl (withinV u)) := ok_is_within_limits D_is_within_limits.fn D_depth_of G_depth_of D_size_of G_size_of c_LARGEST_DEPTH c_LARGEST_SIZE
    have G_is_shape : FnOk PySem.Challenge.rw_nestarray_s06_skeleton.prog w K mg bs CX0 2 f_is_shape fd_is_shape ["extents"] (spIsShape K) := ok_is_shape D_is_shape.fn D_product_of G_product_of c_MOST_EXTENTS c_LARGEST_PRODUCT n_len
    have G_number_told : FnOk PySem.Challenge.rw_nestarray_s06_skeleton.prog w K mg bs CX0 2 f_number_told fd_number_told ["text", "start", "end"] (spNumberTold K) := ok_number_told D_number_told.fn D_digits_start G_digits_start c_ZERO c_MINUS n_range
    have G_is_in_range : FnOk PySem.Challenge.rw_nestarray_s06_skeleton.prog w K mg bs CX0 1 f_is_in_range fd_is_in_range ["number"] (spInRange) := ok_is_in_range D_is_in_range.fn n_abs c_LARGEST_NUMBER
    have G_checked_number : FnOk PySem.Challenge.rw_nestarray_s06_skeleton.prog w K mg bs (L2.CX PySem.Challenge.rw_nestarray_s06_skeleton.prog w) 4 f_checked_number fd_checked_number ["number"] (spCheckedNumber K mg CR) := ok_checked_number D_checked_number.fn T_BigRefusal G_BigRefusal b_BigRefusal D_is_in_range G_is_in_range
    have G_check_numbers : FnOk PySem.Challenge.rw_nestarray_s06_skeleton.prog w K mg bs (L2.CX PySem.Challenge.rw_nestarray_s06_skeleton.prog w) 5 f_check_numbers fd_check_numbers ["text", "tokens"] (spCheckNumbers K mg CR) := ok_check_numbers D_check_numbers.fn c_SIGNS D_number_told G_number_told D_checked_number G_checked_number
    have G_array_told : FnOk PySem.Challenge.rw_nestarray_s06_skeleton.prog w K mg bs (L2.CX PySem.Challenge.rw_nestarray_s06_skeleton.prog w) 6 f_array_told fd_array_told ["extents", "parts"] (spArrayTold K C_NA C_ShapeRefusal) := ok_array_told D_array_told.fn n_len D_is_shape G_is_shape D_product_of G_product_of D_array_of G_array_of T_ShapeRefusal G_ShapeRefusal b_ShapeRefusal
    have G_value_told : FnOk PySem.Challenge.rw_nestarray_s06_skeleton.prog w K mg bs (L2.CX PySem.Challenge.rw_nestarray_s06_skeleton.prog w) 7 f_value_told fd_value_told ["text", "tokens"] (spValueTold K C_NA C_ShapeRefusal) := ok_value_told D_value_told.fn c_OPENING c_COLON c_CLOSING D_array_told G_array_told D_number_told G_number_told
    have G_look_at : FnOk PySem.Challenge.rw_nestarray_s06_skeleton.prog w K mg bs (L2.CX PySem.Challenge.rw_nestarray_s06_skeleton.prog w) 8 f_look_at fd_look_at ["text"] (spLookAt K mg C_NA CR) := ok_look_at D_look_at.fn T_LongRefusal T_FormRefusal T_ShapeRefusal T_LimitRefusal G_FormRefusal b_FormRefusal G_LimitRefusal b_LimitRefusal D_check_length G_check_length D_tokens_of G_tokens_of D_fault_position G_fault_position D_check_numbers G_check_numbers D_value_told G_value_told D_is_within_limits G_is_within_limits
    have G_extents_of : FnOk PySem.Challenge.rw_nestarray_s06_skeleton.prog w K mg bs CX0 2 f_extents_of fd_extents_of ["value"] (spNewList C_NA fun u => bts (Vaarrm.shapeOf u)) := ok_extents_of D_extents_of.fn NA n_list D_is_number G_is_number
    have G_written_number : FnOk PySem.Challenge.rw_nestarray_s06_skeleton.prog w K mg bs CX0 1 f_written_number fd_written_number ["number"] (spWrittenNumber) := ok_written_number D_written_number.fn n_str n_abs
    have G_written : FnOk PySem.Challenge.rw_nestarray_s06_skeleton.prog w K mg bs CX0 10 f_written fd_written ["value"] (spWritten C_NA 9) := ok_written D_written NA n_str D_is_number G_is_number D_written_number G_written_number 9
    have G_text_of : FnOk PySem.Challenge.rw_nestarray_s06_skeleton.prog w K mg bs CX0 11 f_text_of fd_text_of ["value"] (spTextOf C_NA) := ok_text_of D_text_of.fn n_ord D_written G_written
    have G_parts_of : FnOk PySem.Challenge.rw_nestarray_s06_skeleton.prog w K mg bs CX0 2 f_parts_of fd_parts_of ["value"] (spPartsOf C_NA) := ok_parts_of D_parts_of.fn NA n_list D_is_number G_is_number
    have G_has_shapes : FnOk PySem.Challenge.rw_nestarray_s06_skeleton.prog w K mg bs CX0 11 f_has_shapes fd_has_shapes ["value"] (spHasShapes C_NA 9) := ok_has_shapes D_has_shapes NA n_all D_is_number G_is_number D_is_shape G_is_shape 9
    have G_come_out : FnOk PySem.Challenge.rw_nestarray_s06_skeleton.prog w K mg bs (L2.CX PySem.Challenge.rw_nestarray_s06_skeleton.prog w) 12 f_come_out fd_come_out ["value"] (spComeOut K mg C_NA CR) := ok_come_out D_come_out.fn T_LimitRefusal G_LimitRefusal b_LimitRefusal D_is_within_limits G_is_within_limits D_has_shapes G_has_shapes
    have G_outcome_answer : FnOk PySem.Challenge.rw_nestarray_s06_skeleton.prog w K mg bs (L2.CX PySem.Challenge.rw_nestarray_s06_skeleton.prog w) 13 f_outcome_answer fd_outcome_answer ["value"] (spOutcome K mg C_NA CR) := ok_outcome_answer D_outcome_answer.fn D_come_out G_come_out D_text_of G_text_of
    have G_with_numbers : WithOk PySem.Challenge.rw_nestarray_s06_skeleton.prog w K mg C_NA f_with_numbers fd_with_numbers := fun bs' hK' hG' fL c' q' g GL => by
      have G_is_number : FnOk PySem.Challenge.rw_nestarray_s06_skeleton.prog w K mg bs' CX0 1 f_is_number fd_is_number ["value"] (spVal C_NA fun u => .bl (Vaarrm.isNum u)) := ok_is_number D_is_number.fn NA n_isinstance n_int
      have G_depth_of : FnOk PySem.Challenge.rw_nestarray_s06_skeleton.prog w K mg bs' CX0 2 f_depth_of fd_depth_of ["value"] (spVal C_NA fun u => .int (depthV u : Nat)) := ok_depth_of D_depth_of.fn NA D_is_number G_is_number
      have G_size_of : FnOk PySem.Challenge.rw_nestarray_s06_skeleton.prog w K mg bs' CX0 2 f_size_of fd_size_of ["value"] (spVal C_NA fun u => .int (sizeV u : Nat)) := ok_size_of D_size_of.fn NA D_is_number G_is_number
      have G_NA : FnOk PySem.Challenge.rw_nestarray_s06_skeleton.prog w K mg bs' CX0 3 fI_NA fd_NA ["self", "extents", "parts"] (spNaInit C_NA) := ok_na_init NA D_depth_of G_depth_of D_size_of G_size_of n_max n_sum
      have G_array_of : FnOk PySem.Challenge.rw_nestarray_s06_skeleton.prog w K mg bs' CX0 5 f_array_of fd_array_of ["extents", "parts"] (spArrayOf K C_NA) := ok_array_of D_array_of.fn NA G_NA D_is_number G_is_number n_len n_list
      have G_extents_of : FnOk PySem.Challenge.rw_nestarray_s06_skeleton.prog w K mg bs' CX0 2 f_extents_of fd_extents_of ["value"] (spNewList C_NA fun u => bts (Vaarrm.shapeOf u)) := ok_extents_of D_extents_of.fn NA n_list D_is_number G_is_number
      have G_parts_of : FnOk PySem.Challenge.rw_nestarray_s06_skeleton.prog w K mg bs' CX0 2 f_parts_of fd_parts_of ["value"] (spPartsOf C_NA) := ok_parts_of D_parts_of.fn NA n_list D_is_number G_is_number
      exact ok_with_numbers D_with_numbers NA D_is_number G_is_number D_extents_of G_extents_of D_parts_of G_parts_of D_array_of G_array_of GL 9
    have G_skeleton_of : FnOk PySem.Challenge.rw_nestarray_s06_skeleton.prog w K mg bs CX0 15 f2 _ ["value"] (spSkeleton C_NA T2) := ok_skeleton_of lkm tm.cd (hTB (c2, T2) (List.mem_cons_of_mem _ (List.mem_singleton.mpr rfl))) D_with_numbers G_with_numbers
    exact ok_skeleton lk t.cd (hTB _ (List.mem_cons_self ..)) neT D_answered RB.g D_look_at G_look_at D_skeleton_of G_skeleton_of D_outcome_answer G_outcome_answer
  · have q0 : ((Codec.inLen 0 20000 a.1 && a.1.all (Codec.inInt 0 255)) && true) = true := hwi
    obtain ⟨q1, q0⟩ := Bool.and_eq_true_iff.mp q0
    rw [Bool.and_eq_true] at q1
    have b1 : ∀ x ∈ a.1, 0 ≤ x ∧ x ≤ 255 := fun x hx => Codec.inInt_iff.mp (List.all_eq_true.mp q1.2 x hx)
    cases hx with
    | cons h1 hx =>
      cases hx
      cases h1 with
      | lst hs1 ha1 =>
        have e1 := ints_dw a.1 _ ha1
        subst e1
        refine ⟨dueSkeleton (a.1.map Int.toNat), ⟨_, a.1.map Int.toNat, rfl, tx_back b1 hs1, (by rw [List.length_map]; exact (Codec.inNat_iff.mp q1.1).2), rfl⟩, hH _ (List.mem_cons_self ..), hH _ (List.mem_cons_of_mem _ (List.mem_singleton.mpr rfl)), fun H' p hp => ?_⟩
        have e : Codec.app PySem.Challenge.rw_nestarray_s06_skeleton.args PySem.Challenge.rw_nestarray_s06_skeleton.f a = dueSkeleton (a.1.map Int.toNat) := due_skeleton a.1 b1
        rw [e]
        exact .lst (SqL.of hp) (dw_ints _)
end
end NAp

open PySem PySem.W PyProof.Rows
set_option maxRecDepth 100000 in
set_option maxHeartbeats 8000000 in
theorem PySem.Challenge.cw_nestarray_s06_skeleton_holds : PySem.Challenge.rw_nestarray_s06_skeleton.Holds := by
  w_on; k_headS; (case hw => exact ⟨[.list []], by decide +kernel, by decide +kernel⟩)
  k_fillS
  refine NAx.walk_specT (r := PySem.Challenge.rw_nestarray_s06_skeleton) (k := 18) (CX := L2.CX0) (ps := ["v"]) (by decide +kernel) rfl ⟨rfl, by decide, by decide⟩ (fun w h Y => PySem.W.kIn_of Y) ?F (fun _ _ _ _ z => z)
  case F =>
    intro w mg mb mean fa h KX TP hmg
    refine' NAp.all_mk KX TP hmg ?hrec ?hrec2 ?base ?r_LongRefusal ?r_FormRefusal ?r_BigRefusal ?r_ShapeRefusal ?r_LimitRefusal ?cNA ?c_LARGEST_NUMBER ?c_MOST_EXTENTS ?c_LARGEST_PRODUCT ?c_LARGEST_DEPTH ?c_LARGEST_SIZE ?c_BLANKS ?c_OPENING ?c_COLON ?c_CLOSING ?c_SIGNS ?c_MINUS ?c_ZERO ?c_NINE ?c_AT_START ?c_AMONG_EXTENTS ?c_AMONG_ITEMS ?c_AT_END ?c_LONGEST_TEXT ?n_len ?n_isinstance ?n_int ?n_range ?n_abs ?n_list ?n_max ?n_sum ?n_all ?n_str ?n_ord ?d_array_of ?d_is_number ?d_extents_of ?d_parts_of ?d_depth_of ?d_size_of ?d_product_of ?d_is_shape ?d_is_in_range ?d_is_within_limits ?d_checked_number ?d_come_out ?d_has_shapes ?d_with_numbers ?d_is_digit ?d_blanks_end ?d_digits_end ?d_digits_start ?d_token_end ?d_tokens_of ?d_can_stand ?d_go_past ?d_fault_position ?d_look_at ?d_check_length ?d_check_numbers ?d_number_told ?d_value_told ?d_array_told ?d_text_of ?d_written ?d_written_number ?d_answered ?d_outcome_answer ?t
    (case hrec => rfl)
    (case hrec2 => rfl)
    (case base => refine' NAp.basef_mk ?a ?rd ?ga ?fc ?w ?ex ?ic ?ty; (case a => k_is); (case rd => k_is); (case ga => k_is); (case fc => k_is); (case w => (refine' NAp.wr_mk ?l ?c ?k; (case l => k_is); (case c => k_is); (case k => k_is))); (case ex => k_is); (case ic => k_is); (case ty => k_is))
    (case r_LongRefusal => refine' NAp.reff_mk ?a ?l ?sa ?ga ?gg ?no ?iC ?tI ?kC ?ex ?ty ?hd ?up ?w; (case a => k_is); (case l => k_is); (case sa => k_is); (case ga => k_is); (case gg => k_is); (case no => k_is); (case iC => k_is); (case tI => k_is); (case kC => k_is); (case ex => k_is); (case ty => k_is); (case hd => k_is); (case up => k_is); (case w => (refine' NAp.wr_mk ?l ?c ?k; (case l => k_is); (case c => k_is); (case k => k_is))))
    (case r_FormRefusal => refine' NAp.reff_mk ?a ?l ?sa ?ga ?gg ?no ?iC ?tI ?kC ?ex ?ty ?hd ?up ?w; (case a => k_is); (case l => k_is); (case sa => k_is); (case ga => k_is); (case gg => k_is); (case no => k_is); (case iC => k_is); (case tI => k_is); (case kC => k_is); (case ex => k_is); (case ty => k_is); (case hd => k_is); (case up => k_is); (case w => (refine' NAp.wr_mk ?l ?c ?k; (case l => k_is); (case c => k_is); (case k => k_is))))
    (case r_BigRefusal => refine' NAp.reff_mk ?a ?l ?sa ?ga ?gg ?no ?iC ?tI ?kC ?ex ?ty ?hd ?up ?w; (case a => k_is); (case l => k_is); (case sa => k_is); (case ga => k_is); (case gg => k_is); (case no => k_is); (case iC => k_is); (case tI => k_is); (case kC => k_is); (case ex => k_is); (case ty => k_is); (case hd => k_is); (case up => k_is); (case w => (refine' NAp.wr_mk ?l ?c ?k; (case l => k_is); (case c => k_is); (case k => k_is))))
    (case r_ShapeRefusal => refine' NAp.reff_mk ?a ?l ?sa ?ga ?gg ?no ?iC ?tI ?kC ?ex ?ty ?hd ?up ?w; (case a => k_is); (case l => k_is); (case sa => k_is); (case ga => k_is); (case gg => k_is); (case no => k_is); (case iC => k_is); (case tI => k_is); (case kC => k_is); (case ex => k_is); (case ty => k_is); (case hd => k_is); (case up => k_is); (case w => (refine' NAp.wr_mk ?l ?c ?k; (case l => k_is); (case c => k_is); (case k => k_is))))
    (case r_LimitRefusal => refine' NAp.reff_mk ?a ?l ?sa ?ga ?gg ?no ?iC ?tI ?kC ?ex ?ty ?hd ?up ?w; (case a => k_is); (case l => k_is); (case sa => k_is); (case ga => k_is); (case gg => k_is); (case no => k_is); (case iC => k_is); (case tI => k_is); (case kC => k_is); (case ex => k_is); (case ty => k_is); (case hd => k_is); (case up => k_is); (case w => (refine' NAp.wr_mk ?l ?c ?k; (case l => k_is); (case c => k_is); (case k => k_is))))
    (case cNA => refine' NAp.naf_mk ?a ?pg ?hd ?po ?sa ?mk ?kc ?iC ?fC ?nE ?nP ?nD ?nS ?w ?k1 ?k2 ?k3 ?k4 ?k5; (case a => k_is); (case pg => k_is); (case hd => k_is); (case po => k_is); (case sa => k_is); (case mk => k_is); (case kc => k_is); (case iC => k_is); (case fC => k_is); (case nE => k_is); (case nP => k_is); (case nD => k_is); (case nS => k_is); (case w => (refine' NAp.wr_mk ?l ?c ?k; (case l => k_is); (case c => k_is); (case k => k_is))); (case k1 => k_is); (case k2 => k_is); (case k3 => k_is); (case k4 => first | rfl | k_is); (case k5 => k_is))
    (case c_LARGEST_NUMBER => refine' NAp.cnf_mk ?a; (case a => k_is))
    (case c_MOST_EXTENTS => refine' NAp.cnf_mk ?a; (case a => k_is))
    (case c_LARGEST_PRODUCT => refine' NAp.cnf_mk ?a; (case a => k_is))
    (case c_LARGEST_DEPTH => refine' NAp.cnf_mk ?a; (case a => k_is))
    (case c_LARGEST_SIZE => refine' NAp.cnf_mk ?a; (case a => k_is))
    (case c_BLANKS => refine' NAp.ctf_mk ?e ?l ?z ?v; (case e => k_is); (case l => k_is); (case z => decide); (case v => exact .cons ⟨_, rfl⟩ (.cons ⟨_, rfl⟩ (.cons ⟨_, rfl⟩ (.cons ⟨_, rfl⟩ (.nil))))))
    (case c_OPENING => refine' NAp.cnf_mk ?a; (case a => k_is))
    (case c_COLON => refine' NAp.cnf_mk ?a; (case a => k_is))
    (case c_CLOSING => refine' NAp.cnf_mk ?a; (case a => k_is))
    (case c_SIGNS => refine' NAp.ctf_mk ?e ?l ?z ?v; (case e => k_is); (case l => k_is); (case z => decide); (case v => exact .cons ⟨_, rfl⟩ (.cons ⟨_, rfl⟩ (.cons ⟨_, rfl⟩ (.nil)))))
    (case c_MINUS => refine' NAp.cnf_mk ?a; (case a => k_is))
    (case c_ZERO => refine' NAp.cnf_mk ?a; (case a => k_is))
    (case c_NINE => refine' NAp.cnf_mk ?a; (case a => k_is))
    (case c_AT_START => refine' NAp.cnf_mk ?a; (case a => k_is))
    (case c_AMONG_EXTENTS => refine' NAp.cnf_mk ?a; (case a => k_is))
    (case c_AMONG_ITEMS => refine' NAp.cnf_mk ?a; (case a => k_is))
    (case c_AT_END => refine' NAp.cnf_mk ?a; (case a => k_is))
    (case c_LONGEST_TEXT => refine' NAp.cnf_mk ?a; (case a => k_is))
    (case n_len => k_is)
    (case n_isinstance => k_is)
    (case n_int => k_is)
    (case n_range => k_is)
    (case n_abs => k_is)
    (case n_list => k_is)
    (case n_max => k_is)
    (case n_sum => k_is)
    (case n_all => k_is)
    (case n_str => k_is)
    (case n_ord => k_is)
    (case d_array_of => refine' NAp.df_mk ?a ?d; (case a => k_is); (case d => (refine' NAp.wr_mk ?l ?c ?k; (case l => k_is); (case c => k_is); (case k => k_is))))
    (case d_is_number => refine' NAp.df_mk ?a ?d; (case a => k_is); (case d => (refine' NAp.wr_mk ?l ?c ?k; (case l => k_is); (case c => k_is); (case k => k_is))))
    (case d_extents_of => refine' NAp.df_mk ?a ?d; (case a => k_is); (case d => (refine' NAp.wr_mk ?l ?c ?k; (case l => k_is); (case c => k_is); (case k => k_is))))
    (case d_parts_of => refine' NAp.df_mk ?a ?d; (case a => k_is); (case d => (refine' NAp.wr_mk ?l ?c ?k; (case l => k_is); (case c => k_is); (case k => k_is))))
    (case d_depth_of => refine' NAp.df_mk ?a ?d; (case a => k_is); (case d => (refine' NAp.wr_mk ?l ?c ?k; (case l => k_is); (case c => k_is); (case k => k_is))))
    (case d_size_of => refine' NAp.df_mk ?a ?d; (case a => k_is); (case d => (refine' NAp.wr_mk ?l ?c ?k; (case l => k_is); (case c => k_is); (case k => k_is))))
    (case d_product_of => refine' NAp.df_mk ?a ?d; (case a => k_is); (case d => (refine' NAp.wr_mk ?l ?c ?k; (case l => k_is); (case c => k_is); (case k => k_is))))
    (case d_is_shape => refine' NAp.df_mk ?a ?d; (case a => k_is); (case d => (refine' NAp.wr_mk ?l ?c ?k; (case l => k_is); (case c => k_is); (case k => k_is))))
    (case d_is_in_range => refine' NAp.df_mk ?a ?d; (case a => k_is); (case d => (refine' NAp.wr_mk ?l ?c ?k; (case l => k_is); (case c => k_is); (case k => k_is))))
    (case d_is_within_limits => refine' NAp.df_mk ?a ?d; (case a => k_is); (case d => (refine' NAp.wr_mk ?l ?c ?k; (case l => k_is); (case c => k_is); (case k => k_is))))
    (case d_checked_number => refine' NAp.df_mk ?a ?d; (case a => k_is); (case d => (refine' NAp.wr_mk ?l ?c ?k; (case l => k_is); (case c => k_is); (case k => k_is))))
    (case d_come_out => refine' NAp.df_mk ?a ?d; (case a => k_is); (case d => (refine' NAp.wr_mk ?l ?c ?k; (case l => k_is); (case c => k_is); (case k => k_is))))
    (case d_has_shapes => refine' NAp.df_mk ?a ?d; (case a => k_is); (case d => (refine' NAp.wr_mk ?l ?c ?k; (case l => k_is); (case c => k_is); (case k => k_is))))
    (case d_with_numbers => refine' NAp.df_mk ?a ?d; (case a => k_is); (case d => (refine' NAp.wr_mk ?l ?c ?k; (case l => k_is); (case c => k_is); (case k => k_is))))
    (case d_is_digit => refine' NAp.df_mk ?a ?d; (case a => k_is); (case d => (refine' NAp.wr_mk ?l ?c ?k; (case l => k_is); (case c => k_is); (case k => k_is))))
    (case d_blanks_end => refine' NAp.df_mk ?a ?d; (case a => k_is); (case d => (refine' NAp.wr_mk ?l ?c ?k; (case l => k_is); (case c => k_is); (case k => k_is))))
    (case d_digits_end => refine' NAp.df_mk ?a ?d; (case a => k_is); (case d => (refine' NAp.wr_mk ?l ?c ?k; (case l => k_is); (case c => k_is); (case k => k_is))))
    (case d_digits_start => refine' NAp.df_mk ?a ?d; (case a => k_is); (case d => (refine' NAp.wr_mk ?l ?c ?k; (case l => k_is); (case c => k_is); (case k => k_is))))
    (case d_token_end => refine' NAp.df_mk ?a ?d; (case a => k_is); (case d => (refine' NAp.wr_mk ?l ?c ?k; (case l => k_is); (case c => k_is); (case k => k_is))))
    (case d_tokens_of => refine' NAp.df_mk ?a ?d; (case a => k_is); (case d => (refine' NAp.wr_mk ?l ?c ?k; (case l => k_is); (case c => k_is); (case k => k_is))))
    (case d_can_stand => refine' NAp.df_mk ?a ?d; (case a => k_is); (case d => (refine' NAp.wr_mk ?l ?c ?k; (case l => k_is); (case c => k_is); (case k => k_is))))
    (case d_go_past => refine' NAp.df_mk ?a ?d; (case a => k_is); (case d => (refine' NAp.wr_mk ?l ?c ?k; (case l => k_is); (case c => k_is); (case k => k_is))))
    (case d_fault_position => refine' NAp.df_mk ?a ?d; (case a => k_is); (case d => (refine' NAp.wr_mk ?l ?c ?k; (case l => k_is); (case c => k_is); (case k => k_is))))
    (case d_look_at => refine' NAp.df_mk ?a ?d; (case a => k_is); (case d => (refine' NAp.wr_mk ?l ?c ?k; (case l => k_is); (case c => k_is); (case k => k_is))))
    (case d_check_length => refine' NAp.df_mk ?a ?d; (case a => k_is); (case d => (refine' NAp.wr_mk ?l ?c ?k; (case l => k_is); (case c => k_is); (case k => k_is))))
    (case d_check_numbers => refine' NAp.df_mk ?a ?d; (case a => k_is); (case d => (refine' NAp.wr_mk ?l ?c ?k; (case l => k_is); (case c => k_is); (case k => k_is))))
    (case d_number_told => refine' NAp.df_mk ?a ?d; (case a => k_is); (case d => (refine' NAp.wr_mk ?l ?c ?k; (case l => k_is); (case c => k_is); (case k => k_is))))
    (case d_value_told => refine' NAp.df_mk ?a ?d; (case a => k_is); (case d => (refine' NAp.wr_mk ?l ?c ?k; (case l => k_is); (case c => k_is); (case k => k_is))))
    (case d_array_told => refine' NAp.df_mk ?a ?d; (case a => k_is); (case d => (refine' NAp.wr_mk ?l ?c ?k; (case l => k_is); (case c => k_is); (case k => k_is))))
    (case d_text_of => refine' NAp.df_mk ?a ?d; (case a => k_is); (case d => (refine' NAp.wr_mk ?l ?c ?k; (case l => k_is); (case c => k_is); (case k => k_is))))
    (case d_written => refine' NAp.df_mk ?a ?d; (case a => k_is); (case d => (refine' NAp.wr_mk ?l ?c ?k; (case l => k_is); (case c => k_is); (case k => k_is))))
    (case d_written_number => refine' NAp.df_mk ?a ?d; (case a => k_is); (case d => (refine' NAp.wr_mk ?l ?c ?k; (case l => k_is); (case c => k_is); (case k => k_is))))
    (case d_answered => refine' NAp.df_mk ?a ?d; (case a => k_is); (case d => (refine' NAp.wr_mk ?l ?c ?k; (case l => k_is); (case c => k_is); (case k => k_is))))
    (case d_outcome_answer => refine' NAp.df_mk ?a ?d; (case a => k_is); (case d => (refine' NAp.wr_mk ?l ?c ?k; (case l => k_is); (case c => k_is); (case k => k_is))))
    (case t => refine' NAp.twof_mk ?a ?l ?cd ?lc ?hv ?nT ?a2 ?l2 ?cd2 ?lc2 ?hv2 ?nT2 ?kp2 ?ne; (case a => k_is); (case l => k_is); (case cd => k_is); (case lc => k_is); (case hv => rfl); (case nT => rfl); (case a2 => k_is); (case l2 => k_is); (case cd2 => k_is); (case lc2 => k_is); (case hv2 => rfl); (case nT2 => rfl); (case kp2 => k_is); (case ne => decide))
#print axioms PySem.Challenge.cw_nestarray_s06_skeleton_holds
