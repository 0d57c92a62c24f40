import PyProof.Rows.All
import Wide.All
import OpenK.AllK
import Wide.FinOn
import KE.KStateDown
import HandS.ForMost
import HandS.StrMore
import HandS.Walk
import HandS.Defaults
import HandS.IsInst
import KE.GoesEnumKw
import HandS.Wide
import HandS.Iter
import HandS.Text
import KE.IntTextLaws
import KE.IntTextText
import HandS.Dict
import HandS.Exc
import HandS.ExcInit
import HandS.WordsExc
import HandS.CallLocal
import HandS.CallSlots
import HandS.DictSub
import HandS.ReplaceList
import HandS.ReplaceDef
import HandS.ReplaceLit
import KE.GoesComp
import KE.GoesMore
import HandS.Steps
import HandS.TryOnly
import HandS.WideBits
import HandS.Rev
import KE.KIntText
import PyProof.Rows.StrIntSpec
import HandS.ForExc
import HandS.Lambda
import KE.KExcIs
import PyProof.ReprRoads
import HandS.ExcIs
import HandS.ExcField
import HandS.Conv
import HandS.Ends
import HandS.More
import HandS.Words
import HandS.Head0
import HandS.Head1
import HandS.Head2
import HandS.HeadEnd
import HandS.HeadHook1
import HandS.HeadHook2
import HandS.HeadHook3
import HandS.HeadHook4
import HandS.EndBits
import HandS.EndTab
import HandS.HeadWalk
import PySem.Challenge.RW_keptagain_k05_what_reading_refuses
set_option Elab.async false
set_option linter.all false
set_option maxRecDepth 100000
set_option maxHeartbeats 4000000
namespace Kg
open PySem PySem.Spec PyProof.Rows L2
def top (i : Nat) : Stmt := PySem.Challenge.pw_keptagain_k05_what_reading_refuses.main.body.getD i (.Pass ⟨0, 0, 0, 0⟩)
abbrev FnP (K : PySem.W.Frag) (x q : Str) (st : Stmt) (f : Addr) (fd : FuncData) : Prop := FunD K x q (defArgs st) (defBody st) (defScope st) [] [] f fd
abbrev sHas : Stmt := top 24
abbrev sIsInt : Stmt := top 22
abbrev sIsName : Stmt := top 23
abbrev sWordEnd : Stmt := top 21
section
variable {X : Cx} {x z : Str} {i : Int} {t : Tok} {pos : Pos}
/-- a text, a number of the module -/
theorem pgS (hm : X.mg x = some (.str z t)) (hg : Gl X x := by rfl) (hd : (x == ("__debug__" : Str)) = false := by decide) : PE X (.Name x pos) (tC (.str z)) := pe_glob (v := .str z) hg hm ⟨t, rfl⟩ hd
theorem pgI (hm : X.mg x = some (.int i t)) (hg : Gl X x := by rfl) (hd : (x == ("__debug__" : Str)) = false := by decide) : PE X (.Name x pos) (tC (.int i)) := pe_glob (v := .int i) hg hm ⟨t, rfl⟩ hd
end
theorem ifD {p : Prop} [Decidable p] {A B : Prop} (h1 : p → A) (h2 : ¬ p → B) : if decide p = true then A else B := by
  by_cases h : p
  · rw [decide_eq_true h, if_pos rfl]
    exact h1 h
  · rw [decide_eq_false h, if_neg Bool.false_ne_true]
    exact h2 h
theorem ifS {x y : Str} {A B : Prop} (h1 : x = y → A) (h2 : ¬ x = y → B) : if decide (V.str x = V.str y) = true then A else B :=
  ifD (fun h => h1 (V.str.inj h)) (fun h => h2 fun q => h (congrArg V.str q))
theorem ifN {p : Prop} [Decidable p] {A B : Prop} (h1 : ¬ p → A) (h2 : p → B) : if (!decide p) = true then A else B := by
  by_cases h : p
  · rw [decide_eq_true h, if_neg (by decide)]
    exact h2 h
  · rw [decide_eq_false h, if_pos (by decide)]
    exact h1 h
theorem ifB {b : Bool} {A B : Prop} (h1 : b = true → A) (h2 : b = false → B) : if b = true then A else B := by
  cases b with
  | true => rw [if_pos rfl]; exact h1 rfl
  | false => rw [if_neg Bool.false_ne_true]; exact h2 rfl
theorem yesI {σ : L2.St} {H : Hp} {A B : Hp → Prop} (h : A H) : tYes σ H (fun b H3 => if b = true then A H3 else B H3) := (if_pos rfl : (if (true : Bool) = true then A H else B H) = A H).mpr h
/-- every sign of w is one of s's -/
def subset (w s : Str) : Bool := w.cps.toList.all fun c => decide (c ∈ s.cps.toList)
def hasOnly (w s : Str) : Bool := !decide (w = ("" : Str)) && subset w s
def spHas : Sp := fun vs H Q _ => ∃ w s : Str, vs = [.str w, .str s] ∧ w.length ≤ 1000000 ∧ ∀ H', Same H H' → Q (.bl (hasOnly w s)) H'
section
variable {P : Program} {w : World} {K : PySem.W.Frag} {mg : Str → Option Value} {base : Heap} {f : Addr} {fd : FuncData}
theorem scHas : FnScope ["word", "signs"] ["word", "signs"] (defScope sHas) := ⟨rfl, rfl, rfl, by decide +kernel, rfl, by decide +kernel, by decide +kernel⟩
/-! what strip leaves nothing of -/
theorem takeWhile_all {p : Nat → Bool} : ∀ {l : List Nat}, (l.all p = true) → l.takeWhile p = l
  | [], _ => rfl
  | a :: l, h => by
    rw [List.all_cons, Bool.and_eq_true] at h
    rw [List.takeWhile_cons, h.1, if_pos rfl, takeWhile_all h.2]
theorem takeWhile_lt {p : Nat → Bool} : ∀ {l : List Nat}, ¬ (l.all p = true) → (l.takeWhile p).length < l.length
  | [], h => absurd rfl h
  | a :: l, h => by
    rw [List.takeWhile_cons]
    cases ha : p a with
    | false => simp
    | true =>
      have h2 : ¬ (l.all p = true) := fun z => h (by rw [List.all_cons, ha, z]; rfl)
      have := takeWhile_lt h2
      simp
      exact this
theorem all_reverse' {p : Nat → Bool} {l : List Nat} (h : ¬ (l.all p = true)) : ¬ (l.reverse.all p = true) := fun z => h (by rw [List.all_reverse] at z; exact z)
theorem takeWhile_drop_ne {p : Nat → Bool} : ∀ {l : List Nat}, ¬ (l.all p = true) → ¬ ((l.drop (l.takeWhile p).length).all p = true)
  | [], h => absurd rfl h
  | a :: l, h => by
    rw [List.takeWhile_cons]
    cases ha : p a with
    | false => simp [ha]
    | true =>
      have h2 : ¬ (l.all p = true) := fun z => h (by rw [List.all_cons, ha, z]; rfl)
      simp only [if_true, List.length_cons, List.drop_succ_cons]
      exact takeWhile_drop_ne h2
theorem str_nil {y : Str} (h : y.cps.toList = []) : y = ("" : Str) := by
  obtain ⟨l⟩ := y
  have : l = #[] := Array.toList_eq_nil_iff.mp h
  rw [this]
  rfl
theorem strip_nil (x y : Str) : decide (V.str (Txt.stripChars x y) = V.str ("" : Str)) = subset x y := by
  have hg : (fun c => y.cps.contains c) = (fun c => decide (c ∈ y.cps.toList)) := by
    funext c
    rw [Bool.eq_iff_iff]
    simp
  have hc : Txt.stripChars x y = PySem.Builtin.Str.strSub x (stripLo (fun c => decide (c ∈ y.cps.toList)) true x) (stripHi (fun c => decide (c ∈ y.cps.toList)) true x (stripLo (fun c => decide (c ∈ y.cps.toList)) true x)) := by
    rw [← hg]
    exact stripBy_eq _ true true x
  have hl : (Txt.stripChars x y).cps.toList = (x.cps.toList.drop (stripLo (fun c => decide (c ∈ y.cps.toList)) true x)).take (stripHi (fun c => decide (c ∈ y.cps.toList)) true x (stripLo (fun c => decide (c ∈ y.cps.toList)) true x) - stripLo (fun c => decide (c ∈ y.cps.toList)) true x) := by
    rw [hc, PySem.StrLaws.strSub_toList]
  have hlen : x.length = x.cps.toList.length := Array.length_toList.symm
  cases hs : subset x y with
  | true =>
    have h0 : x.cps.toList.takeWhile (fun c => decide (c ∈ y.cps.toList)) = x.cps.toList := takeWhile_all hs
    have h1 : stripLo (fun c => decide (c ∈ y.cps.toList)) true x = x.cps.toList.length := by
      unfold stripLo
      rw [if_pos rfl, h0]
    have : Txt.stripChars x y = ("" : Str) := str_nil (by rw [hl, h1, List.drop_length, List.take_nil])
    rw [this]
    exact decide_eq_true rfl
  | false =>
    refine decide_eq_false fun z => ?_
    have hn : ¬ ((x.cps.toList.all fun c => decide (c ∈ y.cps.toList)) = true) := fun q => by
      have : subset x y = true := q
      rw [hs] at this
      cases this
    have z2 : (Txt.stripChars x y).cps.toList = [] := by rw [V.str.inj z]; rfl
    rw [hl] at z2
    have h1 : stripLo (fun c => decide (c ∈ y.cps.toList)) true x = (x.cps.toList.takeWhile (fun c => decide (c ∈ y.cps.toList))).length := rfl
    have h2 := takeWhile_lt hn
    have h3 := takeWhile_lt (all_reverse' (takeWhile_drop_ne hn))
    rw [List.length_reverse, List.length_drop] at h3
    rw [h1] at z2
    have h4 : stripHi (fun c => decide (c ∈ y.cps.toList)) true x (x.cps.toList.takeWhile (fun c => decide (c ∈ y.cps.toList))).length = x.length - ((x.cps.toList.drop (x.cps.toList.takeWhile (fun c => decide (c ∈ y.cps.toList))).length).reverse.takeWhile (fun c => decide (c ∈ y.cps.toList))).length := rfl
    rw [h4] at z2
    have z3 := congrArg List.length z2
    rw [List.length_take, List.length_drop, List.length_nil, hlen] at z3
    omega
theorem ok_has (F : FnP K "has_only" "has_only" sHas f fd) : FnOk P w K mg base CX0 1 f fd ["word", "signs"] spHas := by
  refine F.ok scHas (fun vs H Q E h => ?_) (fun cdv A outer s H vs Q E hr h => ?_)
  · obtain ⟨x, y, rfl, _⟩ := h
    rfl
  · obtain ⟨x, y, rfl, hl, k⟩ := h
    refine ⟨_, PSs.nox (pss_one (ps_ret (pe_and (pe_cmpR op_ne (pv 0) pe_str (nomark _)) (pe_one (pe_cmpR op_eq (pe_m1 PySem.F.slot_str_strip PySem.F.type_str_strip mt_stripChars (pv 0) (pv 1)) pe_str (nomark _)))))), ?_⟩
    refine ⟨_, rfl, rfl, _, rfl, ?_⟩
    have e0 : (!decide (V.str x = V.str ("" : Str))) = !decide (x = ("" : Str)) := by
      congr 1
      by_cases hx : x = ("" : Str)
      · rw [hx, decide_eq_true rfl, decide_eq_true rfl]
      · rw [decide_eq_false hx, decide_eq_false fun q => hx (V.str.inj q)]
    show if (!decide (V.str x = V.str ("" : Str))) = true then _ else _
    rw [e0]
    cases hx : (!decide (x = ("" : Str))) with
    | false =>
      refine iteF ?_
      have e2 : hasOnly x y = false := by unfold hasOnly; rw [hx]; rfl
      rw [← e2]
      exact k _ (Same.refl _)
    | true =>
      refine iteT ?_
      refine ⟨_, rfl, ⟨_, rfl⟩, _, rfl, x, y, rfl, rfl, Nat.le_trans hl (by decide), ?_⟩
      refine ⟨rfl, ?_⟩
      show Q (.bl (decide (V.str (Txt.stripChars x y) = V.str ("" : Str)))) H
      rw [strip_nil]
      have e2 : hasOnly x y = subset x y := by unfold hasOnly; rw [hx]; rfl
      rw [← e2]
      exact k _ (Same.refl _)
end
end Kg
namespace Kg
open PySem PySem.Spec PyProof.Rows L2
def FIG : Str := "0123456789"
def SIGNS : Str := "abcdefghijklmnopqrstuvwxyz0123456789-?!*<=>+/."
def isInt (x : Str) : Bool := decide (x = ("0" : Str)) || (hasOnly (Txt.removeprefix x ("-" : Str)) FIG && !(Txt.startswith (Txt.removeprefix x ("-" : Str)) ("0" : Str)))
def isName (x : Str) : Bool := !(decide ((16 : Int) < x.length) || decide (x = ("." : Str))) && (hasOnly x SIGNS && !(hasOnly x (FIG ++ ("-" : Str))))
def spIsInt : Sp := fun vs H Q _ => ∃ x : Str, vs = [.str x] ∧ x.length ≤ 1000000 ∧ ∀ H', Same H H' → Q (.bl (isInt x)) H'
def spIsName : Sp := fun vs H Q _ => ∃ x : Str, vs = [.str x] ∧ x.length ≤ 1000000 ∧ ∀ H', Same H H' → Q (.bl (isName x)) H'
/-- where the word ends that begins at a -/
def wordGo (l : List Nat) : Nat := (l.takeWhile fun c => decide (c ∈ SIGNS.cps.toList)).length
def wordBehind (x : Str) (a : Nat) : Nat := a + wordGo (x.cps.toList.drop a)
def spWordEnd : Sp := fun vs H Q _ => ∃ (x : Str) (a : Nat), vs = [.str x, .int a] ∧ x.length ≤ 1000000 ∧ a ≤ x.length ∧ Q (.int (wordBehind x a : Nat)) H
theorem rp_le (x y : Str) : (Txt.removeprefix x y).length ≤ x.length := by
  unfold Txt.removeprefix Txt.affix
  split
  · split
    · exact Nat.le_refl _
    · exact strSub_length_le _ _ _
  · exact Nat.le_refl _
section
variable {P : Program} {w : World} {K : PySem.W.Frag} {mg : Str → Option Value} {base : Heap} {f fH : Addr} {fd fdH : FuncData}
theorem scIsInt : FnScope ["word", "figures"] ["word"] (defScope sIsInt) := ⟨rfl, rfl, rfl, by decide +kernel, rfl, by decide +kernel, by decide +kernel⟩
theorem ok_isInt (F : FnP K "is_integer" "is_integer" sIsInt f fd) (FH : FnP K "has_only" "has_only" sHas fH fdH) (gH : mg "has_only" = some (.ref fH)) {t : Tok} (gF : mg "FIGURES" = some (.str FIG t)) :
    FnOk P w K mg base CX0 2 f fd ["word"] spIsInt := by
  have GH : FnOk P w K mg base CX0 1 fH fdH ["word", "signs"] spHas := ok_has FH
  have bH : Binds K fdH ["word", "signs"] [] := FH.bindsN fun _ _ _ _ _ _ us hl => match us, hl with | [_, _], _ => rfl
  refine F.ok scIsInt (fun vs H Q E h => ?_) (fun cdv A outer s H vs Q E hr h => ?_)
  · obtain ⟨x, rfl, _⟩ := h
    rfl
  · obtain ⟨x, rfl, hl, k⟩ := h
    refine ⟨_, PSs.nox (pss_cons (ps_set (i := 1) scIsInt.nd rfl (Or.inl rfl) (pe_m1 PySem.F.slot_str_removeprefix PySem.F.type_str_removeprefix mt_removeprefix (pv 0) pe_str))
      (pss_cons (ps_if (pt_cmpR op_eq (pv 0) pe_str (nomark _)) (pss_one (ps_ret pe_bl)) pss_nil)
      (pss_one (ps_ret (pe_and (pe_call GH hr rfl gH FH.kp bH .nil pass0 (pa_cons (pv 1) (pa_cons (pgS gF) pa_nil)))
        (pe_one (pe_not (pe_m1 PySem.F.slot_str_startswith PySem.F.type_str_startswith mt_startswith (pv 1) pe_str)))))))), ?_⟩
    refine ⟨_, rfl, ⟨_, rfl⟩, _, _, rfl, rfl, Nat.le_trans hl (by decide), _, rfl, rfl, _, rfl, ?_⟩
    by_cases h0 : x = ("0" : Str)
    · have e : decide (V.str x = V.str ("0" : Str)) = true := decide_eq_true (by rw [h0])
      show if decide (V.str x = V.str ("0" : Str)) = true then _ else _
      rw [e]
      refine iteT ?_
      have e2 : isInt x = true := by unfold isInt; rw [decide_eq_true h0]; rfl
      show Q (.bl true) _
      rw [← e2]
      exact k _ (Same.refl _)
    · have e : decide (V.str x = V.str ("0" : Str)) = false := decide_eq_false fun q => h0 (V.str.inj q)
      show if decide (V.str x = V.str ("0" : Str)) = true then _ else _
      rw [e]
      refine iteF ?_
      refine ⟨_, rfl, _, _, rfl, Nat.le_trans (rp_le _ _) hl, fun H' s1 => ⟨_, rfl, ?_⟩⟩
      have e2 : isInt x = (hasOnly (Txt.removeprefix x ("-" : Str)) FIG && !(Txt.startswith (Txt.removeprefix x ("-" : Str)) ("0" : Str))) := by unfold isInt; rw [decide_eq_false h0]; rfl
      cases hh : hasOnly (Txt.removeprefix x ("-" : Str)) FIG with
      | true =>
        refine iteT ⟨_, rfl, ⟨_, rfl⟩, _, _, rfl, rfl, _, rfl, ?_⟩
        rw [hh] at e2
        have e3 : (!(Txt.startswith (Txt.removeprefix x ("-" : Str)) ("0" : Str))) = isInt x := by rw [e2]; rfl
        rw [e3]
        exact k _ s1
      | false =>
        refine iteF ?_
        rw [hh] at e2
        have e3 : false = isInt x := by rw [e2]; rfl
        rw [e3]
        exact k _ s1
theorem scIsName : FnScope ["word"] ["word"] (defScope sIsName) := ⟨rfl, rfl, rfl, by decide +kernel, rfl, by decide +kernel, by decide +kernel⟩
theorem ok_isName (F : FnP K "is_name" "is_name" sIsName f fd) (FH : FnP K "has_only" "has_only" sHas fH fdH) (gH : mg "has_only" = some (.ref fH)) (gLen : mg "len" = none) {t1 t2 t3 t4 : Tok} (gF : mg "FIGURES" = some (.str FIG t1))
    (gS : mg "WORD_SIGNS" = some (.str SIGNS t2)) (gN : mg "LONGEST_NAME" = some (.int 16 t3)) (gD : mg "DOT" = some (.str "." t4)) :
    FnOk P w K mg base CX0 2 f fd ["word"] spIsName := by
  have GH : FnOk P w K mg base CX0 1 fH fdH ["word", "signs"] spHas := ok_has FH
  have bH : Binds K fdH ["word", "signs"] [] := FH.bindsN fun _ _ _ _ _ _ us hl => match us, hl with | [_, _], _ => rfl
  refine F.ok scIsName (fun vs H Q E h => ?_) (fun cdv A outer s H vs Q E hr h => ?_)
  · obtain ⟨x, rfl, _⟩ := h
    rfl
  · obtain ⟨x, rfl, hl, k⟩ := h
    refine ⟨_, PSs.nox (pss_cons (ps_if (PW.pt (pw_or (pt_cmpR op_gt (pe_callB call_len_str (by rfl) gLen PySem.boot_len (pa_cons (pv 0) pa_nil)) (pgI gN) (nomark _)) (pw_or1 (pt_cmpR op_eq (pv 0) (pgS gD) (nomark _)))))
        (pss_one (ps_ret pe_bl)) pss_nil)
      (pss_one (ps_ret (pe_and (pe_call GH hr rfl gH FH.kp bH .nil pass0 (pa_cons (pv 0) (pa_cons (pgS gS) pa_nil)))
        (pe_one (pe_not (pe_call GH hr rfl gH FH.kp bH .nil pass0 (pa_cons (pv 0) (pa_cons (pe_op op_add_str (pgS gF) pe_str) pa_nil))))))))), ?_⟩
    refine ⟨_, rfl, _, rfl, Nat.le_trans hl (by decide), _, _, rfl, rfl, _, rfl, ?_⟩
    have fin : ∀ b : Bool, b = isName x → ∀ H', Same H H' → Q (.bl b) H' := fun b e H' s1 => by rw [e]; exact k _ s1
    refine ifD (fun h1 => ?_) (fun h1 => ?_)
    · refine iteT (fin _ ?_ _ (Same.refl _))
      unfold isName
      rw [decide_eq_true h1]
      rfl
    refine ⟨_, rfl, rfl, _, rfl, ?_⟩
    refine ifS (fun h2 => ?_) (fun h2 => ?_)
    · refine fin _ ?_ _ (Same.refl _)
      unfold isName
      rw [decide_eq_true h2, Bool.or_true]
      rfl
    have e2 : isName x = (hasOnly x SIGNS && !(hasOnly x (FIG ++ ("-" : Str)))) := by
      unfold isName
      rw [decide_eq_false h1, decide_eq_false h2]
      rfl
    refine ⟨_, rfl, _, _, rfl, hl, fun H' s1 => ⟨_, rfl, ?_⟩⟩
    refine ifB (fun h3 => ?_) (fun h3 => ?_)
    · refine ⟨_, rfl, _, _, rfl, rfl, (by decide +kernel), _, _, rfl, hl, fun H2 s2 => ⟨_, rfl, fin _ ?_ _ (s1.trans s2)⟩⟩
      rw [e2, h3]
      rfl
    · refine fin _ ?_ _ s1
      rw [e2, h3]
      rfl
theorem scWordEnd : FnScope ["code", "at", "end"] ["code", "at"] (defScope sWordEnd) := ⟨rfl, rfl, rfl, by decide +kernel, rfl, by decide +kernel, by decide +kernel⟩
theorem ok_wordEnd (F : FnP K "word_end" "word_end" sWordEnd f fd) (gLen : mg "len" = none) {t2 : Tok} (gS : mg "WORD_SIGNS" = some (.str SIGNS t2)) :
    FnOk P w K mg base CX0 1 f fd ["code", "at"] spWordEnd := by
  refine F.ok scWordEnd (fun vs H Q E h => ?_) (fun cdv A outer s H vs Q E hr h => ?_)
  · obtain ⟨x, a, rfl, _⟩ := h
    rfl
  · obtain ⟨x, a, rfl, hl, ha, k⟩ := h
    refine ⟨_, PSs.nox (pss_cons (ps_set (i := 2) scWordEnd.nd rfl (Or.inl rfl) (pv 1))
      (pss_cons (ps_while PassesOwn.never (PW.pt (pw_and (pt_cmpR op_lt (pv 2) (pe_callB call_len_str (by rfl) gLen PySem.boot_len (pa_cons (pv 0) pa_nil)) (nomark _)) (pw_and1 (pt_cmpR op_in_sign (pe_item_str (pv 0) (pv 2) (fun _ _ => rfl)) (pgS gS) (by rfl)))))
        (pss_one (ps_aug (i := 2) scWordEnd.nd rfl (Or.inl rfl) pe_int ip_add)))
      (pss_one (ps_ret (pv 2))))), ?_⟩
    refine ⟨_, rfl, ?_⟩
    refine while_by (fun σ H' => ∃ n : Nat, σ = [some (.str x), some (.int a), some (.int n)] ∧ H' = H ∧ a ≤ n ∧ n ≤ x.length ∧ wordGo (x.cps.toList.drop a) = (n - a) + wordGo (x.cps.toList.drop n)) (fun σ _ => match σ with | [_, _, some (.int n)] => x.length - n.toNat | _ => 0) ⟨a, rfl, rfl, Nat.le_refl _, ha, by simp⟩ ?_ ?_
    · rintro σ H' ⟨n, rfl, rfl, h1, h2, h3⟩
      refine ⟨_, rfl, _, rfl, _, rfl, Nat.le_trans hl (by decide), _, _, rfl, rfl, _, rfl, ?_⟩
      have out : wordGo (x.cps.toList.drop n) = 0 → Q (V.int (n : Int)) H' := fun h4 => by
        have e : n = wordBehind x a := by
          unfold wordBehind
          rw [h3, h4]
          omega
        rw [e]
        exact k
      refine ifD (fun h4 => ?_) (fun h4 => ?_)
      · have hn : n < x.cps.size := by
          have q : (n : Int) < (x.length : Nat) := h4
          have q2 : x.length = x.cps.size := rfl
          omega
        have hc : x.cps[n]? = some x.cps[n] := by simp [hn]
        have hd : x.cps.toList.drop n = x.cps[n] :: x.cps.toList.drop (n + 1) := by
          have e := List.drop_eq_getElem_cons (l := x.cps.toList) (i := n) (by simpa using hn)
          rw [e]
          simp
        refine ⟨_, rfl, _, rfl, x, (n : Int), x.cps[n], rfl, rfl, by omega, by omega, h4, hc, _, SIGNS, rfl, rfl, _, rfl, ?_⟩
        refine ifD (fun h5 => ?_) (fun h5 => ?_)
        · refine ⟨_, rfl, _, _, rfl, rfl, ⟨n + 1, rfl, rfl, by omega, by have q2 : x.length = x.cps.size := rfl; omega, ?_⟩, ?_⟩
          · rw [h3, hd]
            unfold wordGo
            rw [List.takeWhile_cons, decide_eq_true h5]
            simp
            omega
          · show x.length - ((n : Int) + 1).toNat < x.length - ((n : Int)).toNat
            have q2 : x.length = x.cps.size := rfl
            omega
        · refine ⟨_, rfl, out ?_⟩
          rw [hd]
          unfold wordGo
          rw [List.takeWhile_cons, decide_eq_false h5]
          rfl
      · refine iteF ?_
        refine ⟨_, rfl, out ?_⟩
        have hn : x.cps.toList.length ≤ n := by
          have q : ¬ (n : Int) < (x.length : Nat) := h4
          have q2 : x.length = x.cps.toList.length := by rw [Array.length_toList]; rfl
          omega
        rw [List.drop_eq_nil_of_le hn]
        rfl
    · intro σ H' Q1 Q2 h12 ⟨v1, e1, v2, e2, v3, e3, hz, i, j, e4, e5, k', e6, h⟩
      refine ⟨v1, e1, v2, e2, v3, e3, hz, i, j, e4, e5, k', e6, ?_⟩
      cases k' with
      | false => exact h12 false H' h
      | true =>
        obtain ⟨v4, e7, v5, e8, z, i2, c, e9, e10, e11, e12, e13, e14, c2, z2, e15, e16, k2, e17, h⟩ := h
        exact ⟨v4, e7, v5, e8, z, i2, c, e9, e10, e11, e12, e13, e14, c2, z2, e15, e16, k2, e17, h12 _ _ h⟩
end
end Kg
namespace Kg
open PySem PySem.Spec PyProof.Rows L2
/-! enumerate(xs, start=k) of a list -/
def ItS (K : PySem.W.Frag) (a : Addr) (k : Int) : It :=
  ⟨fun i H => ∃ (xs : List V) (x : V), SqL K H a xs ∧ xs[i]? = some x,
   fun i H v H' => ∃ T x, v = .ref T ∧ H T = none ∧ H' = upd H T (.tup [.int (k + (i : Nat)), x]) ∧ ∀ xs, SqL K H a xs → xs[i]? = some x,
   fun i H => ∃ xs : List V, SqL K H a xs ∧ xs.length = i⟩
theorem walk_enumS {K : PySem.W.Frag} {a : Addr} {k : Int} {xs : List V} : Walk (ItS K a k) xs.length (fun H => SqL K H a xs) (YPair (fun i => some (.int (k + (i : Nat)))) (fun i => xs[i]?)) := by
  refine ⟨fun i _ hi q => ⟨xs, xs[i], q, by simp [hi]⟩, fun _ q => ⟨xs, q, rfl⟩, fun i H v H' _ q y => ?_⟩
  obtain ⟨T, x, h1, h2, h3, h4⟩ := y
  exact ⟨T, .int (k + (i : Nat)), x, h1, h2, h3, rfl, h4 xs q⟩
theorem turn_enumS {P : Program} {w : World} {K : PySem.W.Frag} {elts : List Expr} {kk : Nat} {tpos : Pos} (a e it : Addr) (k : Int) :
    Turn P w K (.Tuple elts kk tpos) (ItS K a k) [e, it] e (fun i h => (∃ old, IsEnum h e it (k + (i : Nat)) old) ∧ h.IsListIter it a i ∧ e ≠ it ∧ a ≠ it ∧ e ≠ a) where
  mem := by simp
  obj := fun i h st b hb => by
    obtain ⟨⟨old, he⟩, ⟨o, ho, hc, hd⟩, _⟩ := st
    rcases (show b = e ∨ b = it by simpa using hb) with z | z
    · rw [z]
      exact ⟨_, he, fun v q => nomatch q⟩
    · rw [z]
      exact ⟨o, ho, fun v q => by rw [hd] at q; cases q⟩
  keep := fun i h h' st q => by
    obtain ⟨⟨old, he⟩, hi, r⟩ := st
    exact ⟨⟨old, q e (by simp) _ he⟩, hi.at fun o z => q it (by simp) o z, r⟩
  item := by
    intro X hP hw hK hc i pins s σ H E I hf st hg
    subst hP hw hK
    obtain ⟨⟨old, he⟩, hit, hne, hai, hea⟩ := st
    obtain ⟨xs, x, hq, hx⟩ := hg
    obtain ⟨its, rv, p, hz⟩ := I.list hq
    obtain ⟨u, hu, ru⟩ := rv.get hx
    have hel : e < s.heap.objs.size := Heap.lt_size he
    have hil : it < s.heap.objs.size := by obtain ⟨_, q, _⟩ := hit; exact Heap.lt_size q
    have hil2 : i < its.toArray.size := by
      have := (List.getElem?_eq_some_iff.mp hu).1
      simpa using this
    refine wpAny_pyNext_enum_itemC (Draws.list (A := X.A.in1) (I.ok.hd hc) it a hai its.toArray) he ⟨hit, p.isList⟩ hil2 hne (by simp; exact ⟨hne, hea⟩) fun x' h' tk hx' ho hit' hT hsz hk => ?_
    have ex : x' = u := by
      have q : its.toArray[i]? = some u := by simpa using hu
      rw [q] at hx'
      exact (Option.some.inj hx').symm
    subst ex
    refine ⟨_, rfl, wpAny_letOwnedTupleGo_enum (s := { s with heap := h', toks := tk + 1 }) ho fun h'' he' sb => ?_⟩
    have hT2 : h''.get? s.heap.objs.size = some { cls := .type "tuple", data := .seq #[.int (k + (i : Nat)) tk, x'] } := (sb.2 _ (Nat.ne_of_gt hel)).trans hT
    have new : ObjOk X.prog X.w (upd H s.heap.objs.size (.tup [.int (k + (i : Nat)), x])) h'' s.heap.objs.size (.tup [.int (k + (i : Nat)), x]) :=
      ⟨by show 2 ≤ sizeLine; decide, [.int (k + (i : Nat)) tk, x'], .cons ⟨_, rfl⟩ (.cons ru .nil), ⟨_, hT2, rfl, _, rfl⟩⟩
    have I1 : Inv X pins σ (upd H s.heap.objs.size (.tup [.int (k + (i : Nat)), x])) { s with heap := h'', toks := tk + 1 } :=
      I.turnedNew (ch := [e, it]) (fun b ob hb q => by
        have h1 : b ≠ e := fun z => hb (by simp [z])
        have h2 : b ≠ it := fun z => hb (by simp [z])
        exact (sb.2 b h1).trans (hk b ob h1 h2 q)) hf (Nat.le_refl _) new
    refine ⟨.ref s.heap.objs.size, _, I1, rfl, ⟨_, x, rfl, I.hok.fresh (Nat.le_refl _), rfl, fun ys hy => by rw [I.list_inj hy hq]; exact hx⟩, ⟨⟨x', ?_⟩, hit'.1.at fun o q => (sb.2 it (Ne.symm hne)).trans q, hne, hai, hea⟩, fun b hb => ?_⟩
    · have e1 : k + ((i + 1 : Nat) : Int) = k + (i : Nat) + 1 := by omega
      rw [e1]
      exact he'
    · have hb' : b < s.heap.objs.size := by
        rcases (show b = e ∨ b = it by simpa using hb) with z | z
        · rw [z]; exact hel
        · rw [z]; exact hil
      rw [upd_ne (Nat.ne_of_lt hb')]
      exact (hf b hb).1
  done := by
    intro X hP hw hK hc i pins s σ H E I hf st hg
    subst hP hw hK
    obtain ⟨⟨old, he⟩, hit, hne, hai, hea⟩ := st
    obtain ⟨xs, hq, hx⟩ := hg
    obtain ⟨its, rv, p, hz⟩ := I.list hq
    obtain ⟨f0, f1, f2, f3, f4, f5⟩ := hf it (by simp)
    have hl := rv.length
    have hi : i = its.toArray.size := by rw [← hx, hl]; simp
    subst hi
    exact wpAny_pyNext_enum_endD (Draws.list (A := X.A.in1) (I.ok.hd hc) it a hai its.toArray) he ⟨hit, p.isList⟩ fun h' eb => ⟨rfl, I.turned (t' := s.toks) (fun b o hb q => eb b o hb q) f0 f1 f3 f4 f5⟩
  self := fun A i s Q E st h => by
    obtain ⟨⟨_, he⟩, _⟩ := st
    exact wpAny_pyIter_enum he h
def iEnumS (K : PySem.W.Frag) (ta : TA) (tk : TA) : TI := fun σ H R => ta σ H fun vs H1 => tk σ H1 fun zs H2 => ∃ a xs k, vs = [.ref a] ∧ zs = [.int k] ∧ -(2 ^ 63) ≤ k ∧ k < 2 ^ 63 ∧ SqL K H2 a xs ∧ R (ItS K a k) H2
theorem pi_enumS {X : Cx} {e ke : Expr} {ta tk : TA} {p pos tpos kpos : Pos} {elts : List Expr} {kk : Nat} (hg : Gl X "enumerate") (hm : X.mg "enumerate" = none) (ha : PA X [e] ta) (hkw : PK X [⟨some "start", ke, kpos⟩] tk)
    (he : starEach [e] X.env = (false, eval e X.env) :: starEach [] X.env := by rfl) :
    PI X (.Tuple elts kk tpos) (.Call (.Name "enumerate" p) [e] [⟨some "start", ke, kpos⟩] pos) (iEnumS X.K ta tk) := by
  refine ⟨fun pins s σ H R I h => ?_⟩
  refine wpAny_Call_Name_kw (ld_blt I hg hm boot_enumerate ?_)
  refine PySem.W.callWith_of (P := fun h => X.K.In h) (by rw [he]; rfl) (fun h0 _ => ⟨.machine, .inr (.inl rfl), PySem.W.Looks.of_pure rfl⟩) (PyProof.Rows.evalArgs_kw2 (by rfl) (thn (ha.run pos pins s σ H _ I h) fun us s1 ⟨vs, H1, I1, r, q⟩ => ?_) he)
  refine thn (hkw.run pos pins s1 σ H1 _ I1 q) fun ws s2 ⟨zs, H2, I2, rz, q2⟩ => ⟨I2.kIn, ?_⟩
  obtain ⟨a, xs, k, ev, ez, hk0, hk1, hq, q3⟩ := q2
  subst ev ez
  cases r with
  | cons r rr =>
    cases rr
    cases r
    cases rz with
    | cons r2 rr2 =>
      cases rr2
      obtain ⟨t, rfl⟩ := r2
      obtain ⟨its, rv, p', hz⟩ := I2.list hq
      show wpAny _ _ (call (.type "enumerate") [.ref a] [(Str.ofString "start", .int k t)]) _ _ _
      refine enum_begins_start (begins_list a its.toArray) p'.isList hk0 hk1 fun h' he' hit hsz hkk => wpAny_pyIter_enum he' ?_
      have I3 : Inv X pins σ H2 { s2 with heap := h' } := I2.kept (t' := s2.toks) hkk
      have hla : a < s2.heap.objs.size := by obtain ⟨o, q, _⟩ := p'.isList; exact Heap.lt_size q
      refine ⟨s2.heap.objs.size + 1, [s2.heap.objs.size + 1, s2.heap.objs.size], _, _, H2, rfl, I3, turn_enumS a (s2.heap.objs.size + 1) s2.heap.objs.size k, ⟨⟨.none, by simpa using he'⟩, ⟨_, hit, rfl, rfl⟩, Nat.succ_ne_self _, Nat.ne_of_lt hla, Nat.ne_of_gt (Nat.lt_succ_of_lt hla)⟩, fun b hb => ?_, q3⟩
      have hle : s2.heap.objs.size ≤ b := by
        rcases (show b = s2.heap.objs.size + 1 ∨ b = s2.heap.objs.size by simpa using hb) with z | z
        · rw [z]; exact Nat.le_succ _
        · rw [z]; exact Nat.le_refl _
      exact I2.fpOk hle (I2.hok.fresh hle)
end Kg
namespace Kg
open PySem PySem.Spec PyProof.Rows L2
abbrev sLineWords : Stmt := top 20
abbrev sWordsIn : Stmt := top 19
theorem paired_snoc {α β : Type} {R : α → β → Prop} {a : α} {b : β} (r : R a b) : ∀ {l₁ : List α} {l₂ : List β}, Paired R l₁ l₂ → Paired R (l₁ ++ [a]) (l₂ ++ [b])
  | _, _, .nil => .cons r .nil
  | _, _, .cons q t => .cons q (paired_snoc r t)
theorem paired_imp {α β : Type} {R S : α → β → Prop} (h : ∀ a b, R a b → S a b) : ∀ {l₁ : List α} {l₂ : List β}, Paired R l₁ l₂ → Paired S l₁ l₂
  | _, _, .nil => .nil
  | _, _, .cons q t => .cons (h _ _ q) (paired_imp h t)
/-- a word with the number of its first sign, as a tuple -/
def WR (H : Hp) (v : V) (p : Nat × Str) : Prop := ∃ T, v = .ref T ∧ H T = some (.tup [.int (p.1 : Nat), .str p.2])
theorem WR.same {H H' : Hp} (s : Same H H') {v : V} {p : Nat × Str} (r : WR H v p) : WR H' v p := by
  obtain ⟨T, e, h⟩ := r
  exact ⟨T, e, s _ _ h⟩
/-- where the word of the sign at a ends -/
def wordEnd (x : Str) (a : Nat) : Nat := if x.cps.toList.getD a 0 ∈ SIGNS.cps.toList then wordBehind x (a + 1) else a + 1
theorem wordEnd_gt (x : Str) (a : Nat) : a < wordEnd x a := by
  unfold wordEnd wordBehind
  split <;> omega
theorem wordEnd_le (x : Str) (a : Nat) (h : a < x.length) : wordEnd x a ≤ x.length := by
  unfold wordEnd wordBehind wordGo
  have h1 : ((x.cps.toList.drop (a + 1)).takeWhile fun c => decide (c ∈ SIGNS.cps.toList)).length ≤ (x.cps.toList.drop (a + 1)).length := (List.takeWhile_sublist _).length_le
  rw [List.length_drop] at h1
  have h3 : x.cps.toList.length = x.length := Array.length_toList
  rw [h3] at h1
  split <;> omega
def tEnd : TE := fun σ H Q => ∃ (x : Str) (n : Nat), σ[1]? = some (some (.str x)) ∧ σ[3]? = some (some (.int n)) ∧ n < x.length ∧ x.length ≤ 1000000 ∧ Q (.int (wordEnd x n : Nat)) H
theorem PE.imp {X : Cx} {e : Expr} {t t' : TE} (h : PE X e t) (i : ∀ σ H Q, t' σ H Q → t σ H Q) : PE X e t' := ⟨fun pins s σ H Q I hw => h.run pins s σ H Q I (i _ _ _ hw)⟩
/-- the words of a line's code from place a on -/
def lwGo (x : Str) : Nat → Nat → List (Nat × Str)
  | 0, _ => []
  | f + 1, a => if a < x.length then (if x.cps[a]? = some 32 then [] else [(a + 1, cutS x (some (a : Nat)) (some (wordEnd x a : Nat)))]) ++ lwGo x f (wordEnd x a) else []
def codeOfLine (x : Str) : Str := (Txt.partition x (";" : Str)).1
def lineWords (x : Str) : List (Nat × Str) := lwGo (codeOfLine x) (codeOfLine x).length 0
def spLine : Sp := fun vs H Q _ => ∃ x : Str, vs = [.str x] ∧ x.length ≤ 1000000 ∧ (codeOfLine x).length ≤ 1000000 ∧ ∀ H' p us, Same H H' → H p = none → H' p = some (.lst us) → Paired (WR H') us (lineWords x) → Q (.ref p) H'
theorem lwGo_more (x : Str) : ∀ (f g a : Nat), x.length - a ≤ f → x.length - a ≤ g → lwGo x f a = lwGo x g a
  | 0, 0, _, _, _ => rfl
  | 0, g + 1, a, h, _ => by
    unfold lwGo
    rw [if_neg (by omega)]
  | f + 1, 0, a, _, h => by
    unfold lwGo
    rw [if_neg (by omega)]
  | f + 1, g + 1, a, h1, h2 => by
    unfold lwGo
    by_cases h : a < x.length
    · rw [if_pos h, if_pos h]
      have := wordEnd_gt x a
      rw [lwGo_more x f g (wordEnd x a) (by omega) (by omega)]
    · rw [if_neg h, if_neg h]
section
variable {P : Program} {w : World} {K : PySem.W.Frag} {mg : Str → Option Value} {base : Heap} {f fE : Addr} {fd fdE : FuncData}
theorem scLine : FnScope ["line", "code", "found", "at", "end"] ["line"] (defScope sLineWords) := ⟨rfl, rfl, rfl, by decide +kernel, rfl, by decide +kernel, by decide +kernel⟩
theorem ok_line (F : FnP K "line_words" "line_words" sLineWords f fd) (FE : FnP K "word_end" "word_end" sWordEnd fE fdE) (gE : mg "word_end" = some (.ref fE)) (gLen : mg "len" = none) {t2 : Tok} (gS : mg "WORD_SIGNS" = some (.str SIGNS t2)) :
    FnOk P w K mg base CX0 2 f fd ["line"] spLine := by
  have GE : FnOk P w K mg base CX0 1 fE fdE ["code", "at"] spWordEnd := ok_wordEnd FE gLen gS
  have bE : Binds K fdE ["code", "at"] [] := FE.bindsN fun _ _ _ _ _ _ us hl => match us, hl with | [_, _], _ => rfl
  refine F.ok scLine (fun vs H Q E h => ?_) (fun cdv A outer s H vs Q E hr h => ?_)
  · obtain ⟨x, rfl, _⟩ := h
    rfl
  · obtain ⟨x, rfl, hl, hl2, k⟩ := h
    refine ⟨_, PSs.nox (pss_cons (ps_set (i := 1) scLine.nd rfl (Or.inl rfl) (pe_ix ix_tup (pe_partition (pv 0) pe_str) pe_int (fun _ _ => rfl)))
      (pss_cons (ps_set (i := 2) scLine.nd rfl (Or.inl rfl) (pe_lst pa_nil))
      (pss_cons (ps_set (i := 3) scLine.nd rfl (Or.inl rfl) pe_int)
      (pss_cons (ps_while PassesOwn.never (pt_cmpR op_lt (pv 3) (pe_callB call_len_str (by rfl) gLen PySem.boot_len (pa_cons (pv 1) pa_nil)) (nomark _))
        (pss_cons (ps_set (i := 4) scLine.nd rfl (Or.inl rfl) (PE.imp (t' := tEnd) (pe_ifExp (pt_cmpR op_in_sign (pe_item_str (pv 1) (pv 3) (fun _ _ => rfl)) (pgS gS) (by rfl)) (pe_call GE hr rfl gE FE.kp bE .nil pass0 (pa_cons (pv 1) (pa_cons (pe_op op_add (pv 3) pe_int) pa_nil))) (pe_op op_add (pv 3) pe_int)) (by
            intro σ H Q ⟨x, n, e1, e3, hn, hl, h⟩
            have hc : x.cps[n]? = some (x.cps[n]'hn) := Array.getElem?_eq_getElem hn
            have hg : x.cps.toList.getD n 0 = x.cps[n]'hn := by
              rw [List.getD_eq_getElem?_getD, Array.getElem?_toList, hc]
              rfl
            refine ⟨_, e1, _, e3, x, (n : Int), _, rfl, rfl, by omega, by omega, by exact_mod_cast hn, hc, _, SIGNS, rfl, rfl, _, rfl, ?_⟩
            refine ifD (fun h5 => ?_) (fun h5 => ?_)
            · have e : wordEnd x n = wordBehind x (n + 1) := by
                unfold wordEnd
                rw [hg, if_pos h5]
              rw [e] at h
              exact ⟨_, e1, _, e3, _, _, rfl, rfl, x, n + 1, rfl, hl, hn, h⟩
            · have e : wordEnd x n = n + 1 := by
                unfold wordEnd
                rw [hg, if_neg h5]
              rw [e] at h
              exact ⟨_, e3, _, _, rfl, rfl, h⟩)))
        (pss_cons (ps_if (pt_cmpR op_ne (pe_item_str (pv 1) (pv 3) (fun _ _ => rfl)) pe_str (nomark _))
          (pss_one (ps_expr (pe_bm PySem.F.plainAttrs_list PySem.F.slot_list_append PySem.F.type_list_append mt_append (pv 2) (pa_cons (pe_tup (pa_cons (pe_op op_add (pv 3) pe_int) (pa_cons (pe_slice sl_str (pv 1) (po_some (pv 3)) (po_some (pv 4))) pa_nil))) pa_nil)))) pss_nil)
        (pss_one (ps_set (i := 3) scLine.nd rfl (Or.inl rfl) (pv 4))))))
      (pss_one (ps_ret (pv 2))))))), ?_⟩
    refine ⟨_, rfl, ⟨_, rfl⟩, _, _, rfl, rfl, (by decide +kernel), Nat.le_trans hl (by decide), fun p np => ?_⟩
    refine ⟨p, _, (0 : Int), .str (codeOfLine x), rfl, rfl, SqT.of upd_same, atI_nat (j := 0) rfl, ?_⟩
    refine ⟨Nat.zero_le _, fun l nl => ?_⟩
    have nHl : H l = none := by
      cases q : H l with
      | none => rfl
      | some o =>
        have z : l ≠ p := ne_of_none q np
        rw [upd_ne z, q] at nl
        cases nl
    have s0 : Same H (upd (upd H p (.tup [.str (Txt.partition x (";" : Str)).1, .str (Txt.partition x (";" : Str)).2.1, .str (Txt.partition x (";" : Str)).2.2])) l (.lst [])) := fun b o q => by
      rw [upd_ne (ne_of_none q nHl), upd_ne (ne_of_none q np)]
      exact q
    refine while_by (fun σ H' => ∃ (n : Nat) (us : List V) (done : List (Nat × Str)) (v : Option V), σ = [some (.str x), some (.str (codeOfLine x)), some (.ref l), some (.int n), v] ∧ Same H H' ∧ H' l = some (.lst us) ∧ Paired (WR H') us done ∧
      done ++ lwGo (codeOfLine x) ((codeOfLine x).length - n) n = lineWords x ∧ us.length ≤ n ∧ n ≤ (codeOfLine x).length) (fun σ _ => match σ with | [_, _, _, some (.int n), _] => (codeOfLine x).length - n.toNat | _ => 0)
      ⟨0, [], [], none, rfl, s0, upd_same, .nil, rfl, Nat.le_refl _, Nat.zero_le _⟩ ?_ ?_
    · rintro σ H' ⟨n, us, done, v, rfl, s1, hL, hP, hD, hn, hn2⟩
      refine ⟨_, rfl, _, rfl, _, rfl, Nat.le_trans hl2 (by decide), _, _, rfl, rfl, _, rfl, ?_⟩
      refine ifD (fun h4 => ?_) (fun h4 => ?_)
      · have h4' : n < (codeOfLine x).length := by omega
        have hc : (codeOfLine x).cps[n]? = some ((codeOfLine x).cps[n]'h4') := Array.getElem?_eq_getElem h4'
        generalize hcc : (codeOfLine x).cps[n]'h4' = c at hc
        have hw1 := wordEnd_gt (codeOfLine x) n
        have hw2 := wordEnd_le (codeOfLine x) n h4'
        have step : lwGo (codeOfLine x) ((codeOfLine x).length - n) n = (if c = 32 then [] else [(n + 1, cutS (codeOfLine x) (some (n : Nat)) (some (wordEnd (codeOfLine x) n : Nat)))]) ++ lwGo (codeOfLine x) ((codeOfLine x).length - wordEnd (codeOfLine x) n) (wordEnd (codeOfLine x) n) := by
          have e : (codeOfLine x).length - n = ((codeOfLine x).length - n - 1) + 1 := by omega
          rw [e]
          conv => lhs; unfold lwGo
          rw [if_pos h4', hc, lwGo_more (codeOfLine x) ((codeOfLine x).length - n - 1) ((codeOfLine x).length - wordEnd (codeOfLine x) n) _ (by omega) (by omega)]
          congr 1
          by_cases h : c = 32
          · rw [if_pos h, if_pos (by rw [h])]
          · rw [if_neg h, if_neg (fun q => h (Option.some.inj q))]
        have back : ∀ (H2 : Hp) (us' : List V) (done' : List (Nat × Str)), Same H H2 → H2 l = some (.lst us') → Paired (WR H2) us' done' → done' ++ lwGo (codeOfLine x) ((codeOfLine x).length - wordEnd (codeOfLine x) n) (wordEnd (codeOfLine x) n) = lineWords x → us'.length ≤ n + 1 →
            (∃ (n2 : Nat) (us2 : List V) (done2 : List (Nat × Str)) (v2 : Option V), ([some (.str x), some (.str (codeOfLine x)), some (.ref l), some (.int (wordEnd (codeOfLine x) n : Nat)), some (.int (wordEnd (codeOfLine x) n : Nat))] : L2.St) = [some (.str x), some (.str (codeOfLine x)), some (.ref l), some (.int n2), v2] ∧ Same H H2 ∧ H2 l = some (.lst us2) ∧ Paired (WR H2) us2 done2 ∧
              done2 ++ lwGo (codeOfLine x) ((codeOfLine x).length - n2) n2 = lineWords x ∧ us2.length ≤ n2 ∧ n2 ≤ (codeOfLine x).length) ∧ (codeOfLine x).length - ((wordEnd (codeOfLine x) n : Nat) : Int).toNat < (codeOfLine x).length - ((n : Nat) : Int).toNat := by
          intro H2 us' done' a1 a2 a3 a4 a5
          exact ⟨⟨_, us', done', _, rfl, a1, a2, a3, a4, by omega, hw2⟩, by omega⟩
        refine ⟨codeOfLine x, n, rfl, rfl, h4', hl2, ?_⟩
        refine ⟨_, rfl, _, rfl, codeOfLine x, n, c, rfl, rfl, by omega, by omega, by exact_mod_cast h4', hc, rfl, _, rfl, ?_⟩
        refine ifN (fun h5 => ?_) (fun h5 => ?_)
        · have h6 : ¬ c = 32 := fun q => h5 (by rw [q]; rfl)
          refine ⟨_, rfl, .inl ⟨rfl, _, SqL.of hL⟩, _, rfl, _, _, rfl, rfl, _, rfl, _, rfl, _, rfl, _, rfl, _, rfl, _, rfl, Nat.le_trans hl2 (by decide), (by show 2 ≤ sizeLine; decide), fun T nT => ?_⟩
          have nTl : l ≠ T := ne_of_none hL nT
          refine ⟨l, us, _, rfl, rfl, by rw [upd_ne nTl]; exact hL, Nat.lt_of_le_of_lt hn (Nat.lt_of_le_of_lt (Nat.le_trans hn2 hl2) (by decide)), _, rfl, ?_⟩
          have s2 : ∀ b o, b ≠ l → H' b = some o → upd (upd H' T (.tup [.int ((n : Nat) + 1), .str (cutS (codeOfLine x) (some (n : Nat)) (some (wordEnd (codeOfLine x) n : Nat)))])) l (.lst (us ++ [.ref T])) b = some o := fun b o hb q => by
            rw [upd_ne hb, upd_ne (ne_of_none q nT)]
            exact q
          have hP2 : Paired (WR (upd (upd H' T (.tup [.int ((n : Nat) + 1), .str (cutS (codeOfLine x) (some (n : Nat)) (some (wordEnd (codeOfLine x) n : Nat)))])) l (.lst (us ++ [.ref T])))) us done := paired_imp (fun a b r => by
            obtain ⟨T2, e2, h2⟩ := r
            exact ⟨T2, e2, s2 _ _ (ne_of h2 hL (fun z => by cases z)) h2⟩) hP
          refine back _ _ (done ++ [(n + 1, cutS (codeOfLine x) (some (n : Nat)) (some (wordEnd (codeOfLine x) n : Nat)))]) (fun b o q => s2 b o (ne_of_none q nHl) (s1 b o q)) upd_same (paired_snoc ⟨T, rfl, by rw [upd_ne (Ne.symm nTl), upd_same]; rfl⟩ hP2) ?_ ?_
          · rw [step, if_neg h6] at hD
            rw [← hD]
            simp
          · simp
            omega
        · have h6 : c = 32 := by
            have q := V.str.inj h5
            have q2 : (#[c] : Array Nat) = #[32] := congrArg Str.cps q
            simpa using q2
          refine ⟨_, rfl, ?_⟩
          rw [step, if_pos h6] at hD
          exact back _ us done s1 hL hP (by simpa using hD) (by omega)
      · have h4' : (codeOfLine x).length ≤ n := by omega
        refine ⟨_, rfl, k _ l us s1 nHl hL ?_⟩
        have e : lwGo (codeOfLine x) ((codeOfLine x).length - n) n = [] := by
          rw [Nat.sub_eq_zero_of_le h4']
          rfl
        rw [e, List.append_nil] at hD
        rw [← hD]
        exact hP
    · intro σ H' Q1 Q2 h12 ⟨v1, e1, v2, e2, v3, e3, hz, i, j, e4, e5, k', e6, h⟩
      exact ⟨v1, e1, v2, e2, v3, e3, hz, i, j, e4, e5, k', e6, h12 _ _ h⟩
end
end Kg
namespace Kg
open PySem PySem.Spec PyProof.Rows L2
def wordsGo : Nat → List Str → List (Str × Nat × Nat)
  | _, [] => []
  | n, l :: ls => (lineWords l).map (fun p => (p.2, n, p.1)) ++ wordsGo (n + 1) ls
def linesOf (x : Str) : List Str := Txt.split x ("\n" : Str)
def textWords (x : Str) : List (Str × Nat × Nat) := wordsGo 1 (linesOf x)
def textEnd (x : Str) : Nat × Nat := ((linesOf x).length, ((linesOf x).getLastD ("" : Str)).length + 1)
/-- a text of a usual size -/
structure Fits (x : Str) : Prop where
  len : x.length ≤ 1000000
  ne : linesOf x ≠ []
  many : (linesOf x).length ≤ 1000000
  line : ∀ l ∈ linesOf x, l.length ≤ 1000000 ∧ (codeOfLine l).length ≤ 1000000
  word : (textWords x).length ≤ 1000000
/-- a word with its place, as tuples -/
def PR (H : Hp) (v : V) (p : Str × Nat × Nat) : Prop := ∃ T T2, v = .ref T ∧ H T = some (.tup [.str p.1, .ref T2]) ∧ H T2 = some (.tup [.int (p.2.1 : Nat), .int (p.2.2 : Nat)])
theorem PR.same {H H' : Hp} (s : Same H H') {v : V} {p : Str × Nat × Nat} (r : PR H v p) : PR H' v p := by
  obtain ⟨T, T2, e, h1, h2⟩ := r
  exact ⟨T, T2, e, s _ _ h1, s _ _ h2⟩
/-- the tuple of the words and the end -/
def WordsR (H : Hp) (a : Addr) (x : Str) : Prop := ∃ l T us, H a = some (.tup [.ref l, .ref T]) ∧ H l = some (.lst us) ∧ Paired (PR H) us (textWords x) ∧ H T = some (.tup [.int ((textEnd x).1 : Nat), .int ((textEnd x).2 : Nat)])
def spWords : Sp := fun vs H Q _ => ∃ x : Str, vs = [.str x] ∧ Fits x ∧ ∀ H' a, Same H H' → WordsR H' a x → Q (.ref a) H'
theorem free_of {H : Hp} {a l : Addr} {o : HO} (nl : upd H a o l = none) : H l = none := by
  by_cases z : l = a
  · rw [z, upd_same] at nl
    cases nl
  · rw [upd_ne z] at nl
    exact nl
theorem same_upd {H : Hp} {a : Addr} {o : HO} (n : H a = none) : Same H (upd H a o) := fun b u q => by
  rw [upd_ne (ne_of_none q n)]
  exact q
theorem paired_get {α β : Type} {R : α → β → Prop} : ∀ {l₁ : List α} {l₂ : List β} {i : Nat} {a : α}, Paired R l₁ l₂ → l₁[i]? = some a → ∃ b, l₂[i]? = some b ∧ R a b
  | _, _, i, a, .nil, e => by simp at e
  | _, _, 0, a, .cons r _, e => by simp at e; subst e; exact ⟨_, rfl, r⟩
  | _, _, i + 1, a, .cons _ t, e => by
    obtain ⟨b, h1, h2⟩ := paired_get (i := i) (a := a) t (by simpa using e)
    exact ⟨b, by simpa using h1, h2⟩
theorem lastD_eq {α : Type} {l : List α} {d : α} (h : l ≠ []) : l.getLastD d = l.getLast h := by
  cases l with
  | nil => exact absurd rfl h
  | cons a t => rfl
theorem take_more {α : Type} {l : List α} {i : Nat} {a : α} (h : l[i]? = some a) : l.take (i + 1) = l.take i ++ [a] := by
  rw [List.take_add_one, h]
  rfl
section
variable {P : Program} {w : World} {K : PySem.W.Frag} {mg : Str → Option Value} {base : Heap} {f fE fL : Addr} {fd fdE fdL : FuncData}
theorem scWords : FnScope ["text", "lines", "found", "number", "line", "column", "word"] ["text"] (defScope sWordsIn) := ⟨rfl, rfl, rfl, by decide +kernel, rfl, by decide +kernel, by decide +kernel⟩
theorem ok_words (F : FnP K "words_in" "words_in" sWordsIn f fd) (FL : FnP K "line_words" "line_words" sLineWords fL fdL) (FE : FnP K "word_end" "word_end" sWordEnd fE fdE) (gL : mg "line_words" = some (.ref fL)) (gE : mg "word_end" = some (.ref fE)) (gLen : mg "len" = none) (gEn : mg "enumerate" = none) {t2 : Tok} (gS : mg "WORD_SIGNS" = some (.str SIGNS t2)) :
    FnOk P w K mg base CX0 3 f fd ["text"] spWords := by
  have GL : FnOk P w K mg base CX0 2 fL fdL ["line"] spLine := ok_line FL FE gE gLen gS
  have bL : Binds K fdL ["line"] [] := FL.bindsN fun _ _ _ _ _ _ us hl => match us, hl with | [_], _ => rfl
  refine F.ok scWords (fun vs H Q E h => ?_) (fun cdv A outer s H vs Q E hr h => ?_)
  · obtain ⟨x, rfl, _⟩ := h
    rfl
  · obtain ⟨x, rfl, fx, k⟩ := h
    refine ⟨_, PSs.nox (pss_cons (ps_set (i := 1) scWords.nd rfl (Or.inl rfl) (pe_split (pv 0) pe_str))
      (pss_cons (ps_set (i := 2) scWords.nd rfl (Or.inl rfl) (pe_lst pa_nil))
      (pss_cons (ps_for PassesOwn.never rfl (pi_enumS rfl gEn (pa_cons (pv 1) pa_nil) (pk_cons pe_int pk_nil)) (pg_tup rfl (pgs_cons (pg_name (i := 3) scWords.nd rfl (Or.inl rfl)) (pgs_cons (pg_name (i := 4) scWords.nd rfl (Or.inl rfl)) pgs_nil)))
        (pss_one (ps_for PassesOwn.never rfl (pi_list (pe_call GL hr rfl gL FL.kp bL .nil pass0 (pa_cons (pv 4) pa_nil))) (pg_tup rfl (pgs_cons (pg_name (i := 5) scWords.nd rfl (Or.inl rfl)) (pgs_cons (pg_name (i := 6) scWords.nd rfl (Or.inl rfl)) pgs_nil)))
          (pss_one (ps_expr (pe_bm PySem.F.plainAttrs_list PySem.F.slot_list_append PySem.F.type_list_append mt_append (pv 2) (pa_cons (pe_tup (pa_cons (pv 6) (pa_cons (pe_tup (pa_cons (pv 3) (pa_cons (pv 5) pa_nil))) pa_nil))) pa_nil)))))))
      (pss_one (ps_ret (pe_tup (pa_cons (pv 2) (pa_cons (pe_tup (pa_cons (pe_callB call_len_seq (by rfl) gLen PySem.boot_len (pa_cons (pv 1) pa_nil)) (pa_cons (pe_op op_add (pe_callB call_len_str (by rfl) gLen PySem.boot_len (pa_cons (pe_ix ix_list (pv 1) (pe_un un_neg pe_int) (fun _ _ => rfl)) pa_nil)) pe_int) pa_nil))) pa_nil)))))))), ?_⟩
    refine ⟨_, rfl, ⟨_, rfl⟩, x, _, rfl, rfl, (by decide +kernel), Nat.le_trans (Nat.add_le_add_right fx.len 2) (by decide), fun ls nls => ?_⟩
    refine ⟨Nat.zero_le _, fun l nl => ?_⟩
    have nHl : H l = none := free_of nl
    have nll : ls ≠ l := fun z => by rw [z, upd_same] at nl; cases nl
    have s0 : Same H (upd (upd H ls (.lst ((linesOf x).map V.str))) l (.lst [])) := (same_upd nls).trans (same_upd nl)
    have hlen : ((linesOf x).map V.str).length = (linesOf x).length := by simp
    refine ⟨_, rfl, ls, (linesOf x).map V.str, 1, rfl, rfl, by decide, by decide, SqL.of (by rw [upd_ne nll]; exact upd_same), for_it (walk_enumS (K := K) (a := ls) (k := 1) (xs := (linesOf x).map V.str))
      (fun i σ H' => ∃ (us : List V) (done : List (Str × Nat × Nat)) (v3 v4 v5 v6 : Option V), σ = [some (.str x), some (.ref ls), some (.ref l), v3, v4, v5, v6] ∧ Same H H' ∧ H' ls = some (.lst ((linesOf x).map V.str)) ∧ H' l = some (.lst us) ∧ Paired (PR H') us done ∧
        done ++ wordsGo (i + 1) ((linesOf x).drop i) = textWords x)
      ⟨[], [], none, none, none, none, rfl, s0, by rw [upd_ne nll]; exact upd_same, upd_same, .nil, rfl⟩ (fun i σ H' _ ⟨_, _, _, _, _, _, _, _, h, _⟩ => SqL.of h) ?_ ?_⟩
    · rintro i v σ H1 H2 hi ⟨us, done, v3, v4, v5, v6, rfl, s1, hls, hL, hP, hD⟩ ⟨T, a, b, rfl, nT, rfl, ea, eb⟩
      cases ea
      replace eb : ((linesOf x).map V.str)[i]? = some b := eb
      rw [List.getElem?_map] at eb
      cases eln : (linesOf x)[i]? with
      | none => rw [eln] at eb; cases eb
      | some ln =>
        rw [eln] at eb
        cases eb
        have hmem : ln ∈ linesOf x := List.mem_of_getElem? eln
        obtain ⟨hf1, hf2⟩ := fx.line ln hmem
        have nlsT : ls ≠ T := ne_of_none hls nT
        have nlT : l ≠ T := ne_of_none hL nT
        have hdrop : (linesOf x).drop i = ln :: (linesOf x).drop (i + 1) := by
          obtain ⟨h1, h2⟩ := List.getElem?_eq_some_iff.mp eln
          rw [List.drop_eq_getElem_cons h1, h2]
        have hD2 : (done ++ (lineWords ln).map (fun p => (p.2, i + 1, p.1))) ++ wordsGo (i + 1 + 1) ((linesOf x).drop (i + 1)) = textWords x := by
          rw [hdrop] at hD
          rw [← hD]
          show _ = done ++ ((lineWords ln).map (fun p => (p.2, i + 1, p.1)) ++ wordsGo (i + 1 + 1) ((linesOf x).drop (i + 1)))
          simp
        refine ⟨T, _, rfl, SqT.of upd_same, rfl, _, _, rfl, _, _, rfl, rfl, ?_⟩
        have sT : Same H1 (upd H1 T (.tup [.int (1 + (i : Nat)), .str ln])) := same_upd nT
        refine ⟨_, rfl, ln, rfl, hf1, hf2, fun H3 q us1 s3 nq hq hP1 => ⟨q, rfl, ⟨_, SqL.of hq⟩, ?_⟩⟩
        have nHq : H1 q = none := sT.free nq
        have nqls : ls ≠ q := ne_of_none hls nHq
        have nql : l ≠ q := ne_of_none hL nHq
        have s13 : Same H1 H3 := sT.trans s3
        refine for_list (K := K) (a := q) (xs := us1) (fun j σ H' => ∃ (us2 : List V) (v5 v6 : Option V), σ = [some (.str x), some (.ref ls), some (.ref l), some (.int (1 + (i : Nat))), some (.str ln), v5, v6] ∧ Same H H' ∧ H' ls = some (.lst ((linesOf x).map V.str)) ∧ H' l = some (.lst us2) ∧
            H' q = some (.lst us1) ∧ Paired (WR H') us1 (lineWords ln) ∧ Paired (PR H') us2 (done ++ ((lineWords ln).take j).map (fun p => (p.2, i + 1, p.1))))
          ⟨us, v5, v6, rfl, s1.trans s13, s13 _ _ hls, s13 _ _ hL, hq, hP1, by simpa using paired_imp (fun a b r => PR.same s13 r) hP⟩ (fun j σ H' _ ⟨_, _, _, _, _, _, _, h, _⟩ => SqL.of h) ?_ ?_
        · rintro j y σ H4 hj ⟨us2, v5, v6, rfl, s4, hls4, hL4, hq4, hP4, hP5⟩
          obtain ⟨p, hp, T2, rfl, hT2⟩ := paired_get hP4 hj
          refine ⟨T2, _, rfl, SqT.of hT2, rfl, _, _, rfl, _, _, rfl, rfl, ?_⟩
          refine ⟨_, rfl, .inl ⟨rfl, _, SqL.of hL4⟩, _, rfl, _, rfl, _, rfl, (by show 2 ≤ sizeLine; decide), fun A2 nA2 => ⟨(by show 2 ≤ sizeLine; decide), fun A1 nA1 => ?_⟩⟩
          have nA1' : H4 A1 = none := free_of nA1
          have n12 : A2 ≠ A1 := fun z => by rw [z, upd_same] at nA1; cases nA1
          have nlA2 : l ≠ A2 := ne_of_none hL4 nA2
          have nlA1 : l ≠ A1 := ne_of_none hL4 nA1'
          have hb : us2.length < sizeLine := by
            have e1 := Paired.length hP5
            have e2 : (done ++ ((lineWords ln).take j).map (fun p => (p.2, i + 1, p.1))).length ≤ (textWords x).length := by
              rw [← hD2]
              simp only [List.length_append, List.length_map, List.length_take]
              omega
            have e3 := fx.word
            exact Nat.lt_of_le_of_lt (by omega : us2.length ≤ 1000000) (by decide)
          refine ⟨l, us2, _, rfl, rfl, by rw [upd_ne nlA1, upd_ne nlA2]; exact hL4, hb, ?_⟩
          have sA : Same H4 (upd (upd H4 A2 (.tup [.int (1 + (i : Nat)), .int (p.1 : Nat)])) A1 (.tup [.str p.2, .ref A2])) := (same_upd nA2).trans (same_upd nA1)
          have sL : ∀ b o, b ≠ l → H4 b = some o → upd (upd (upd H4 A2 (.tup [.int (1 + (i : Nat)), .int (p.1 : Nat)])) A1 (.tup [.str p.2, .ref A2])) l (.lst (us2 ++ [.ref A1])) b = some o := fun b o hb q => by
            rw [upd_ne hb]
            exact sA b o q
          refine ⟨_, _, _, rfl, fun b o q => sL b o (ne_of_none q nHl) (s4 b o q), sL _ _ nll hls4, upd_same, sL _ _ (Ne.symm nql) hq4, paired_imp (fun a b r => ?_) hP4, ?_⟩
          · obtain ⟨T3, e3, h3⟩ := r
            exact ⟨T3, e3, sL _ _ (ne_of h3 hL4 (fun z => by cases z)) h3⟩
          · rw [take_more hp, List.map_append, ← List.append_assoc]
            have hnew : PR (upd (upd (upd H4 A2 (.tup [.int (1 + (i : Nat)), .int (p.1 : Nat)])) A1 (.tup [.str p.2, .ref A2])) l (.lst (us2 ++ [.ref A1]))) (.ref A1) (p.2, i + 1, p.1) := by
              refine ⟨A1, A2, rfl, ?_, ?_⟩
              · rw [upd_ne (Ne.symm nlA1), upd_same]
              · rw [upd_ne (Ne.symm nlA2), upd_ne n12, upd_same]
                have e : (1 + ((i : Nat) : Int)) = (((i + 1 : Nat)) : Int) := by omega
                rw [e]
            refine paired_snoc hnew (paired_imp (fun a b r => ?_) hP5)
            obtain ⟨T3, T4, e3, h3, h4⟩ := r
            exact ⟨T3, T4, e3, sL _ _ (ne_of h3 hL4 (fun z => by cases z)) h3, sL _ _ (ne_of h4 hL4 (fun z => by cases z)) h4⟩
        · rintro σ H4 ⟨us2, v5, v6, rfl, s4, hls4, hL4, hq4, hP4, hP5⟩
          refine ⟨us2, _, _, _, _, _, rfl, s4, hls4, hL4, hP5, ?_⟩
          have e1 := Paired.length hP4
          rw [e1, List.take_length]
          exact hD2
    · rintro σ H1 ⟨us, done, v3, v4, v5, v6, rfl, s1, hls, hL, hP, hD⟩
      rw [hlen, List.drop_length] at hD
      have hD2 : done = textWords x := by simpa [wordsGo] using hD
      have hlast : atI ((linesOf x).map V.str) (-1) = some (.str ((linesOf x).getLastD ("" : Str))) := by
        have e : linesOf x = (linesOf x).dropLast ++ [(linesOf x).getLast fx.ne] := (List.dropLast_concat_getLast fx.ne).symm
        have e2 : (linesOf x).getLastD ("" : Str) = (linesOf x).getLast fx.ne := lastD_eq fx.ne
        rw [e2]
        conv => lhs; rw [e]
        rw [List.map_append]
        exact atI_last _ _
      have hlm : (linesOf x).getLastD ("" : Str) ∈ linesOf x := by
        rw [lastD_eq fx.ne]
        exact List.getLast_mem fx.ne
      refine ⟨_, rfl, _, rfl, ls, _, rfl, .inl (SqL.of hls), _, rfl, 1, rfl, ls, _, _, _, rfl, rfl, SqL.of hls, hlast, _, rfl, Nat.le_trans (fx.line _ hlm).1 (by decide), _, _, rfl, rfl, (by show 2 ≤ sizeLine; decide), fun A2 nA2 => ⟨(by show 2 ≤ sizeLine; decide), fun A1 nA1 => ?_⟩⟩
      have n12 : A2 ≠ A1 := fun z => by rw [z, upd_same] at nA1; cases nA1
      have sA := (same_upd (o := .tup [.int (((linesOf x).map V.str).length : Nat), .int ((((linesOf x).getLastD ("" : Str)).length : Nat) + 1)]) nA2).trans (same_upd (o := .tup [.ref l, .ref A2]) nA1)
      refine k _ A1 (s1.trans sA) ⟨l, A2, us, upd_same, sA _ _ hL, ?_, ?_⟩
      · rw [← hD2]
        exact paired_imp (fun a b r => PR.same sA r) hP
      · rw [upd_ne n12, upd_same, hlen]
        rfl
end
end Kg
namespace Kg
open PySem PySem.Spec PyProof.Rows L2
abbrev sPaired : Stmt := top 26
abbrev sNumber : Stmt := top 25
/-- two and two put together -/
def pairUp (z : Int) : List Int → List Int
  | x :: y :: r => (x + y * z) :: pairUp z r
  | l => l
def valAt (z : Int) : List Int → Int
  | [] => 0
  | x :: r => x + z * valAt z r
theorem pairUp_val (z : Int) : ∀ l : List Int, valAt (z * z) (pairUp z l) = valAt z l
  | [] => rfl
  | [x] => by simp [pairUp, valAt]
  | x :: y :: r => by
    have ih := pairUp_val z r
    simp only [pairUp, valAt, ih]
    rw [Int.mul_add, ← Int.mul_assoc, Int.mul_comm y z, Int.add_assoc]
theorem pairUp_length (z : Int) : ∀ l : List Int, (pairUp z l).length = (l.length + 1) / 2
  | [] => rfl
  | [x] => by simp [pairUp]
  | x :: y :: r => by
    have ih := pairUp_length z r
    simp only [pairUp, List.length_cons, ih]
    omega
/-- the i-th of what is put together -/
def pairHead (z : Int) (l : List Int) : List Int := (List.range (l.length / 2)).map fun i => l.getD (2 * i) 0 + l.getD (2 * i + 1) 0 * z
def pairRest (l : List Int) : List Int := if l.length % 2 = 1 then [l.getLastD 0] else []
theorem pairUp_eq (z : Int) : ∀ l : List Int, pairUp z l = pairHead z l ++ pairRest l
  | [] => rfl
  | [x] => by simp [pairUp, pairHead, pairRest]
  | x :: y :: r => by
    have ih := pairUp_eq z r
    have e1 : pairHead z (x :: y :: r) = (x + y * z) :: pairHead z r := by
      unfold pairHead
      have : (x :: y :: r).length / 2 = r.length / 2 + 1 := by simp only [List.length_cons]; omega
      rw [this, List.range_succ_eq_map, List.map_cons, List.map_map]
      congr 1
    have e2 : pairRest (x :: y :: r) = pairRest r := by
      unfold pairRest
      have : (x :: y :: r).length % 2 = r.length % 2 := by simp only [List.length_cons]; omega
      rw [this]
      cases r with
      | nil => rfl
      | cons a b => simp [List.getLastD_cons]
    rw [e1, e2, List.cons_append, ← ih]
    rfl
theorem rgc_two {L : Nat} (h : L ≤ 1000000) : RgC 0 ((L : Int) - 1) 2 (L / 2) := by
  have e : Builtin.Range.rangeSize 0 ((L : Int) - 1) 2 = ((L / 2 : Nat) : Int) := by
    unfold Builtin.Range.rangeSize
    rw [if_pos (by decide)]
    split <;> omega
  refine ⟨by decide, by decide, ?_, e⟩
  unfold Builtin.Range.small
  rw [e]
  simp only [Builtin.Range.rangeFitsLong, Bool.and_eq_true, Bool.or_eq_true, decide_eq_true_eq, beq_iff_eq, show (2 : Int) > 0 by decide, if_true]
  omega
/-- numbers below a power of two -/
def Below (m : Nat) (l : List Int) : Prop := ∀ x ∈ l, x.natAbs < 2 ^ m
def spPaired (K : PySem.W.Frag) : Sp := fun vs H Q _ => ∃ (a : Addr) (ns : List Int) (z : Int) (m k : Nat), vs = [.ref a, .int z] ∧ H a = some (.lst (ns.map V.int)) ∧ ns.length ≤ 1000000 ∧ Below m ns ∧ z.natAbs < 2 ^ k ∧ 0 < m ∧ 0 < k ∧ m + k ≤ 1000000 ∧
  ∀ H' p, Same H H' → H p = none → H' p = some (.lst ((pairUp z ns).map V.int)) → Q (.ref p) H'
theorem at_getD {ns : List Int} {j : Nat} (h : j < ns.length) : atI (ns.map V.int) (j : Int) = some (.int (ns.getD j 0)) := by
  refine atI_nat ?_
  rw [List.getElem?_map, List.getElem?_eq_getElem h]
  simp [List.getD, h]
theorem getD_mem {ns : List Int} {j : Nat} (h : j < ns.length) : ns.getD j 0 ∈ ns := by
  have : ns.getD j 0 = ns[j] := by simp [List.getD, h]
  rw [this]
  exact List.getElem_mem h
theorem scPaired : FnScope ["parts", "scale", "made", "at"] ["parts", "scale"] (defScope sPaired) := ⟨rfl, rfl, rfl, by decide +kernel, rfl, by decide +kernel, by decide +kernel⟩
section
variable {P : Program} {w : World} {K : PySem.W.Frag} {mg : Str → Option Value} {base : Heap} {f : Addr} {fd : FuncData}
theorem ok_paired (F : FnP K "paired" "paired" sPaired f fd) (gL : mg "len" = none) (gR : mg "range" = none) : FnOk P w K mg base CX0 1 f fd ["parts", "scale"] (spPaired K) := by
  refine F.ok scPaired (fun vs H Q E h => ?_) (fun cdv A outer s H vs Q E hr h => ?_)
  · obtain ⟨a, ns, z, m, k, rfl, _⟩ := h
    rfl
  · obtain ⟨a, ns, z, m, k, rfl, ha, hl, hm, hz, m0, k0, hmk, q⟩ := h
    refine ⟨_, PSs.nox (pss_cons (ps_setLc (i := 2) (own := [("at", 3)]) (g := gName 3) (tt := tYes) rfl scPaired.nd rfl rfl (sw_true rfl rfl rfl (by decide +kernel)) (pi_range3 rfl gR (pa_cons pe_int (pa_cons (pe_op op_sub (pe_callB call_len_seq (by rfl) gL PySem.boot_len (pa_cons (pv 0) pa_nil)) pe_int) (pa_cons pe_int pa_nil))))
        (blkOk_by (own := [("at", 3)]) (N := ["parts", "scale", "made", "at"]) (sc := defScope sPaired) (by decide +kernel)) (fun _ _ _ _ _ => pg_name (i := 3) scPaired.nd rfl (Or.inl rfl)) (fun _ _ _ _ _ => pts_nil)
        (fun _ _ _ _ _ => pe_op op_add (pe_ix (show IxR _ (rIxL K) from ix_list) (pv 0) (pv 3) (fun _ _ => rfl)) (pe_op op_mulW (pe_ix (show IxR _ (rIxL K) from ix_list) (pv 0) (pe_op op_add (pv 3) pe_int) (fun _ _ => rfl)) (pv 1))))
      (pss_cons (ps_if (pt_cmpR op_eq (pe_op op_mod (pe_callB call_len_seq (by rfl) gL PySem.boot_len (pa_cons (pv 0) pa_nil)) pe_int) pe_int (nomark _))
        (pss_one (ps_expr (pe_bm PySem.F.plainAttrs_list PySem.F.slot_list_append PySem.F.type_list_append mt_append (pv 2) (pa_cons (pe_ix ix_list (pv 0) (pe_un un_neg pe_int) (fun _ _ => rfl)) pa_nil)))) pss_nil)
      (pss_one (ps_ret (pv 2))))), ?_⟩
    have hlen : (ns.map V.int).length = ns.length := by simp
    have sq : SqL K H a (ns.map V.int) := SqL.of ha
    refine ⟨_, rfl, a, _, rfl, .inl sq, _, _, rfl, rfl, 0, _, 2, ns.length / 2, rfl, by rw [hlen]; exact rgc_two hl, fun D nD => lc_it (walk_rangeC (lo := 0) (c := 2) (n := ns.length / 2))
      (fun i G => Same H G ∧ G D = some (.lst (((pairHead z ns).take i).map V.int))) ?_ (fun _ _ _ _ => True.intro) ?_ ?_⟩
    · exact ⟨same_upd nD, upd_same⟩
    · rintro i v G G2 hi ⟨s1, d1⟩ ⟨rfl, rfl⟩
      refine ⟨rfl, ?_⟩
      refine yesI ?_
      have h0 : 2 * i < ns.length := by omega
      have h1 : 2 * i + 1 < ns.length := by omega
      have e0 : (0 : Int) + (i : Int) * 2 = ((2 * i : Nat) : Int) := by omega
      have e1 : (0 : Int) + (i : Int) * 2 + 1 = ((2 * i + 1 : Nat) : Int) := by omega
      have sq1 : SqL K G2 a (ns.map V.int) := SqL.of (s1 _ _ ha)
      refine ⟨_, rfl, _, rfl, a, _, _, .int (ns.getD (2 * i) 0), rfl, rfl, sq1, by rw [e0]; exact at_getD h0, ?_⟩
      refine ⟨_, rfl, _, rfl, _, _, rfl, rfl, a, _, _, .int (ns.getD (2 * i + 1) 0), rfl, rfl, sq1, by rw [e1]; exact at_getD h1, ?_⟩
      refine ⟨_, rfl, _, _, rfl, rfl, wide_mul (hm _ (getD_mem h1)) hz m0 k0 hmk, ?_⟩
      refine ⟨_, _, rfl, rfl, _, d1, ?_, ?_, ?_⟩
      · rw [List.length_map, List.length_take]
        exact Nat.lt_of_le_of_lt (Nat.min_le_left _ _) (Nat.lt_of_le_of_lt (show i ≤ 1000000 by omega) (by decide))
      · exact fun b o e => by
          rw [upd_ne (ne_of_none e nD)]
          exact s1 b o e
      · rw [upd_same, List.take_add_one]
        have e : (pairHead z ns)[i]? = some (ns.getD (2 * i) 0 + ns.getD (2 * i + 1) 0 * z) := by
          unfold pairHead
          rw [List.getElem?_map, List.getElem?_range hi]
          rfl
        rw [e]
        simp
    · rintro G ⟨s1, d1⟩
      have hh : (pairHead z ns).length = ns.length / 2 := by unfold pairHead; simp
      rw [← hh, List.take_length] at d1
      have sq1 : SqL K G a (ns.map V.int) := SqL.of (s1 _ _ ha)
      refine ⟨_, rfl, a, _, rfl, .inl sq1, _, _, rfl, rfl, (by show (0 : Int) < 2; decide), rfl, _, rfl, ?_⟩
      rw [hlen]
      refine ifD (fun h => ?_) fun h => ?_
      · have hodd : ns.length % 2 = 1 := by
          have := V.int.inj h
          omega
        have hne : ns ≠ [] := fun z => by rw [z] at hodd; cases hodd
        have er : pairRest ns = [ns.getLastD 0] := by unfold pairRest; rw [if_pos hodd]
        have hlast : atI (ns.map V.int) (-1) = some (.int (ns.getLastD 0)) := by
          have e : ns = ns.dropLast ++ [ns.getLast hne] := (List.dropLast_concat_getLast hne).symm
          rw [lastD_eq hne]
          conv => lhs; rw [e]
          rw [List.map_append]
          exact atI_last _ _
        refine ⟨_, rfl, .inl ⟨rfl, _, SqL.of d1⟩, _, rfl, 1, rfl, a, _, _, _, rfl, rfl, sq1, hlast, D, _, _, rfl, rfl, d1, ?_, ?_⟩
        · rw [List.length_map, hh]
          exact Nat.lt_of_le_of_lt (show ns.length / 2 ≤ 1000000 by omega) (by decide)
        · refine ⟨_, rfl, q _ D (fun b o e => ?_) nD ?_⟩
          · rw [upd_ne (ne_of_none e nD)]
            exact s1 b o e
          · rw [upd_same, pairUp_eq, er]
            simp
      · have heven : ¬ ns.length % 2 = 1 := fun h2 => h (congrArg V.int (by omega))
        have er : pairRest ns = [] := by unfold pairRest; rw [if_neg heven]
        refine ⟨_, rfl, q _ D s1 nD ?_⟩
        rw [d1, pairUp_eq, er, List.append_nil]
end
end Kg
set_option exponentiation.threshold 100000
namespace Kg
open PySem PySem.Spec PyProof.Rows L2
/-! ### figures by chunks of 64 -/
abbrev dv (cs : List Nat) : Nat := NumText.digitsVal cs
theorem dv_fold : ∀ (b : List Nat) (acc : Nat), b.foldl (fun acc c => acc * 10 + (c - 48)) acc = acc * 10 ^ b.length + dv b
  | [], acc => by
    show acc = acc * 10 ^ 0 + 0
    rw [Nat.pow_zero, Nat.mul_one, Nat.add_zero]
  | c :: b, acc => by
    have h1 := dv_fold b (acc * 10 + (c - 48))
    have h2 : dv (c :: b) = (0 * 10 + (c - 48)) * 10 ^ b.length + dv b := dv_fold b (0 * 10 + (c - 48))
    rw [List.foldl_cons, h1, h2, List.length_cons, Nat.pow_succ, Nat.add_mul, Nat.zero_mul, Nat.zero_add, Nat.add_assoc, Nat.mul_assoc, Nat.mul_comm 10]
theorem dv_cons (c : Nat) (b : List Nat) : dv (c :: b) = (c - 48) * 10 ^ b.length + dv b := by
  have h2 : dv (c :: b) = (0 * 10 + (c - 48)) * 10 ^ b.length + dv b := dv_fold b (0 * 10 + (c - 48))
  rw [h2, Nat.zero_mul, Nat.zero_add]
theorem dv_append (a b : List Nat) : dv (a ++ b) = dv a * 10 ^ b.length + dv b := by
  show (a ++ b).foldl _ 0 = _
  rw [List.foldl_append]
  exact dv_fold b _
def chunk (cs : List Nat) (i : Nat) : List Nat := (cs.take (cs.length - 64 * i)).drop (cs.length - 64 * i - 64)
def chunks (cs : List Nat) : List Int := (List.range ((cs.length + 63) / 64)).map fun i => ((dv (chunk cs i) : Nat) : Int)
theorem chunks_val : ∀ (n : Nat) (cs : List Nat), cs.length ≤ n → valAt (10 ^ 64) (chunks cs) = ((dv cs : Nat) : Int)
  | 0, cs, h => by
    have e : cs = [] := List.length_eq_zero_iff.mp (by omega)
    subst e
    rfl
  | n + 1, cs, h => by
    by_cases hz : cs = []
    · subst hz
      rfl
    have hl : 0 < cs.length := List.length_pos_iff.mpr hz
    have ih := chunks_val n (cs.take (cs.length - 64)) (by rw [List.length_take]; omega)
    have e1 : (cs.length + 63) / 64 = ((cs.take (cs.length - 64)).length + 63) / 64 + 1 := by
      rw [List.length_take]
      omega
    have e2 : chunks cs = ((dv (chunk cs 0) : Nat) : Int) :: chunks (cs.take (cs.length - 64)) := by
      unfold chunks
      rw [e1, List.range_succ_eq_map, List.map_cons, List.map_map]
      congr 1
      refine List.map_congr_left fun i hi => ?_
      have : chunk cs (i + 1) = chunk (cs.take (cs.length - 64)) i := by
        unfold chunk
        rw [List.length_take, List.take_take]
        have a1 : cs.length - 64 * (i + 1) = min (cs.length - 64) cs.length - 64 * i := by omega
        have a2 : min (min (cs.length - 64) cs.length - 64 * i) (cs.length - 64) = min (cs.length - 64) cs.length - 64 * i := by omega
        rw [a1, a2]
      show ((dv (chunk cs (i + 1)) : Nat) : Int) = _
      rw [this]
    rw [e2]
    unfold valAt
    rw [ih]
    have e3 : chunk cs 0 = cs.drop (cs.length - 64) := by
      unfold chunk
      simp
    have e4 : cs = cs.take (cs.length - 64) ++ cs.drop (cs.length - 64) := (List.take_append_drop _ _).symm
    have e5 : dv cs = dv (cs.take (cs.length - 64)) * 10 ^ (cs.drop (cs.length - 64)).length + dv (cs.drop (cs.length - 64)) := by
      conv => lhs; rw [e4]
      exact dv_append _ _
    rw [e3, e5, List.length_drop]
    by_cases hs : 64 ≤ cs.length
    · have : cs.length - (cs.length - 64) = 64 := by omega
      rw [this]
      have e6 : ((10 ^ 64 : Nat) : Int) = (10 : Int) ^ 64 := by decide +kernel
      rw [Int.natCast_add, Int.natCast_mul, e6, Int.mul_comm, Int.add_comm]
    · have : cs.length - 64 = 0 := by omega
      rw [this, List.take_zero, show dv [] = 0 from rfl, Nat.zero_mul, Nat.zero_add]
      show _ + (10 : Int) ^ 64 * (0 : Int) = _
      rw [Int.mul_zero, Int.add_zero]
theorem dv_lt : ∀ cs : List Nat, NumText.AllDigits cs → dv cs < 10 ^ cs.length
  | [], _ => by decide
  | c :: b, h => by
    have h1 := dv_lt b h.tail
    have h2 := h.head
    rw [dv_cons, List.length_cons, Nat.pow_succ]
    have h3 : (c - 48) * 10 ^ b.length ≤ 9 * 10 ^ b.length := Nat.mul_le_mul_right _ (by omega)
    omega
/-- the value of a word that is an integer -/
def numVal (x : Str) : Int := if Txt.startswith x ("-" : Str) then -((dv (Txt.removeprefix x ("-" : Str)).cps.toList : Nat) : Int) else ((dv (Txt.removeprefix x ("-" : Str)).cps.toList : Nat) : Int)
/-- a word with a sign ahead, or without -/
theorem minus_cases (x : Str) : (Txt.startswith x ("-" : Str) = true ∧ x.cps.toList = 45 :: (Txt.removeprefix x ("-" : Str)).cps.toList) ∨ (Txt.startswith x ("-" : Str) = false ∧ Txt.removeprefix x ("-" : Str) = x) := by
  have hm : ("-" : Str).cps = #[45] := by decide +kernel
  have hl : ("-" : Str).length = 1 := by decide +kernel
  have e : Txt.startswith x ("-" : Str) = (decide (0 + ("-" : Str).length ≤ x.length) && PySem.Builtin.Str.subAt x ("-" : Str) 0) := rfl
  rw [PySem.StrLaws.removeprefix_eq, ← e]
  cases h : Txt.startswith x ("-" : Str) with
  | false => exact .inr ⟨rfl, if_neg (by decide)⟩
  | true =>
    refine .inl ⟨rfl, ?_⟩
    rw [if_pos rfl]
    rw [e, Bool.and_eq_true] at h
    obtain ⟨h1, h2⟩ := h
    unfold PySem.Builtin.Str.subAt at h2
    rw [hl, hm] at h2
    obtain ⟨⟨l⟩⟩ := x
    cases l with
    | nil => 
      rw [hl] at h1
      exact absurd (of_decide_eq_true h1) (by decide)
    | cons c r =>
      have h3 : c = 45 := by simpa using h2
      rw [h3]
      show 45 :: r = 45 :: (((45 :: r).drop ("-" : Str).length).take ((45 :: r).length - ("-" : Str).length))
      rw [hl]
      simp
theorem int_word {x : Str} (h1 : (Txt.removeprefix x ("-" : Str)).cps.toList ≠ []) (h2 : NumText.AllDigits (Txt.removeprefix x ("-" : Str)).cps.toList) (h3 : x.length ≤ 4300) : PySem.intText? x = some (numVal x) := by
  unfold numVal
  rcases minus_cases x with ⟨a, b⟩ | ⟨a, b⟩
  · rw [a, if_pos rfl]
    exact intText_neg b h2 h1 h3
  · rw [a, if_neg (by decide)]
    rw [b] at h1 h2 ⊢
    exact intText_digits h2 h1 h3
def spNumber : Sp := fun vs H Q _ => ∃ x fs : Str, vs = [.str x] ∧ x.length ≤ 10000 ∧ fs = Txt.removeprefix x ("-" : Str) ∧ fs.length ≤ 10000 ∧ fs.cps.toList ≠ [] ∧ NumText.AllDigits fs.cps.toList ∧ ∀ H', Same H H' → Q (.int (numVal x)) H'
theorem scNumber : FnScope ["word", "figures", "parts", "scale", "end"] ["word"] (defScope sNumber) := ⟨rfl, rfl, rfl, by decide +kernel, rfl, by decide +kernel, by decide +kernel⟩
theorem cut_chunk {fs : Str} {i : Nat} {lo hi : Int} (h1 : hi = ((fs.length - 64 * i : Nat) : Int)) (h2 : lo = ((fs.length - 64 * i - 64 : Nat) : Int)) : (cutS fs (some lo) (some hi)).cps.toList = chunk fs.cps.toList i := by
  have hl : fs.cps.toList.length = fs.length := Array.length_toList
  unfold cutS chunk
  rw [h1, h2, HT.sIx_nat, HT.sIx_nat, hl]
  have a1 : min (fs.length - 64 * i - 64) fs.length = fs.length - 64 * i - 64 := by omega
  have a2 : min (fs.length - 64 * i) fs.length = fs.length - 64 * i := by omega
  show List.take _ (List.drop _ _) = _
  rw [a1, a2, List.drop_take]
theorem chunk_len {cs : List Nat} {i : Nat} (h : 64 * i < cs.length) : 0 < (chunk cs i).length ∧ (chunk cs i).length ≤ 64 := by
  unfold chunk
  rw [List.length_drop, List.length_take]
  omega
theorem chunk_digits {cs : List Nat} {i : Nat} (h : NumText.AllDigits cs) : NumText.AllDigits (chunk cs i) := fun c hc => h c (List.mem_of_mem_take (List.mem_of_mem_drop hc))
theorem rgc_down {L : Nat} (h : L ≤ 1000000) : RgC (L : Int) 0 (-64) ((L + 63) / 64) := by
  have e : Builtin.Range.rangeSize (L : Int) 0 (-64) = (((L + 63) / 64 : Nat) : Int) := by
    unfold Builtin.Range.rangeSize
    rw [if_neg (by decide), show (-(-64) : Int) = 64 from rfl]
    split <;> omega
  refine ⟨by decide, by decide, ?_, e⟩
  unfold Builtin.Range.small
  rw [e]
  simp only [Builtin.Range.rangeFitsLong, Bool.and_eq_true, Bool.or_eq_true, decide_eq_true_eq, beq_iff_eq, show ¬ ((-64 : Int) > 0) by decide, if_false]
  omega
def NonNeg (l : List Int) : Prop := ∀ x ∈ l, 0 ≤ x
theorem valAt_nn {z : Int} (hz : 1 ≤ z) : ∀ l : List Int, NonNeg l → 0 ≤ valAt z l ∧ ∀ x ∈ l, x ≤ valAt z l
  | [], _ => ⟨Int.le_refl 0, fun x h => by cases h⟩
  | a :: r, h => by
    have ih := valAt_nn hz r fun x hx => h x (List.mem_cons_of_mem _ hx)
    have h0 := h a List.mem_cons_self
    have h1 : valAt z r ≤ z * valAt z r := by
      have := Int.mul_le_mul_of_nonneg_right hz ih.1
      rw [Int.one_mul] at this
      exact this
    show 0 ≤ a + z * valAt z r ∧ ∀ x ∈ a :: r, x ≤ a + z * valAt z r
    refine ⟨by have := ih.1; omega, fun x hx => ?_⟩
    rcases List.mem_cons.mp hx with e | hx
    · rw [e]
      have := ih.1
      omega
    · have := ih.2 x hx
      omega
theorem pairUp_nn {z : Int} (hz : 0 ≤ z) : ∀ l : List Int, NonNeg l → NonNeg (pairUp z l)
  | [], h => h
  | [x], h => by simpa [pairUp] using h
  | x :: y :: r, h => by
    have ih := pairUp_nn hz r fun u hu => h u (List.mem_cons_of_mem _ (List.mem_cons_of_mem _ hu))
    have hx := h x List.mem_cons_self
    have hy := h y (List.mem_cons_of_mem _ List.mem_cons_self)
    intro u hu
    have hu2 : u ∈ (x + y * z) :: pairUp z r := hu
    rcases List.mem_cons.mp hu2 with e | hu2
    · rw [e]
      have := Int.mul_nonneg hy hz
      omega
    · exact ih u hu2
theorem ten_big : (10 : Nat) ^ 10000 < 2 ^ 33220 := by decide +kernel
theorem scale_big {e : Nat} (h0 : 0 < e) (h : e ≤ 157) : (((10 : Int) ^ 64) ^ e).natAbs < 2 ^ 33441 := by
  rw [Int.natAbs_pow]
  have h1 : ((10 : Int) ^ 64).natAbs < 2 ^ 213 := by decide +kernel
  refine Nat.lt_of_lt_of_le (Nat.pow_lt_pow_left h1 (by omega)) ?_
  rw [← Nat.pow_mul]
  exact Nat.pow_le_pow_right (by decide) (by omega)
theorem scale_pos (e : Nat) : (1 : Int) ≤ ((10 : Int) ^ 64) ^ e := by
  have : (0 : Int) < ((10 : Int) ^ 64) ^ e := Int.pow_pos (by decide +kernel)
  omega
section
variable {P : Program} {w : World} {K : PySem.W.Frag} {mg : Str → Option Value} {base : Heap} {f fP : Addr} {fd fdP : FuncData}
theorem ok_number (F : FnP K "number_of" "number_of" sNumber f fd) (FP : FnP K "paired" "paired" sPaired fP fdP) (gP : mg "paired" = some (.ref fP)) (gL : mg "len" = none) (gR : mg "range" = none) (gM : mg "max" = none) (gI : mg "int" = none) {t1 t2 : Tok} (gC : mg "CHUNK" = some (.int 64 t1)) (gS : mg "CHUNK_SCALE" = some (.int (10 ^ 64) t2)) :
    FnOk P w K mg base CX0 2 f fd ["word"] spNumber := by
  have GP : FnOk P w K mg base CX0 1 fP fdP ["parts", "scale"] (spPaired K) := ok_paired FP gL gR
  have bP : Binds K fdP ["parts", "scale"] [] := FP.bindsN fun _ _ _ _ _ _ us hl => match us, hl with | [_, _], _ => rfl
  refine F.ok scNumber (fun vs H Q E h => ?_) (fun cdv A outer s H vs Q E hr h => ?_)
  · obtain ⟨x, fs, rfl, _⟩ := h
    rfl
  · obtain ⟨x, fs, rfl, hx, hf, hl, hne, hd, k⟩ := h
    refine ⟨_, PSs.nox (pss_cons (ps_if (pt_cmpR op_le (pe_callB call_len_str (by rfl) gL PySem.boot_len (pa_cons (pv 0) pa_nil)) (pgI gC) (nomark _)) (pss_one (ps_ret (pe_callTy call_int_str (by rfl) gI (by decide +kernel) (pa_cons (pv 0) pa_nil)))) pss_nil)
      (pss_cons (ps_set (i := 1) scNumber.nd rfl (Or.inr rfl) (pe_m1 PySem.F.slot_str_removeprefix PySem.F.type_str_removeprefix mt_removeprefix (pv 0) pe_str))
      (pss_cons (ps_setLc (i := 2) (own := [("end", 4)]) (g := gName 4) (tt := tYes) rfl scNumber.nd rfl rfl (sw_true rfl rfl rfl (by decide +kernel)) (pi_range3 rfl gR (pa_cons (pe_callB call_len_str (by rfl) gL PySem.boot_len (pa_cons (pv 1) pa_nil)) (pa_cons pe_int (pa_cons (pe_un un_neg (pgI gC)) pa_nil))))
        (blkOk_by (own := [("end", 4)]) (N := ["word", "figures", "parts", "scale", "end"]) (sc := defScope sNumber) (by decide +kernel)) (fun _ _ _ _ _ => pg_name (i := 4) scNumber.nd rfl (Or.inl rfl)) (fun _ _ _ _ _ => pts_nil)
        (fun _ _ _ _ _ => pe_callTy call_int_str (by rfl) gI (by decide +kernel) (pa_cons (pe_slice sl_str (pv 1) (po_some (pe_callB (call_max2 rfl) (by rfl) gM (by decide +kernel) (pa_cons (pe_op op_sub (pv 4) (pgI gC)) (pa_cons pe_int pa_nil)))) (po_some (pv 4))) pa_nil)))
      (pss_cons (ps_set (i := 3) scNumber.nd rfl (Or.inl rfl) (pgI gS))
      (pss_cons (ps_while PassesOwn.never (pt_cmpR op_gt (pe_callB call_len_seq (by rfl) gL PySem.boot_len (pa_cons (pv 2) pa_nil)) pe_int (nomark _))
        (pss_cons (ps_set (i := 2) scNumber.nd rfl (Or.inl rfl) (pe_call GP hr rfl gP FP.kp bP .nil pass0 (pa_cons (pv 2) (pa_cons (pv 3) pa_nil))))
        (pss_one (ps_set (i := 3) scNumber.nd rfl (Or.inl rfl) (pe_op op_mulW (pv 3) (pv 3))))))
      (pss_one (ps_ret (pe_ifExp (pt_val (pe_m1 PySem.F.slot_str_startswith PySem.F.type_str_startswith mt_startswith (pv 0) pe_str)) (pe_un un_neg (pe_ix ix_list (pv 2) pe_int (fun _ _ => rfl))) (pe_ix ix_list (pv 2) pe_int (fun _ _ => rfl)))))))))), ?_⟩
    have big : 10000 ≤ sizeLine := by decide
    refine ⟨_, rfl, _, rfl, Nat.le_trans hx big, _, _, rfl, rfl, _, rfl, ?_⟩
    refine ifD (fun h64 => ?_) (fun _ => ?_)
    · have h64' : x.length ≤ 64 := by exact_mod_cast h64
      rw [hf] at hne hd
      exact ⟨_, rfl, x, numVal x, rfl, int_word hne hd (Nat.le_trans h64' (by decide)), Nat.le_trans h64' (by decide), k _ (Same.refl _)⟩
    refine ⟨_, rfl, ⟨_, rfl⟩, x, _, rfl, rfl, Nat.le_trans hx big, ?_⟩
    rw [← hf]
    generalize hcs : fs.cps.toList = cs at hne hd
    have hL : fs.length = cs.length := by rw [← hcs]; exact Array.length_toList.symm
    have hpos : 0 < cs.length := List.length_pos_iff.mpr hne
    refine ⟨_, rfl, fs, rfl, Nat.le_trans hl big, 64, rfl, _, 0, -64, (fs.length + 63) / 64, rfl, rgc_down (by omega), fun D nD => lc_it (walk_rangeC (lo := (fs.length : Int)) (c := -64) (n := (fs.length + 63) / 64))
      (fun i G => Same H G ∧ G D = some (.lst (((chunks cs).take i).map V.int))) ?_ (fun _ _ _ _ => True.intro) ?_ ?_⟩
    · exact ⟨same_upd nD, upd_same⟩
    · rintro i v G G2 hi ⟨s1, d1⟩ ⟨rfl, rfl⟩
      refine ⟨rfl, ?_⟩
      refine yesI ?_
      have hi2 : 64 * i < fs.length := by omega
      have e1 : (fs.length : Int) + (i : Int) * -64 = ((fs.length - 64 * i : Nat) : Int) := by omega
      have e2 : (if (0 : Int) > (fs.length : Int) + (i : Int) * -64 - 64 then (0 : Int) else (fs.length : Int) + (i : Int) * -64 - 64) = ((fs.length - 64 * i - 64 : Nat) : Int) := by
        split <;> omega
      refine ⟨_, rfl, _, rfl, _, _, rfl, rfl, _, _, rfl, _, rfl, _, rfl, _, rfl, fs, rfl, Nat.le_trans hl big, ?_⟩
      have hc : (cutS fs (some (if (0 : Int) > (fs.length : Int) + (i : Int) * -64 - 64 then (0 : Int) else (fs.length : Int) + (i : Int) * -64 - 64)) (some ((fs.length : Int) + (i : Int) * -64))).cps.toList = chunk cs i := by
        rw [← hcs]
        exact cut_chunk e1 e2
      have cl := chunk_len (cs := cs) (i := i) (by omega)
      have hcl : ∀ y : Str, y.cps.toList = chunk cs i → y.length ≤ 64 := fun y hy => by
        have : y.length = y.cps.toList.length := Array.length_toList.symm
        rw [this, hy]
        exact cl.2
      refine ⟨_, ((dv (chunk cs i) : Nat) : Int), rfl, ?_, Nat.le_trans (hcl _ hc) (by decide), ?_⟩
      · have z := intText_digits (x := cutS fs (some (if (0 : Int) > (fs.length : Int) + (i : Int) * -64 - 64 then (0 : Int) else (fs.length : Int) + (i : Int) * -64 - 64)) (some ((fs.length : Int) + (i : Int) * -64))) (by rw [hc]; exact chunk_digits hd) (by rw [hc]; exact List.length_pos_iff.mp cl.1) (Nat.le_trans (hcl _ hc) (by decide))
        rw [hc] at z
        exact z
      refine ⟨_, d1, ?_, ?_, ?_⟩
      · rw [List.length_map, List.length_take]
        exact Nat.lt_of_le_of_lt (Nat.min_le_left _ _) (Nat.lt_of_le_of_lt (show i ≤ 10000 by omega) (by decide))
      · exact fun b o e => by
          rw [upd_ne (ne_of_none e nD)]
          exact s1 b o e
      · rw [upd_same, List.take_add_one]
        have e : (chunks cs)[i]? = some ((dv (chunk cs i) : Nat) : Int) := by
          unfold chunks
          rw [← hL, List.getElem?_map, List.getElem?_range hi]
          rfl
        rw [e]
        simp
    · rintro G ⟨s1, d1⟩
      have hn : (chunks cs).length = (fs.length + 63) / 64 := by unfold chunks; rw [List.length_map, List.length_range, hL]
      rw [← hn, List.take_length] at d1
      have hN : (chunks cs).length ≤ 157 := by rw [hn]; omega
      have hV := chunks_val cs.length cs (Nat.le_refl _)
      have dl : dv cs < 10 ^ 10000 := Nat.lt_of_lt_of_le (dv_lt cs hd) (Nat.pow_le_pow_right (by decide) (by omega))
      refine while_by (fun σ G => ∃ (D2 : Addr) (ns : List Int) (e : Nat) (v4 : Option V), σ = [some (.str x), some (.str fs), some (.ref D2), some (.int (((10 : Int) ^ 64) ^ e)), v4] ∧ Same H G ∧ G D2 = some (.lst (ns.map V.int)) ∧ ns ≠ [] ∧ NonNeg ns ∧
          valAt (((10 : Int) ^ 64) ^ e) ns = ((dv cs : Nat) : Int) ∧ 0 < e ∧ e * (ns.length - 1) ≤ 157 ∧ ns.length ≤ 157)
        (fun σ G => match σ with | [_, _, some (.ref D2), _, _] => (match G D2 with | some (.lst us) => us.length | _ => 0) | _ => 0) ?_ ?_ ?_
      · refine ⟨D, chunks cs, 1, _, rfl, s1, d1, ?_, ?_, by rw [Int.pow_one]; exact hV, by decide, by omega, hN⟩
        · intro z
          rw [z] at hn
          have : (0 : Nat) = (fs.length + 63) / 64 := hn
          omega
        · intro u hu
          unfold chunks at hu
          obtain ⟨i, _, e⟩ := List.mem_map.mp hu
          rw [← e]
          exact Int.natCast_nonneg _
      · rintro σ G2 ⟨D2, ns, e, v4, rfl, s2, d2, ne, nn, va, e0, eN, lN⟩
        have hlen : (ns.map V.int).length = ns.length := by simp
        refine ⟨_, rfl, D2, _, rfl, .inl (SqL.of d2), _, _, rfl, rfl, _, rfl, ?_⟩
        rw [hlen]
        refine ifD (fun h => ?_) fun h => ?_
        · have h2 : 2 ≤ ns.length := by omega
          have e157 : e ≤ 157 := Nat.le_trans (Nat.le_mul_of_pos_right e (by omega)) eN
          have below : Below 33220 ns := fun u hu => by
            have b1 := (valAt_nn (scale_pos e) ns nn).2 u hu
            have b0 := nn u hu
            rw [va] at b1
            have b2 : u.natAbs ≤ dv cs := by omega
            exact Nat.lt_of_le_of_lt b2 (Nat.lt_trans dl ten_big)
          refine ⟨_, rfl, _, rfl, D2, ns, _, 33220, 33441, rfl, d2, by omega, below, scale_big e0 e157, by decide, by decide, by decide, fun G3 D3 s3 n3 d3 => ?_⟩
          refine ⟨_, rfl, _, rfl, _, _, rfl, rfl, wide_mul (scale_big e0 e157) (scale_big e0 e157) (by decide) (by decide) (by decide), ?_⟩
          have pl := pairUp_length (((10 : Int) ^ 64) ^ e) ns
          have ez : ((10 : Int) ^ 64) ^ e * ((10 : Int) ^ 64) ^ e = ((10 : Int) ^ 64) ^ (e + e) := (Int.pow_add _ _ _).symm
          refine ⟨⟨D3, pairUp (((10 : Int) ^ 64) ^ e) ns, e + e, v4, by rw [← ez]; rfl, s2.trans s3, d3, ?_, pairUp_nn (Int.le_trans (by decide) (scale_pos e)) ns nn, by rw [← ez, pairUp_val]; exact va, by omega, ?_, by omega⟩, ?_⟩
          · intro z
            rw [z] at pl
            have : (0 : Nat) = (ns.length + 1) / 2 := pl
            omega
          · rw [pl]
            have q1 : (ns.length + 1) / 2 - 1 ≤ (ns.length - 1) / 2 := by omega
            have q2 : (e + e) * ((ns.length + 1) / 2 - 1) ≤ (e + e) * ((ns.length - 1) / 2) := Nat.mul_le_mul_left _ q1
            have q3 : (e + e) * ((ns.length - 1) / 2) = e * (2 * ((ns.length - 1) / 2)) := by
              rw [← Nat.two_mul, Nat.mul_comm 2 e, Nat.mul_assoc]
            have q4 : e * (2 * ((ns.length - 1) / 2)) ≤ e * (ns.length - 1) := Nat.mul_le_mul_left _ (by omega)
            omega
          · show (match G3 D3 with | some (.lst us) => us.length | _ => 0) < (match G2 D2 with | some (.lst us) => us.length | _ => 0)
            rw [d3, d2]
            show ((pairUp _ ns).map V.int).length < (ns.map V.int).length
            rw [List.length_map, List.length_map, pl]
            omega
        · have h1 : ns.length = 1 := by
            have : 0 < ns.length := List.length_pos_iff.mpr ne
            omega
          obtain ⟨y, rfl⟩ : ∃ y, ns = [y] := by
            match ns, h1 with
            | [y], _ => exact ⟨y, rfl⟩
          have hy : y = ((dv cs : Nat) : Int) := by
            rw [← va]
            show y = y + _ * (0 : Int)
            rw [Int.mul_zero, Int.add_zero]
          subst hy
          have it : atI ([((dv cs : Nat) : Int)].map V.int) ((0 : Nat) : Int) = some (.int ((dv cs : Nat) : Int)) := atI_nat rfl
          have out : ∀ z : Int, z = numVal x → Q (.int z) G2 := fun z e => by
            rw [e]
            exact k _ s2
          have nv : numVal x = if Txt.startswith x ("-" : Str) then -((dv cs : Nat) : Int) else ((dv cs : Nat) : Int) := by
            unfold numVal
            rw [← hf, hcs]
          refine ⟨_, rfl, ⟨_, rfl⟩, x, _, rfl, rfl, _, rfl, ?_⟩
          cases hs : Txt.startswith x ("-" : Str) with
          | true =>
            refine iteT ?_
            refine ⟨_, rfl, D2, _, _, _, rfl, rfl, SqL.of d2, it, _, rfl, out _ ?_⟩
            rw [nv, hs, if_pos rfl]
          | false =>
            refine iteF ?_
            refine ⟨_, rfl, D2, _, _, _, rfl, rfl, SqL.of d2, it, out _ ?_⟩
            rw [nv, hs, if_neg (by decide)]
      · intro σ G2 Q1 Q2 h12 ⟨v1, e1, p, us, e2, hor, i, j, e4, e5, k2, e6, h⟩
        exact ⟨v1, e1, p, us, e2, hor, i, j, e4, e5, k2, e6, h12 _ _ h⟩
end
end Kg
namespace Kg
open PySem PySem.Spec PyProof.Rows L2
/-! ### the reader -/
abbrev sOInit : Stmt := inClass (top 43) 0
abbrev sRInit : Stmt := inClass (top 44) 0
abbrev sWhere : Stmt := inClass (top 44) 1
abbrev sTake : Stmt := inClass (top 44) 2
abbrev sTakeOp : Stmt := inClass (top 44) 3
abbrev sTakeSg : Stmt := inClass (top 44) 6
abbrev sPut : Stmt := inClass (top 44) 7
def QUOTE : Str := "behind a quote"
def INLIST : Str := "in a list"
def DOTTED : Str := "behind a dot"
def TAILED : Str := "behind the tail"
inductive D where
  | int (i : Int) | str (s : Str) | pair (a b : D)
  deriving DecidableEq
structure Op where
  state : Str
  data : List D
structure RS where
  data : List D
  stack : List Op
theorem look_hd {f : Str} {v : V} {l : List (Str × V)} : List.lookup f ((f, v) :: l) = some v := by simp [List.lookup]
theorem look_tl {f g : Str} {v : V} {l : List (Str × V)} (h : (f == g) = false) : List.lookup f ((g, v) :: l) = List.lookup f l := by simp [List.lookup, h]
def pairF (h t : V) : List (Str × V) := [("head", h), ("tail", t)]
def openF (s : Str) (l : Addr) : List (Str × V) := [("state", .str s), ("data", .ref l)]
def readF (d o k : Addr) : List (Str × V) := [("data", .ref d), ("opened", .ref o), ("known", .ref k)]
theorem openF_state (s : Str) (l : Addr) : (openF s l).lookup ("state" : Str) = some (.str s) := look_hd
theorem openF_data (s : Str) (l : Addr) : (openF s l).lookup ("data" : Str) = some (.ref l) := (look_tl (by decide +kernel)).trans look_hd
theorem readF_data (d o k : Addr) : (readF d o k).lookup ("data" : Str) = some (.ref d) := look_hd
theorem readF_opened (d o k : Addr) : (readF d o k).lookup ("opened" : Str) = some (.ref o) := (look_tl (by decide +kernel)).trans look_hd
theorem readF_known (d o k : Addr) : (readF d o k).lookup ("known" : Str) = some (.ref k) := (look_tl (by decide +kernel)).trans ((look_tl (by decide +kernel)).trans look_hd)
/-- what the reader knows of the words that it took -/
def KnOk (kv : List (Key × V)) : Prop := ∀ x v, valV kv (Sum.inr x) = some v → (isInt x = true ∧ v = .int (numVal x)) ∨ (isInt x = false ∧ isName x = true ∧ v = .str x)
def Known (H : Hp) (k : Addr × Nat) : Prop := ∃ kv, H k.1 = some (.dK kv) ∧ KnOk kv ∧ kv.length ≤ k.2
theorem Known.keep {H H' : Hp} {k : Addr × Nat} (q : Known H k) (h : ∀ kv, H k.1 = some (.dK kv) → H' k.1 = some (.dK kv)) : Known H' k := by
  obtain ⟨kv, e, o⟩ := q
  exact ⟨kv, h _ e, o⟩
theorem putF_new {f : Str} {v : V} {g : Str} {u : V} (h : ¬ g = f) : putF f v [(g, u)] = [(g, u), (f, v)] := by
  unfold putF
  rw [if_neg h]
  rfl
/-- data in the heap: pairs at C -/
inductive DR (C : Addr) (H : Hp) : V → D → Prop where
  | int (i : Int) : DR C H (.int i) (.int i)
  | str (s : Str) : DR C H (.str s) (.str s)
  | pair {a dx : Addr} {h t : V} {dh dt : D} (e : H a = some (.ins C dx (pairF h t))) (rh : DR C H h dh) (rt : DR C H t dt) : DR C H (.ref a) (.pair dh dt)
/-- pairs stay -/
def KeepP (C : Addr) (H H' : Hp) : Prop := ∀ a dx h t, H a = some (.ins C dx (pairF h t)) → H' a = some (.ins C dx (pairF h t))
theorem DR.keep {C : Addr} {H H' : Hp} (k : KeepP C H H') {v : V} {d : D} (r : DR C H v d) : DR C H' v d := by
  induction r with
  | int i => exact .int i
  | str s => exact .str s
  | pair e _ _ ih1 ih2 => exact .pair (k _ _ _ _ e) ih1 ih2
theorem Same.keepP {C : Addr} {H H' : Hp} (s : Same H H') : KeepP C H H' := fun a dx h t e => s _ _ e
/-- one opened bracket: its instance at p.1, its list at p.2 -/
def OR (CO CP : Addr) (H : Hp) (p : Addr × Addr) (s : Op) : Prop := ∃ dx us, H p.1 = some (.ins CO dx (openF s.state p.2)) ∧ H p.2 = some (.lst us) ∧ Paired (DR CP H) us s.data
/-- the reader at r stands as S does; behind H0 all is kept, and the reader's things are new -/
structure RInv (CR CO CP : Addr) (H0 H : Hp) (r : Addr) (S : RS) (dx ld lo : Addr) (lk : Addr × Nat) (us : List V) (ps : List (Addr × Addr)) : Prop where
  same : Same H0 H
  obj : H r = some (.ins CR dx (readF ld lo lk.1))
  known : Known H lk
  ldat : H ld = some (.lst us)
  lopn : H lo = some (.lst ((ps.map fun p => V.ref p.1).reverse))
  data : Paired (DR CP H) us S.data
  open_ : Paired (OR CO CP H) ps S.stack
  nr : H0 r = none
  nd : H0 ld = none
  no : H0 lo = none
  nk : H0 lk.1 = none
  np : ∀ p ∈ ps, H0 p.1 = none ∧ H0 p.2 = none
  apart : (ld :: lo :: ps.map (·.2)).Nodup
  apart1 : (ps.map (·.1)).Nodup
def whereS (S : RS) : V := match S.stack with
  | [] => .non
  | o :: _ => .str o.state
section
variable {P : Program} {w : World} {K : PySem.W.Frag} {mg : Str → Option Value} {base : Heap} {f CR CO CP : Addr} {fd : FuncData}
def spOInit (C : Addr) : Sp := fun vs H Q _ => ∃ (p dx : Addr) (s : Str), vs = [.ref p, .str s] ∧ H p = some (.ins C dx []) ∧ ∀ l, H l = none → Q .non (upd (upd H l (.lst [])) p (.ins C dx (openF s l)))
def spRInit (C : Addr) : Sp := fun vs H Q _ => ∃ (p dx : Addr), vs = [.ref p] ∧ H p = some (.ins C dx []) ∧ ∀ ld lo lk, H ld = none → H lo = none → H lk = none → ld ≠ lo → ∀ H', H' p = some (.ins C dx (readF ld lo lk)) → H' ld = some (.lst []) → H' lo = some (.lst []) → H' lk = some (.dK []) → (∀ b o, b ≠ p → H b = some o → H' b = some o) → Q .non H'
theorem scOInit : FnScope ["self", "state"] ["self", "state"] (defScope sOInit) := ⟨rfl, rfl, rfl, by decide +kernel, rfl, by decide +kernel, by decide +kernel⟩
theorem ok_oinit (F : FnP K "__init__" "Opened.__init__" sOInit f fd) (c : Cls K CO) (nS : NoAttr K CO "state") (nD : NoAttr K CO "data") : FnOk P w K mg base CX0 1 f fd ["self", "state"] (spOInit CO) := by
  refine F.ok scOInit (fun vs H Q E h => ?_) (fun cdv A outer s H vs Q E hr h => ?_)
  · obtain ⟨p, dx, s, rfl, _⟩ := h
    rfl
  · obtain ⟨p, dx, z, rfl, hp, k⟩ := h
    refine ⟨_, PSs.nox (pss_cons (ps_fld (pv 0) (pv 1) rfl) (pss_one (ps_fld (pv 0) (pe_lst pa_nil) rfl))), ?_⟩
    refine ⟨_, rfl, _, rfl, p, CO, dx, [], rfl, hp, c, nS, (by show 0 < 1000; decide), Nat.zero_le _, fun l hl => ?_⟩
    have npl : p ≠ l := fun q => by rw [← q, upd_same] at hl; cases hl
    have hl0 : H l = none := free_of hl
    refine ⟨_, rfl, p, CO, dx, _, rfl, by rw [upd_ne npl]; exact upd_same, c, nD, (by show 1 < 1000; decide), ?_⟩
    have e : putF "data" (.ref l) (putF "state" (.str z) []) = openF z l := putF_new (by decide +kernel)
    show Q .non (upd (upd (upd H p (.ins CO dx (putF "state" (.str z) []))) l (.lst [])) p (.ins CO dx (putF "data" (.ref l) (putF "state" (.str z) []))))
    rw [e]
    have e2 : upd (upd (upd H p (.ins CO dx (putF "state" (.str z) []))) l (.lst [])) p (.ins CO dx (openF z l)) = upd (upd H l (.lst [])) p (.ins CO dx (openF z l)) := by
      funext b
      by_cases hb : b = p
      · rw [hb, upd_same, upd_same]
      · rw [upd_ne hb, upd_ne hb]
        by_cases hb2 : b = l
        · rw [hb2, upd_same, upd_same]
        · rw [upd_ne hb2, upd_ne hb2, upd_ne hb]
    rw [e2]
    exact k l hl0
theorem scRInit : FnScope ["self"] ["self"] (defScope sRInit) := ⟨rfl, rfl, rfl, by decide +kernel, rfl, by decide +kernel, by decide +kernel⟩
theorem putF_new2 {f : Str} {v : V} {g h : Str} {u t : V} (h1 : ¬ g = f) (h2 : ¬ h = f) : putF f v [(g, u), (h, t)] = [(g, u), (h, t), (f, v)] := by
  unfold putF
  rw [if_neg h1]
  rw [putF_new h2]
theorem ok_rinit (F : FnP K "__init__" "Reader.__init__" sRInit f fd) (c : Cls K CR) (nS : NoAttr K CR "data") (nD : NoAttr K CR "opened") (nK : NoAttr K CR "known") : FnOk P w K mg base CX0 1 f fd ["self"] (spRInit CR) := by
  refine F.ok scRInit (fun vs H Q E h => ?_) (fun cdv A outer s H vs Q E hr h => ?_)
  · obtain ⟨p, dx, rfl, _⟩ := h
    rfl
  · obtain ⟨p, dx, rfl, hp, k⟩ := h
    refine ⟨_, PSs.nox (pss_cons (ps_fld (pv 0) (pe_lst pa_nil) rfl) (pss_cons (ps_fld (pv 0) (pe_lst pa_nil) rfl) (pss_one (ps_fld (pv 0) pe_dnewK rfl)))), ?_⟩
    refine ⟨Nat.zero_le _, fun l hl => ?_⟩
    have npl : p ≠ l := ne_of_none hp hl
    refine ⟨_, rfl, p, CR, dx, [], rfl, by rw [upd_ne npl]; exact hp, c, nS, (by show 0 < 1000; decide), Nat.zero_le _, fun m hm => ?_⟩
    have npm : p ≠ m := fun q => by rw [← q, upd_same] at hm; cases hm
    have hm1 : upd H l (.lst []) m = none := free_of hm
    have hm0 : H m = none := free_of hm1
    have nlm : l ≠ m := fun q => by rw [← q, upd_same] at hm1; cases hm1
    refine ⟨_, rfl, p, CR, dx, _, rfl, by rw [upd_ne npm]; exact upd_same, c, nD, (by show 1 < 1000; decide), fun d hd => ?_⟩
    have npd : p ≠ d := fun q => by rw [← q, upd_same] at hd; cases hd
    have hd1 := free_of hd
    have nmd : m ≠ d := fun q => by rw [← q, upd_same] at hd1; cases hd1
    have hd2 := free_of (free_of hd1)
    have nld : l ≠ d := fun q => by rw [← q, upd_same] at hd2; cases hd2
    have hd3 : H d = none := free_of hd2
    refine ⟨_, rfl, p, CR, dx, _, rfl, by rw [upd_ne npd]; exact upd_same, c, nK, (by show 2 < 1000; decide), ?_⟩
    have e : putF "known" (.ref d) (putF "opened" (.ref m) (putF "data" (.ref l) [])) = readF l m d := by
      have e1 : putF "opened" (.ref m) (putF "data" (.ref l) []) = ([(("data" : Str), V.ref l), (("opened" : Str), V.ref m)] : List (Str × V)) := putF_new (by decide +kernel)
      rw [e1]
      exact putF_new2 (by decide +kernel) (by decide +kernel)
    refine k l m d hl hm0 hd3 nlm _ ?_ ?_ ?_ ?_ fun b o hb q => ?_
    · rw [upd_same, e]
    · rw [upd_ne npl.symm, upd_ne nld, upd_ne npl.symm, upd_ne nlm, upd_ne npl.symm, upd_same]
    · rw [upd_ne npm.symm, upd_ne nmd, upd_ne npm.symm, upd_same]
    · rw [upd_ne npd.symm, upd_same]
    · rw [upd_ne hb, upd_ne (ne_of_none q hd3), upd_ne hb, upd_ne (ne_of_none q hm0), upd_ne hb, upd_ne (ne_of_none q hl)]
      exact q
def spWhere (CR CO CP : Addr) : Sp := fun vs H Q _ => ∃ (H0 : Hp) (r : Addr) (S : RS) (dx ld lo : Addr) (lk : Addr × Nat) (us : List V) (ps : List (Addr × Addr)), vs = [.ref r] ∧ RInv CR CO CP H0 H r S dx ld lo lk us ps ∧ Q (whereS S) H
theorem scWhere : FnScope ["self"] ["self"] (defScope sWhere) := ⟨rfl, rfl, rfl, by decide +kernel, rfl, by decide +kernel, by decide +kernel⟩
theorem ok_where (F : FnP K "where" "Reader.where" sWhere f fd) (c : Cls K CR) (c2 : Cls K CO) (nO : NoAttr K CR "opened") (nS : NoAttr K CO "state") : FnOk P w K mg base CX0 1 f fd ["self"] (spWhere CR CO CP) := by
  refine F.ok scWhere (fun vs H Q E h => ?_) (fun cdv A outer s H vs Q E hr h => ?_)
  · obtain ⟨H0, r, S, dx, ld, lo, lk, us, ps, rfl, _⟩ := h
    rfl
  · obtain ⟨H0, r, S, dx, ld, lo, lk, us, ps, rfl, R, k⟩ := h
    refine ⟨_, PSs.nox (pss_one (ps_ret (pe_ifExp (pt_truth (pe_fld (pv 0) rfl) (by intro _; rfl)) (pe_fld (pe_ix ix_list (pe_fld (pv 0) rfl) (pe_un un_neg pe_int) (fun _ _ => rfl)) rfl) pe_non))), ?_⟩
    refine ⟨_, rfl, r, CR, dx, _, _, rfl, R.obj, c, nO, readF_opened _ _ _, !(((ps.map fun p => V.ref p.1).reverse).isEmpty), Or.inl ⟨_, SqL.of R.lopn, rfl⟩, ?_⟩
    have hO := R.open_
    have hL := R.lopn
    rcases ps with _ | ⟨p, ps⟩
    · have hw : whereS S = .non := by
        unfold whereS
        cases hst : S.stack with
        | nil => rfl
        | cons o st => rw [hst] at hO; cases hO
      refine iteF ?_
      rw [← hw]
      exact k
    · cases hst : S.stack with
      | nil => rw [hst] at hO; cases hO
      | cons o st =>
        rw [hst] at hO
        cases hO with
        | cons hp hr2 =>
          obtain ⟨dx2, us2, h1, h2, h3⟩ := hp
          have hw : whereS S = .str o.state := by unfold whereS; rw [hst]
          refine ifB (fun _ => ?_) (fun h => absurd h (by simp))
          refine ⟨_, rfl, r, CR, dx, _, _, rfl, R.obj, c, nO, readF_opened _ _ _, 1, rfl, lo, _, _, .ref p.1, rfl, rfl, SqL.of hL, ?_, p.1, CO, dx2, _, _, rfl, h1, c2, nS, openF_state _ _, ?_⟩
          · rw [List.map_cons, List.reverse_cons]
            exact atI_last _ _
          · rw [← hw]
            exact k
end
end Kg
namespace Kg
open PySem PySem.Spec PyProof.Rows L2
/-- what a reader's classes have -/
structure RT (K : PySem.W.Frag) (mg : Str → Option Value) (CR CO fO fW fP fS fT : Addr) : Prop where
  cR : Cls K CR
  cO : Cls K CO
  rD : NoAttr K CR "data"
  rO : NoAttr K CR "opened"
  rK : NoAttr K CR "known"
  oS : NoAttr K CO "state"
  oD : NoAttr K CO "data"
  mO : mg "Opened" = some (.ref CO)
  kO : Mk K CO fO
  mW : Meth K CR "where" fW
  mP : Meth K CR "put" fP
  mS : Meth K CR "take_single" fS
  mT : Meth K CR "take_opening" fT
  len : mg "len" = none
  sQ : ∃ t, mg "BEHIND_QUOTE" = some (.str QUOTE t)
  sL : ∃ t, mg "IN_LIST" = some (.str INLIST t)
  sD : ∃ t, mg "BEHIND_DOT" = some (.str DOTTED t)
  sT : ∃ t, mg "BEHIND_TAIL" = some (.str TAILED t)
  sM : ∃ t, mg "MOST_OPEN" = some (.int 40 t)
  sDot : ∃ t, mg "DOT" = some (.str "." t)
theorem readF_no (d o k : Addr) {m : Str} (h1 : (m == ("data" : Str)) = false) (h2 : (m == ("opened" : Str)) = false) (h3 : (m == ("known" : Str)) = false) : (readF d o k).lookup m = none := (look_tl h1).trans ((look_tl h2).trans ((look_tl h3).trans rfl))
/-- a whole datum is put -/
def putS (S : RS) (d : D) : RS := match S.stack with
  | [] => { S with data := S.data ++ [d] }
  | o :: st => { S with stack := { state := if o.state = DOTTED then TAILED else o.state, data := o.data ++ [d] } :: st }
def Small (m : Nat) (S : RS) : Prop := S.data.length ≤ m ∧ S.stack.length ≤ m ∧ ∀ o ∈ S.stack, o.data.length ≤ m
theorem open_pair {C C' dx dx' : Addr} {s : Str} {l : Addr} {h t : V} : HO.ins C dx (openF s l) ≠ HO.ins C' dx' (pairF h t) := fun z => by
  injection z with _ _ z3
  have e : ("state" : Str) = "head" := congrArg Prod.fst (List.cons.inj z3).1
  exact absurd e (by decide +kernel)
theorem read_pair {C C' dx dx' : Addr} {l m k : Addr} {h t : V} : HO.ins C dx (readF l m k) ≠ HO.ins C' dx' (pairF h t) := fun z => by
  injection z with _ _ z3
  have e : ("data" : Str) = "head" := congrArg Prod.fst (List.cons.inj z3).1
  exact absurd e (by decide +kernel)
theorem read_open {C C' dx dx' : Addr} {l m k : Addr} {s : Str} {n : Addr} : HO.ins C dx (readF l m k) ≠ HO.ins C' dx' (openF s n) := fun z => by
  injection z with _ _ z3
  have e : ("data" : Str) = "state" := congrArg Prod.fst (List.cons.inj z3).1
  exact absurd e (by decide +kernel)
theorem dk_lst {kv : List (Key × V)} {xs : List V} : HO.dK kv ≠ HO.lst xs := fun z => by cases z
theorem dk_ins {kv : List (Key × V)} {C dx : Addr} {fs : List (Str × V)} : HO.dK kv ≠ HO.ins C dx fs := fun z => by cases z
theorem lst_ins {xs : List V} {C dx : Addr} {fs : List (Str × V)} : HO.lst xs ≠ HO.ins C dx fs := fun z => by cases z
/-- the heap is kept but for the list at a -/
theorem RInv.put0 {CR CO CP : Addr} {H0 H : Hp} {r : Addr} {S : RS} {dx ld lo : Addr} {lk : Addr × Nat} {us : List V} {ps : List (Addr × Addr)} {v : V} {d : D} (R : RInv CR CO CP H0 H r S dx ld lo lk us ps) (rv : DR CP H v d) :
    RInv CR CO CP H0 (upd H ld (.lst (us ++ [v]))) r { S with data := S.data ++ [d] } dx ld lo lk (us ++ [v]) ps := by
  have ap := R.apart
  have hld := R.ldat
  have k : KeepP CP H (upd H ld (.lst (us ++ [v]))) := fun b dx2 h t q => by
    rw [upd_ne (ne_of q hld (Ne.symm lst_ins))]
    exact q
  have nlo : lo ≠ ld := fun z => by
    rw [z] at ap
    simp at ap
  refine ⟨fun b o q => ?_, ?_, R.known.keep fun kv q => by rw [upd_ne (ne_of q hld dk_lst)]; exact q, upd_same, ?_, ?_, ?_, R.nr, R.nd, R.no, R.nk, R.np, ap, R.apart1⟩
  · rw [upd_ne (ne_of_none q R.nd)]
    exact R.same b o q
  · rw [upd_ne (ne_of R.obj hld (Ne.symm lst_ins))]
    exact R.obj
  · rw [upd_ne nlo]
    exact R.lopn
  · exact paired_snoc (rv.keep k) (paired_imp (fun a b q => q.keep k) R.data)
  · have np : ∀ p ∈ ps, p.2 ≠ ld := fun p hp z => by
      have h1 := (List.nodup_cons.mp ap).1
      exact h1 (List.mem_cons_of_mem _ (List.mem_map.mpr ⟨p, hp, z⟩))
    have go : ∀ (qs : List (Addr × Addr)) (st : List Op), (∀ p ∈ qs, p.2 ≠ ld) → Paired (OR CO CP H) qs st → Paired (OR CO CP (upd H ld (.lst (us ++ [v])))) qs st := by
      intro qs st hq hp
      induction hp with
      | nil => exact .nil
      | cons a _ ih =>
        refine .cons ?_ (ih fun p hp => hq p (List.mem_cons_of_mem _ hp))
        obtain ⟨dx2, us2, h1, h2, h3⟩ := a
        refine ⟨dx2, us2, ?_, ?_, paired_imp (fun a b q => q.keep k) h3⟩
        · rw [upd_ne (ne_of h1 hld (Ne.symm lst_ins))]
          exact h1
        · rw [upd_ne (hq _ List.mem_cons_self)]
          exact h2
    exact go ps S.stack np R.open_
/-- the innermost open thing is another one -/
theorem RInv.top {CR CO CP : Addr} {H0 H H' : Hp} {r : Addr} {S : RS} {dx ld lo : Addr} {lk : Addr × Nat} {us : List V} {p : Addr × Addr} {ps : List (Addr × Addr)} {o o' : Op} {st : List Op} (R : RInv CR CO CP H0 H r S dx ld lo lk us (p :: ps)) (hst : S.stack = o :: st)
    (k : ∀ b u, b ≠ p.1 → b ≠ p.2 → H b = some u → H' b = some u) (ho : OR CO CP H' p o') : RInv CR CO CP H0 H' r { S with stack := o' :: st } dx ld lo lk us (p :: ps) := by
  have ap := R.apart
  have hO := R.open_
  rw [hst] at hO
  cases hO with
  | cons hp hr =>
    obtain ⟨dx2, us2, h1, h2, h3⟩ := hp
    obtain ⟨n1, n2⟩ := R.np p List.mem_cons_self
    have kp : KeepP CP H H' := fun b dx3 h t q => k b _ (ne_of q h1 (Ne.symm open_pair)) (ne_of q h2 (Ne.symm lst_ins)) q
    have nd2 := List.nodup_cons.mp ap
    have nd3 := List.nodup_cons.mp nd2.2
    have nd4 := List.nodup_cons.mp nd3.2
    have nd5 := List.nodup_cons.mp R.apart1
    have a1 : ld ≠ p.2 := fun z => nd2.1 (by rw [z]; simp)
    have a2 : lo ≠ p.2 := fun z => nd3.1 (by rw [z]; simp)
    refine ⟨fun b u q => k b u (ne_of_none q n1) (ne_of_none q n2) (R.same b u q), k _ _ (ne_of R.obj h1 read_open) (ne_of R.obj h2 (Ne.symm lst_ins)) R.obj, R.known.keep fun kv q => k _ _ (ne_of q h1 dk_ins) (ne_of q h2 dk_lst) q, k _ _ (ne_of R.ldat h1 lst_ins) a1 R.ldat, k _ _ (ne_of R.lopn h1 lst_ins) a2 R.lopn,
      paired_imp (fun a b q => q.keep kp) R.data, .cons ho ?_, R.nr, R.nd, R.no, R.nk, R.np, ap, R.apart1⟩
    have go : ∀ (qs : List (Addr × Addr)) (st : List Op), (∀ q ∈ qs, q.1 ≠ p.1 ∧ q.2 ≠ p.2) → Paired (OR CO CP H) qs st → Paired (OR CO CP H') qs st := by
      intro qs st hq hp
      induction hp with
      | nil => exact .nil
      | cons a _ ih =>
        obtain ⟨b1, b2⟩ := hq _ List.mem_cons_self
        refine .cons ?_ (ih fun p hp => hq p (List.mem_cons_of_mem _ hp))
        obtain ⟨dx3, us3, e1, e2, e3⟩ := a
        exact ⟨dx3, us3, k _ _ b1 (ne_of e1 h2 (Ne.symm lst_ins)) e1, k _ _ (ne_of e2 h1 lst_ins) b2 e2, paired_imp (fun a b q => q.keep kp) e3⟩
    exact go ps st (fun q hq => ⟨fun z => nd5.1 (List.mem_map.mpr ⟨q, hq, z⟩), fun z => nd4.1 (List.mem_map.mpr ⟨q, hq, z⟩)⟩) hr
section
variable {P : Program} {w : World} {K : PySem.W.Frag} {mg : Str → Option Value} {base : Heap} {f CR CO CP fO fW fP fS fT : Addr} {fd fdW fdP fdS fdT : FuncData}
theorem scPut : FnScope ["self", "datum", "within"] ["self", "datum"] (defScope sPut) := ⟨rfl, rfl, rfl, by decide +kernel, rfl, by decide +kernel, by decide +kernel⟩
end
end Kg
namespace Kg
open PySem PySem.Spec PyProof.Rows L2
theorem RInv.mono {CR CO CP : Addr} {H0 H H' : Hp} {r : Addr} {S : RS} {dx ld lo : Addr} {lk : Addr × Nat} {us : List V} {ps : List (Addr × Addr)} (R : RInv CR CO CP H0 H r S dx ld lo lk us ps) (s : Same H H') : RInv CR CO CP H0 H' r S dx ld lo lk us ps :=
  ⟨R.same.trans s, s _ _ R.obj, R.known.keep fun kv q => s _ _ q, s _ _ R.ldat, s _ _ R.lopn, paired_imp (fun a b q => q.keep (Same.keepP s)) R.data, paired_imp (fun a b q => by
    obtain ⟨dx2, us2, h1, h2, h3⟩ := q
    exact ⟨dx2, us2, s _ _ h1, s _ _ h2, paired_imp (fun a b q => q.keep (Same.keepP s)) h3⟩) R.open_, R.nr, R.nd, R.no, R.nk, R.np, R.apart, R.apart1⟩
def openS (S : RS) (st : Str) : RS := { S with stack := { state := st, data := [] } :: S.stack }
/-- the module's names that the words want -/
structure WT (K : PySem.W.Frag) (mg : Str → Option Value) (fH fI fN : Addr) : Prop where
  gH : mg "has_only" = some (.ref fH)
  gI : mg "is_integer" = some (.ref fI)
  gN : mg "is_name" = some (.ref fN)
  all : mg "all" = none
  len : mg "len" = none
  max : mg "max" = none
  enum : mg "enumerate" = none
  fig : ∃ t, mg "FIGURES" = some (.str FIG t)
  signs : ∃ t, mg "WORD_SIGNS" = some (.str SIGNS t)
  longest : ∃ t, mg "LONGEST_NAME" = some (.int 16 t)
  dot : ∃ t, mg "DOT" = some (.str "." t)
section
variable {P : Program} {w : World} {K : PySem.W.Frag} {mg : Str → Option Value} {base : Heap} {f CR CO CP fO fW fP fS fT fH fI fN : Addr} {fd fdO fdW fdP fdS fdT fdH fdI fdN : FuncData}
theorem scSg : FnScope ["self", "datum", "place"] ["self", "datum", "place"] (defScope sTakeSg) := ⟨rfl, rfl, rfl, by decide +kernel, rfl, by decide +kernel, by decide +kernel⟩
theorem scOp : FnScope ["self", "state", "place"] ["self", "state", "place"] (defScope sTakeOp) := ⟨rfl, rfl, rfl, by decide +kernel, rfl, by decide +kernel, by decide +kernel⟩
theorem scTake : FnScope ["self", "word", "place"] ["self", "word", "place"] (defScope sTake) := ⟨rfl, rfl, rfl, by decide +kernel, rfl, by decide +kernel, by decide +kernel⟩
end
end Kg
namespace Kg
open PySem PySem.Spec PyProof.Rows L2
abbrev sEInit : Stmt := inClass (top 9) 0
abbrev sDataIn : Stmt := top 45
abbrev sDatumIn : Stmt := top 46
abbrev sReadBy : Stmt := top 47
abbrev sAllData : Stmt := top 48
abbrev sLone : Stmt := top 49
abbrev sRead : Stmt := top 50
abbrev sPrinted : Stmt := top 51
def spEInit (CB : Addr) : Sp := fun vs H Q _ => ∃ (a : Addr) (v : V), vs = [.ref a, v] ∧ H a = some (exo a CB none) ∧ ∀ dx, H dx = none → dx ≠ a → Q .non (upd (upd H dx (exd dx [(("value" : Str), v)])) a (exo a CB (some dx)))
/-- what a BadText, made with v, leaves: its dict d, new -/
def ErrW (CB : Addr) (H : Hp) (v : V) (E : XK) : Prop := ∀ d H', Same H H' → H d = none → H' d = some (.xd [(("value" : Str), v)]) → E (.ref CB) (some d) H'
theorem err_made {CB a : Addr} {H1 : Hp} {v : V} {E : XK} (na : H1 a = none) (h : ErrW CB H1 v E) : spEInit CB [.ref a, v] (upd H1 a (exo a CB none))
    (fun u H2 => u = .non ∧ ∃ (d : Addr) (fs : List (Str × V)), H2 a = some (exo a CB (some d)) ∧ H2 d = some (exd d fs) ∧ H1 d = none ∧ E (.ref CB) (some d) (upd (del H2 a) d (.xd fs))) (fun _ _ _ => False) := by
  refine ⟨a, v, rfl, upd_same, fun dx nd ne => ⟨rfl, dx, _, upd_same, by rw [upd_ne ne, upd_same], free_of nd, h dx _ (fun b o q => ?_) (free_of nd) upd_same⟩⟩
  have h1 : b ≠ a := ne_of_none q na
  have h2 : b ≠ dx := ne_of_none q (free_of nd)
  rw [upd_ne h2, del_ne h1, upd_ne h1, upd_ne h2, upd_ne h1]
  exact q
/-- what raising BadText wants of the text -/
structure ET (K : PySem.W.Frag) (mg : Str → Option Value) (CB fE : Addr) : Prop where
  x : OexC K CB
  noV : PySem.W.findIn K (.ref CB) "value" = some none
  iC : PySem.W.findIn K (.ref CB) "__init__" = some (some (.ref fE))
  tI : PySem.W.typeIn K (.ref fE) = some (.type "function")
  gB : mg "BadText" = some (.ref CB)
  isi : mg "isinstance" = none
  str : mg "str" = none
section
variable {P : Program} {w : World} {K : PySem.W.Frag} {mg : Str → Option Value} {base : Heap} {f CB CR CO CP fE fC fWo fL fWe : Addr} {fd fdE fdC fdWo fdL fdWe : FuncData}
theorem scE : FnScope ["self", "value"] ["self", "value"] (defScope sEInit) := ⟨rfl, rfl, rfl, by decide +kernel, rfl, by decide +kernel, by decide +kernel⟩
theorem ok_einit (F : FnP K "__init__" "KeptError.__init__" sEInit f fd) (T : ET K mg CB fE) : FnOk P w K mg base CX0 1 f fd ["self", "value"] (spEInit CB) := by
  refine F.ok scE (fun vs H Q E h => ?_) (fun cdv A outer s H vs Q E hr h => ?_)
  · obtain ⟨a, v, rfl, _⟩ := h
    rfl
  · obtain ⟨a, v, rfl, ha, k⟩ := h
    refine ⟨_, PSs.nox (pss_one (ps_ost (pv 0) (pv 1))), ?_⟩
    exact ⟨_, rfl, _, rfl, a, CB, rfl, T.x, T.noV, .inl ⟨ha, k⟩⟩
def NotStr (K : PySem.W.Frag) (H : Hp) (v : V) : Prop := ∃ t, TyX K H v t ∧ PySem.W.kitOne K t (.type "str") = some false
end
def S0 : RS := ⟨[], []⟩
def EndR (H1 : Hp) (T : Addr) (x : Str) : Prop := H1 T = some (.tup [.int ((textEnd x).1 : Nat), .int ((textEnd x).2 : Nat)])
theorem pe_never {X : Cx} {e : Expr} : PE X e (fun _ _ _ => False) := ⟨fun _ _ _ _ _ _ h => h.elim⟩
def spNo : Sp := fun _ _ _ _ => False
theorem fn_no {P : Program} {w : World} {K : PySem.W.Frag} {mg : Str → Option Value} {base : Heap} {CX : CXT} {k : Nat} {f : Addr} {fd : FuncData} {ps : List Str} : FnOk P w K mg base CX k f fd ps spNo :=
  ⟨fun _ _ _ _ h => h.elim, fun _ _ _ _ _ _ _ _ _ _ _ _ _ h => h.elim⟩
/-- the i-th slot holds the def at f, which may raise, by the slots -/
def tCallLS (i : Nat) (f : Addr) (sp : Sp) (E : L2.St → XK) (t : TA) : TE := fun σ H Q => σ[i]? = some (some (.ref f)) ∧ t σ H fun vs H1 => sp vs H1 Q (E σ)
theorem pe_callLS {X : Cx} {CX : CXT} {k i : Nat} {f : Addr} {fd : FuncData} {ps : List Str} {sp : Sp} {E : L2.St → XK} {x : Str} {p pos : Pos} {e : Expr} {es : List Expr} {t : TA} (F : FnOk X.prog X.w X.K X.mg X.base CX k f fd ps sp) (hr : Room k X.A) (hN : X.N[i]? = some x) (hv : Vis X.env.scope x) (hk : PySem.W.keepIn X.K (.ref f) = true) (hb : Binds X.K fd ps []) (hx : ∀ σ, PassesAt CX X σ (E σ)) (ha : PA X (e :: es) t)
    (hdb : (x == ("__debug__" : Str)) = false := by decide) (hcd : (x == ("__classdict__" : Str)) = false := by decide)
    (he : starEach (e :: es) X.env = (false, eval e X.env) :: starEach es X.env := by rfl) (hpl : (backTo pos (starEach es X.env)).any (·.1) = false := by rfl) : PE X (.Call (.Name x p) (e :: es) [] pos) (tCallLS i f sp E t) := by
  refine ⟨fun pins s σ H Q I h => ?_⟩
  obtain ⟨hs, ht⟩ := h
  refine wpAny_Call_Name_kw (thn ((pe_var (pos := p) hN hv hdb hcd).run pins s σ H (fun v H1 => v = .ref f ∧ H1 = H) I ⟨.ref f, hs, rfl, rfl⟩) fun u s1 ⟨v, H1, I1, r1, q1⟩ => ?_)
  obtain ⟨rfl, rfl⟩ := q1
  cases r1
  refine PySem.W.callWith_K (h₀ := X.base) I.ok.mod.kin hk (thn (ha.run pos pins s1 σ _ _ I1 ht) fun us s2 ⟨vs, H2, I2, r, q⟩ => ⟨I2.kIn, ?_⟩) he hpl
  exact run_fnS F hr hb (hx σ) I2 r q
end Kg
namespace Kg
open PySem PySem.Spec PyProof.Rows L2
abbrev sPInit : Stmt := inClass (top 3) 0
abbrev sListOf : Stmt := top 6
def spPInit (C : Addr) : Sp := fun vs H Q _ => ∃ (p dx : Addr) (h t : V), vs = [.ref p, h, t] ∧ H p = some (.ins C dx []) ∧ Q .non (upd H p (.ins C dx (pairF h t)))
theorem scPInit : FnScope ["self", "head", "tail"] ["self", "head", "tail"] (defScope sPInit) := ⟨rfl, rfl, rfl, by decide +kernel, rfl, by decide +kernel, by decide +kernel⟩
theorem scListOf : FnScope ["things", "tail", "datum", "thing"] ["things", "tail"] (defScope sListOf) := ⟨rfl, rfl, rfl, by decide +kernel, rfl, by decide +kernel, by decide +kernel⟩
def listD (ds : List D) (t : D) : D := ds.foldr D.pair t
def spListOf (K : PySem.W.Frag) (CP : Addr) : Sp := fun vs H Q _ => ∃ (l : Addr) (us : List V) (ds : List D) (t : V) (dt : D), vs = [.ref l, t] ∧ H l = some (.lst us) ∧ Paired (DR CP H) us ds ∧ DR CP H t dt ∧ ∀ v H', Same H H' → DR CP H' v (listD ds dt) → Q v H'
section
variable {P : Program} {w : World} {K : PySem.W.Frag} {mg : Str → Option Value} {base : Heap} {f CP fI : Addr} {fd fdI : FuncData}
theorem ok_pinit (F : FnP K "__init__" "Pair.__init__" sPInit f fd) (c : Cls K CP) (nH : NoAttr K CP "head") (nT : NoAttr K CP "tail") : FnOk P w K mg base CX0 1 f fd ["self", "head", "tail"] (spPInit CP) := by
  refine F.ok scPInit (fun vs H Q E h => ?_) (fun cdv A outer s H vs Q E hr h => ?_)
  · obtain ⟨p, dx, a, t, rfl, _⟩ := h
    rfl
  · obtain ⟨p, dx, a, t, rfl, hp, k⟩ := h
    refine ⟨_, PSs.nox (pss_cons (ps_fld (pv 0) (pv 1) rfl) (pss_one (ps_fld (pv 0) (pv 2) rfl))), ?_⟩
    refine ⟨_, rfl, _, rfl, p, CP, dx, [], rfl, hp, c, nH, (by show 0 < 1000; decide), _, rfl, _, rfl, p, CP, dx, _, rfl, upd_same, c, nT, (by show 1 < 1000; decide), ?_⟩
    have e : putF "tail" t (putF "head" a []) = pairF a t := putF_new (by decide +kernel)
    have e2 : upd (upd H p (.ins CP dx (putF "head" a []))) p (.ins CP dx (putF "tail" t (putF "head" a []))) = upd H p (.ins CP dx (pairF a t)) := by
      rw [e]
      funext b
      by_cases hb : b = p
      · rw [hb, upd_same, upd_same]
      · rw [upd_ne hb, upd_ne hb, upd_ne hb]
    show Q .non (upd (upd H p (.ins CP dx (putF "head" a []))) p (.ins CP dx (putF "tail" t (putF "head" a []))))
    rw [e2]
    exact k
theorem ok_listof (F : FnP K "list_of" "list_of" sListOf f fd) (c : Cls K CP) (nH : NoAttr K CP "head") (nT : NoAttr K CP "tail") (M : Mk K CP fI) (FI : FnP K "__init__" "Pair.__init__" sPInit fI fdI) (gP : mg "Pair" = some (.ref CP)) (gR : mg "reversed" = none) :
    FnOk P w K mg base CX0 3 f fd ["things", "tail"] (spListOf K CP) := by
  have GI : FnOk P w K mg base CX0 1 fI fdI ["self", "head", "tail"] (spPInit CP) := ok_pinit FI c nH nT
  have bI : Binds K fdI ["self", "head", "tail"] [] := FI.bindsN fun _ _ _ _ _ _ us hl => match us, hl with | [_, _, _], _ => rfl
  refine F.ok scListOf (fun vs H Q E h => ?_) (fun cdv A outer s H vs Q E hr h => ?_)
  · obtain ⟨l, us, ds, t, dt, rfl, _⟩ := h
    rfl
  · obtain ⟨l, us, ds, t, dt, rfl, hl, hp, ht, k⟩ := h
    refine ⟨_, PSs.nox (pss_cons (ps_set (i := 2) scListOf.nd rfl (Or.inl rfl) (pv 1))
      (pss_cons (ps_for PassesOwn.never rfl (pi_reversed (by rfl) gR (pa_cons (pv 0) pa_nil)) (pg_name (i := 3) scListOf.nd rfl (Or.inl rfl))
        (pss_one (ps_set (i := 2) scListOf.nd rfl (Or.inl rfl) (pe_make M GI hr rfl gP bI .nil pass0 (pa_cons (pv 3) (pa_cons (pv 2) pa_nil))))))
      (pss_one (ps_ret (pv 2))))), ?_⟩
    have hlen := Paired.length hp
    refine ⟨_, rfl, _, rfl, l, us, rfl, SqL.of hl, for_it (walk_rev (K := K) (a := l) (xs := us)) (fun i σ G => ∃ v o, σ = [some (.ref l), some t, some v, o] ∧ Same H G ∧ DR CP G v (listD (ds.drop (ds.length - i)) dt)) ?_ ?_ ?_ ?_⟩
    · refine ⟨t, none, rfl, Same.refl _, ?_⟩
      rw [Nat.sub_zero, List.drop_length]
      exact ht
    · rintro i σ G _ ⟨v, o, _, s1, _⟩
      exact SqL.of (s1 _ _ hl)
    · rintro i u σ G G2 hi ⟨v, o, rfl, s1, r1⟩ ⟨rfl, hu⟩
      have hi2 : i < us.length := hi
      obtain ⟨d, hd, rd⟩ := paired_get (paired_imp (fun a b r => DR.keep (Same.keepP s1) r) hp) hu
      refine ⟨_, rfl, _, rfl, fun x dx nx ndx ne => ⟨x, dx, u, v, rfl, upd_same, rfl, ?_⟩⟩
      have s2 : Same G2 (upd (upd (upd G2 dx (.own x)) x (.ins CP dx [])) x (.ins CP dx (pairF u v))) := fun b q e => by
        have h1 := ne_of_none e nx
        rw [upd_ne h1, upd_ne h1, upd_ne (ne_of_none e ndx)]
        exact e
      have step : ds.drop (ds.length - (i + 1)) = d :: ds.drop (ds.length - i) := by
        have hd2 : ds[us.length - 1 - i]? = some d := hd
        obtain ⟨q1, q2⟩ := List.getElem?_eq_some_iff.mp hd2
        have e1 : ds.length - (i + 1) = us.length - 1 - i := by omega
        have e2 : ds.length - i = us.length - 1 - i + 1 := by omega
        rw [e1, e2, List.drop_eq_getElem_cons q1, q2]
      refine ⟨.ref x, _, rfl, s1.trans s2, ?_⟩
      rw [step]
      exact .pair upd_same (DR.keep (Same.keepP s2) rd) (DR.keep (Same.keepP s2) r1)
    · rintro σ G ⟨v, o, rfl, s1, r1⟩
      rw [hlen, Nat.sub_self, List.drop_zero] at r1
      exact ⟨_, rfl, k _ _ s1 r1⟩
end
end Kg
namespace Kg
open PySem PySem.Spec PyProof.Rows L2
def quoteD (d : D) : D := listD [.str "quote", d] (.str "()")
/-- a whole datum is put, the quotes round it closed -/
def putQ (data : List D) : List Op → D → RS
  | [], d => ⟨data ++ [d], []⟩
  | o :: st, d => if o.state = QUOTE then putQ data st (quoteD d) else ⟨data, { state := if o.state = DOTTED then TAILED else o.state, data := o.data ++ [d] } :: st⟩
theorem putQ_put {S : RS} {d : D} (h : whereS S ≠ .str QUOTE) : putQ S.data S.stack d = putS S d := by
  unfold putS
  unfold whereS at h
  cases hs : S.stack with
  | nil => rfl
  | cons o st =>
    rw [hs] at h
    have n : ¬ o.state = QUOTE := fun z => h (congrArg V.str z)
    show (if o.state = QUOTE then _ else _) = _
    rw [if_neg n]
theorem RInv.pop {CR CO CP : Addr} {H0 H : Hp} {r : Addr} {S : RS} {dx ld lo : Addr} {lk : Addr × Nat} {us : List V} {p : Addr × Addr} {ps : List (Addr × Addr)} {o : Op} {st : List Op} (R : RInv CR CO CP H0 H r S dx ld lo lk us (p :: ps)) (hst : S.stack = o :: st) :
    RInv CR CO CP H0 (upd H lo (.lst ((ps.map fun q => V.ref q.1).reverse))) r { S with stack := st } dx ld lo lk us ps := by
  have ap := R.apart
  have hO := R.open_
  rw [hst] at hO
  have hlo := R.lopn
  have k : ∀ b u, b ≠ lo → H b = some u → upd H lo (.lst ((ps.map fun q => V.ref q.1).reverse)) b = some u := fun b u n e => by rw [upd_ne n]; exact e
  have kp : KeepP CP H (upd H lo (.lst ((ps.map fun q => V.ref q.1).reverse))) := fun b dx2 h t q => k b _ (ne_of q hlo (Ne.symm lst_ins)) q
  have nd2 := List.nodup_cons.mp ap
  have nd3 := List.nodup_cons.mp nd2.2
  have nd4 := List.nodup_cons.mp nd3.2
  have nd5 := List.nodup_cons.mp R.apart1
  have nld : ld ≠ lo := fun z => nd2.1 (by rw [z]; simp)
  cases hO with
  | cons hp hr =>
    refine ⟨fun b u q => k b u (ne_of_none q R.no) (R.same b u q), k _ _ (ne_of R.obj hlo (Ne.symm lst_ins)) R.obj, R.known.keep fun kv q => k _ _ (ne_of q hlo dk_lst) q, k _ _ nld R.ldat, upd_same, paired_imp (fun a b q => q.keep kp) R.data, ?_, R.nr, R.nd, R.no, R.nk, fun q hq => R.np q (List.mem_cons_of_mem _ hq), ?_, nd5.2⟩
    · have go : ∀ (qs : List (Addr × Addr)) (st : List Op), (∀ q ∈ qs, q.2 ≠ lo) → Paired (OR CO CP H) qs st → Paired (OR CO CP (upd H lo (.lst ((ps.map fun q => V.ref q.1).reverse)))) qs st := by
        intro qs st hq hp
        induction hp with
        | nil => exact .nil
        | cons a _ ih =>
          refine .cons ?_ (ih fun p hp => hq p (List.mem_cons_of_mem _ hp))
          obtain ⟨dx3, us3, e1, e2, e3⟩ := a
          exact ⟨dx3, us3, k _ _ (ne_of e1 hlo (Ne.symm lst_ins)) e1, k _ _ (hq _ List.mem_cons_self) e2, paired_imp (fun a b q => q.keep kp) e3⟩
      exact go ps st (fun q hq z => nd3.1 (List.mem_cons_of_mem _ (List.mem_map.mpr ⟨q, hq, z⟩))) hr
    · refine List.nodup_cons.mpr ⟨fun z => nd2.1 ?_, List.nodup_cons.mpr ⟨fun z => nd3.1 (List.mem_cons_of_mem _ z), nd4.2⟩⟩
      rcases List.mem_cons.mp z with e | e
      · rw [e]
        exact List.mem_cons_self
      · exact List.mem_cons_of_mem _ (List.mem_cons_of_mem _ e)
theorem RInv.ext {CR CO CP : Addr} {H0 H H' : Hp} {r : Addr} {S : RS} {dx ld lo : Addr} {lk : Addr × Nat} {us : List V} {ps : List (Addr × Addr)} (R : RInv CR CO CP H0 H r S dx ld lo lk us ps) (s : Same H H') : RInv CR CO CP H0 H' r S dx ld lo lk us ps := by
  have kp := Same.keepP (C := CP) s
  refine ⟨R.same.trans s, s _ _ R.obj, R.known.keep fun kv q => s _ _ q, s _ _ R.ldat, s _ _ R.lopn, paired_imp (fun a b q => q.keep kp) R.data, paired_imp (fun a b q => ?_) R.open_, R.nr, R.nd, R.no, R.nk, R.np, R.apart, R.apart1⟩
  obtain ⟨dx3, us3, e1, e2, e3⟩ := q
  exact ⟨dx3, us3, s _ _ e1, s _ _ e2, paired_imp (fun a b q => q.keep kp) e3⟩
/-- a whole datum is put, whatever is open -/
def spPutQ (CR CO CP : Addr) : Sp := fun vs H Q _ => ∃ (H0 : Hp) (r : Addr) (S : RS) (dx ld lo : Addr) (lk : Addr × Nat) (us : List V) (ps : List (Addr × Addr)) (v : V) (d : D), vs = [.ref r, v] ∧ RInv CR CO CP H0 H r S dx ld lo lk us ps ∧ DR CP H v d ∧ Small 1000000 S ∧
  ∀ H' us' ps', RInv CR CO CP H0 H' r (putQ S.data S.stack d) dx ld lo lk us' ps' → Q .non H'
/-- what list_of wants -/
structure LoT (K : PySem.W.Frag) (mg : Str → Option Value) (CP fLo fPI : Addr) : Prop where
  c : Cls K CP
  nH : NoAttr K CP "head"
  nT : NoAttr K CP "tail"
  M : Mk K CP fPI
  gP : mg "Pair" = some (.ref CP)
  gR : mg "reversed" = none
  gL : mg "list_of" = some (.ref fLo)
  gE : ∃ t, mg "EMPTY" = some (.str "()" t)
section
variable {P : Program} {w : World} {K : PySem.W.Frag} {mg : Str → Option Value} {base : Heap} {f CR CO CP fO fW fP fS fT fLo fPI : Addr} {fd fdW fdP fdS fdT fdLo fdPI : FuncData}
theorem ok_putQ (F : FnP K "put" "Reader.put" sPut f fd) (T : RT K mg CR CO fO fW fP fS fT) (FW : FnP K "where" "Reader.where" sWhere fW fdW) (L : LoT K mg CP fLo fPI) (FLo : FnP K "list_of" "list_of" sListOf fLo fdLo) (FPI : FnP K "__init__" "Pair.__init__" sPInit fPI fdPI) :
    FnOk P w K mg base CX0 4 f fd ["self", "datum"] (spPutQ CR CO CP) := by
  have GW : FnOk P w K mg base CX0 1 fW fdW ["self"] (spWhere CR CO CP) := ok_where FW T.cR T.cO T.rO T.oS
  have bW : Binds K fdW ["self"] [] := FW.bindsN fun _ _ _ _ _ _ us hl => match us, hl with | [_], _ => rfl
  have GL : FnOk P w K mg base CX0 3 fLo fdLo ["things", "tail"] (spListOf K CP) := ok_listof FLo L.c L.nH L.nT L.M FPI L.gP L.gR
  have bL : Binds K fdLo ["things", "tail"] [] := FLo.bindsN fun _ _ _ _ _ _ us hl => match us, hl with | [_, _], _ => rfl
  obtain ⟨tq, gQ⟩ := T.sQ
  obtain ⟨td, gD⟩ := T.sD
  obtain ⟨tt, gT⟩ := T.sT
  obtain ⟨te, gE⟩ := L.gE
  refine F.ok scPut (fun vs H Q E h => ?_) (fun cdv A outer s H vs Q E hr h => ?_)
  · obtain ⟨H0, r, S, dx, ld, lo, lk, us, ps, v, d, rfl, _⟩ := h
    rfl
  · obtain ⟨H0, r, S₀, dx, ld, lo, lk, us, ps₀, v₀, d₀, rfl, R₀, rv₀, sm₀, k₀⟩ := h
    have hr1 : Room 1 _ := hr.mono (by decide)
    refine ⟨_, PSs.nox (pss_cons (ps_while PassesOwn.never (pt_cmpR op_eq (pe_meth0 (pv 0) T.cR T.mW GW hr1 bW .nil pass0) (pgS gQ) (nomark _))
        (pss_cons (ps_expr (pe_bm0 PySem.F.plainAttrs_list PySem.F.slot_list_pop PySem.F.type_list_pop mt_pop (pe_fld (pv 0) rfl)))
        (pss_one (ps_set (i := 1) scPut.nd rfl (Or.inl rfl) (pe_call GL hr rfl L.gL FLo.kp bL .nil pass0 (pa_cons (pe_lst (pa_cons pe_str (pa_cons (pv 1) pa_nil))) (pa_cons (pgS gE) pa_nil)))))))
      (pss_cons (ps_if (pt_not (pt_truth (pe_fld (pv 0) rfl) (by intro _; rfl)))
        (pss_cons (ps_expr (pe_bm PySem.F.plainAttrs_list PySem.F.slot_list_append PySem.F.type_list_append mt_append (pe_fld (pv 0) rfl) (pa_cons (pv 1) pa_nil))) (pss_one ps_retN)) pss_nil)
      (pss_cons (ps_set (i := 2) scPut.nd rfl (Or.inl rfl) (pe_ix ix_list (pe_fld (pv 0) rfl) (pe_un un_neg pe_int) (fun _ _ => rfl)))
      (pss_cons (ps_expr (pe_bm PySem.F.plainAttrs_list PySem.F.slot_list_append PySem.F.type_list_append mt_append (pe_fld (pv 2) rfl) (pa_cons (pv 1) pa_nil)))
      (pss_one (ps_if (pt_cmpR op_eq (pe_fld (pv 2) rfl) (pgS gD) (nomark _)) (pss_one (ps_fld (pv 2) (pgS gT) rfl)) pss_nil)))))), ?_⟩
    have noW : (readF ld lo lk.1).lookup ("where" : Str) = none := readF_no _ _ _ (by decide +kernel) (by decide +kernel) (by decide +kernel)
    refine ⟨fun m σ' G => ∃ (S : RS) (v : V) (d : D) (ps : List (Addr × Addr)), σ' = [some (.ref r), some v, none] ∧ RInv CR CO CP H0 G r S dx ld lo lk us ps ∧ DR CP G v d ∧ Small 1000000 S ∧ putQ S.data S.stack d = putQ S₀.data S₀.stack d₀ ∧ m = S.stack.length, ⟨_, S₀, v₀, d₀, ps₀, rfl, R₀, rv₀, sm₀, rfl, rfl⟩, ?_⟩
    rintro m σ H1 ⟨S, v, d, ps, rfl, R, rv, sm, same, rfl⟩
    have hsc : scal (whereS S) (.str QUOTE) = true := by
      unfold whereS
      cases S.stack <;> rfl
    refine ⟨_, rfl, r, dx, _, rfl, R.obj, noW, H0, r, S, dx, ld, lo, lk, us, ps, rfl, R, hsc, _, rfl, ?_⟩
    refine ifD (fun h => ?_) (fun nq => ?_)
    · have hO := R.open_
      have hL := R.lopn
      cases hst : S.stack with
      | nil =>
        unfold whereS at h
        rw [hst] at h
        cases h
      | cons o st =>
        have hq : o.state = QUOTE := by
          unfold whereS at h
          rw [hst] at h
          exact V.str.inj h
        rcases ps with _ | ⟨p, ps⟩
        · rw [hst] at hO
          cases hO
        have er : ((p :: ps).map fun q => V.ref q.1).reverse = (ps.map fun q => V.ref q.1).reverse ++ [.ref p.1] := by rw [List.map_cons, List.reverse_cons]
        have R2 := R.pop hst
        refine ⟨fun σ' G => ∃ (S : RS) (v : V) (d : D) (ps : List (Addr × Addr)), σ' = [some (.ref r), some v, none] ∧ RInv CR CO CP H0 G r S dx ld lo lk us ps ∧ DR CP G v d ∧ Small 1000000 S ∧ putQ S.data S.stack d = putQ S₀.data S₀.stack d₀ ∧ S.stack.length < (o :: st).length,
          fun σ' G ⟨S2, v2, d2, ps2, e1, e2, e3, e4, e5, e6⟩ => ⟨S2.stack.length, e6, S2, v2, d2, ps2, e1, e2, e3, e4, e5, rfl⟩, ?_⟩
        rw [er] at hL
        refine ⟨_, rfl, r, CR, dx, _, _, rfl, R.obj, T.cR, T.rO, readF_opened _ _ _, .inl ⟨rfl, _, SqL.of hL⟩, lo, _, .ref p.1, rfl, rfl, hL, by simp, ?_⟩
        rw [List.dropLast_concat]
        refine ⟨_, rfl, (by show 2 ≤ sizeLine; decide), fun l nl => ?_⟩
        have sl := same_upd (o := .lst [.str "quote", v]) nl
        have kp : KeepP CP H1 (upd (upd H1 lo (.lst ((ps.map fun q => V.ref q.1).reverse))) l (.lst [.str "quote", v])) := fun b dx2 a t q => by
          have n1 := ne_of q hL (Ne.symm lst_ins)
          exact sl _ _ (by rw [upd_ne n1]; exact q)
        refine ⟨l, _, [.str "quote", d], .str "()", .str "()", rfl, upd_same, .cons (.str _) (.cons (rv.keep kp) .nil), .str _, fun v2 H2 s2 r2 => ?_⟩
        refine ⟨{ S with stack := st }, v2, quoteD d, ps, rfl, (R2.ext sl).ext s2, r2, ⟨sm.1, ?_, fun o2 ho2 => sm.2.2 o2 (by rw [hst]; exact List.mem_cons_of_mem _ ho2)⟩, ?_, Nat.lt_succ_self _⟩
        · have := sm.2.1
          rw [hst] at this
          exact Nat.le_of_succ_le this
        · rw [← same, hst]
          show putQ S.data st (quoteD d) = if o.state = QUOTE then _ else _
          rw [if_pos hq]
    · have k : ∀ H' us' ps', RInv CR CO CP H0 H' r (putS S d) dx ld lo lk us' ps' → Q .non H' := fun H' us' ps' q => k₀ H' us' ps' (by rw [← same, putQ_put nq]; exact q)
      refine ⟨_, rfl, r, CR, dx, _, _, rfl, R.obj, T.cR, T.rO, readF_opened _ _ _, !(((ps.map fun p => V.ref p.1).reverse).isEmpty), Or.inl ⟨_, SqL.of R.lopn, rfl⟩, ?_⟩
      have hO := R.open_
      have hL := R.lopn
      rcases ps with _ | ⟨p, ps⟩
      · cases hst : S.stack with
        | cons o st => rw [hst] at hO; cases hO
        | nil =>
          refine iteT ?_
          refine ⟨_, rfl, r, CR, dx, _, _, rfl, R.obj, T.cR, T.rD, readF_data _ _ _, .inl ⟨rfl, _, SqL.of R.ldat⟩, _, rfl, ld, us, _, rfl, rfl, R.ldat, ?_, ?_⟩
          · have e := Paired.length R.data
            exact Nat.lt_of_le_of_lt (by rw [e]; exact sm.1) (by decide)
          · have e : putS S d = { S with data := S.data ++ [d] } := by unfold putS; rw [hst]
            refine k _ (us ++ [v]) [] ?_
            rw [e]
            exact R.put0 rv
      · cases hst : S.stack with
        | nil => rw [hst] at hO; cases hO
        | cons o st =>
          rw [hst] at hO
          cases hO with
          | cons hp hr2 =>
            obtain ⟨dx2, us2, h1, h2, h3⟩ := hp
            have hne : (!(((p :: ps).map fun p => V.ref p.1).reverse).isEmpty) = true := by simp
            rw [hne]
            refine iteF ?_
            refine ⟨_, rfl, r, CR, dx, _, _, rfl, R.obj, T.cR, T.rO, readF_opened _ _ _, 1, rfl, lo, _, _, .ref p.1, rfl, rfl, SqL.of hL, (by rw [List.map_cons, List.reverse_cons]; exact atI_last _ _), ?_⟩
            refine ⟨_, rfl, p.1, CO, dx2, _, _, rfl, h1, T.cO, T.oD, openF_data _ _, .inl ⟨rfl, _, SqL.of h2⟩, _, rfl, p.2, us2, _, rfl, rfl, h2, ?_, ?_⟩
            · have e := Paired.length h3
              exact Nat.lt_of_le_of_lt (by rw [e]; exact sm.2.2 o (by rw [hst]; exact List.mem_cons_self)) (by decide)
            have n12 : p.1 ≠ p.2 := ne_of h1 h2 (Ne.symm lst_ins)
            have kp : KeepP CP H1 (upd H1 p.2 (.lst (us2 ++ [v]))) := fun b dx3 h t q => by
              rw [upd_ne (ne_of q h2 (Ne.symm lst_ins))]
              exact q
            refine ⟨_, rfl, p.1, CO, dx2, _, _, rfl, by rw [upd_ne n12]; exact h1, T.cO, T.oS, openF_state _ _, rfl, _, rfl, ?_⟩
            refine ifS (fun hd => ?_) (fun hd => ?_)
            · have e : putS S d = { S with stack := { state := TAILED, data := o.data ++ [d] } :: st } := by unfold putS; rw [hst]; simp [hd]
              have e2 : putF "state" (.str TAILED) (openF o.state p.2) = openF TAILED p.2 := by
                unfold openF putF
                rw [if_pos rfl]
              refine ⟨_, rfl, p.1, CO, dx2, _, rfl, by rw [upd_ne n12]; exact h1, T.cO, T.oS, (by show 2 < 1000; decide), ?_⟩
              have kp2 : KeepP CP H1 (upd (upd H1 p.2 (.lst (us2 ++ [v]))) p.1 (.ins CO dx2 (putF "state" (.str TAILED) (openF o.state p.2)))) := fun b dx3 h t q => by
                rw [upd_ne (ne_of q h1 (Ne.symm open_pair)), upd_ne (ne_of q h2 (Ne.symm lst_ins))]
                exact q
              refine k _ us (p :: ps) ?_
              rw [e]
              exact R.top hst (fun b u b1 b2 q => by rw [upd_ne b1, upd_ne b2]; exact q) ⟨dx2, us2 ++ [v], by rw [upd_same, e2], by rw [upd_ne (Ne.symm n12), upd_same], paired_snoc (rv.keep kp2) (paired_imp (fun a b q => q.keep kp2) h3)⟩
            · have e : putS S d = { S with stack := { state := o.state, data := o.data ++ [d] } :: st } := by unfold putS; rw [hst]; simp [hd]
              refine k _ us (p :: ps) ?_
              rw [e]
              exact R.top hst (fun b u b1 b2 q => by rw [upd_ne b2]; exact q) ⟨dx2, us2 ++ [v], by rw [upd_ne n12]; exact h1, upd_same, paired_snoc (rv.keep kp) (paired_imp (fun a b q => q.keep kp) h3)⟩
end
end Kg
namespace Kg
open PySem PySem.Spec PyProof.Rows L2
abbrev sTakeDot : Stmt := inClass (top 44) 4
abbrev sTakeCl : Stmt := inClass (top 44) 5
def dotS (S : RS) : Option RS := match S.stack with
  | [] => none
  | o :: st => if o.state = INLIST ∧ o.data ≠ [] then some { S with stack := { o with state := DOTTED } :: st } else none
/-- a dot: taken, or the error with its place -/
def spDot (CR CO CP CB : Addr) : Sp := fun vs H Q E => ∃ (H0 : Hp) (r : Addr) (S : RS) (dx ld lo : Addr) (lk : Addr × Nat) (us : List V) (ps : List (Addr × Addr)) (pl : V), vs = [.ref r, pl] ∧ RInv CR CO CP H0 H r S dx ld lo lk us ps ∧
  (∀ S2, dotS S = some S2 → ∀ H' us' ps', RInv CR CO CP H0 H' r S2 dx ld lo lk us' ps' → Q .non H') ∧ (dotS S = none → ErrW CB H pl E)
theorem scDot : FnScope ["self", "place", "within"] ["self", "place"] (defScope sTakeDot) := ⟨rfl, rfl, rfl, by decide +kernel, rfl, by decide +kernel, by decide +kernel⟩
section
variable {P : Program} {w : World} {K : PySem.W.Frag} {mg : Str → Option Value} {base : Heap} {f CB CR CO CP fE fO fW fP fS fT : Addr} {fd fdE fdW : FuncData}
theorem ok_dot (F : FnP K "take_dot" "Reader.take_dot" sTakeDot f fd) (T : RT K mg CR CO fO fW fP fS fT) (X : ET K mg CB fE) (FE : FnP K "__init__" "KeptError.__init__" sEInit fE fdE) (FW : FnP K "where" "Reader.where" sWhere fW fdW) :
    FnOk P w K mg base (L2.CX P w) 3 f fd ["self", "place"] (spDot CR CO CP CB) := by
  have GW : FnOk P w K mg base CX0 1 fW fdW ["self"] (spWhere CR CO CP) := ok_where FW T.cR T.cO T.rO T.oS
  have bW : Binds K fdW ["self"] [] := FW.bindsN fun _ _ _ _ _ _ us hl => match us, hl with | [_], _ => rfl
  have GE : FnOk P w K mg base CX0 1 fE fdE ["self", "value"] (spEInit CB) := ok_einit FE X
  have bE : Binds K fdE ["self", "value"] [] := FE.bindsN fun _ _ _ _ _ _ us hl => match us, hl with | [_, _], _ => rfl
  obtain ⟨tl, gL⟩ := T.sL
  obtain ⟨td, gD⟩ := T.sD
  refine F.ok scDot (fun vs H Q E h => ?_) (fun cdv A outer s H vs Q E hr h => ?_)
  · obtain ⟨H0, r, S, dx, ld, lo, lk, us, ps, pl, rfl, _⟩ := h
    rfl
  · obtain ⟨H0, r, S, dx, ld, lo, lk, us, ps, pl, rfl, R, k, kE⟩ := h
    have hr1 : Room 1 _ := hr.mono (by decide)
    refine ⟨_, pss_cons (ps_if (PW.pt (pw_or (pt_cmpR op_ne (pe_meth0 (pv 0) T.cR T.mW GW hr1 bW .nil pass0) (pgS gL) (nomark _)) (pw_or1 (pt_not (pt_truth (pe_fld (pe_ix ix_list (pe_fld (pv 0) rfl) (pe_un un_neg pe_int) (fun _ _ => rfl)) rfl) (by intro _; rfl))))))
        (pss_one (ps_raise rfl (takes_of rfl rfl rfl rfl) (pmk_oex X.x X.iC X.tI GE hr bE .nil pass0 rfl X.gB (pa_cons (pv 1) pa_nil)))) pss_nil)
      (pss_cons (ps_set (i := 2) scDot.nd rfl (Or.inl rfl) (pe_ix ix_list (pe_fld (pv 0) rfl) (pe_un un_neg pe_int) (fun _ _ => rfl)))
      (pss_one (ps_fld (pv 2) (pgS gD) rfl))), ?_⟩
    have noW : (readF ld lo lk.1).lookup ("where" : Str) = none := readF_no _ _ _ (by decide +kernel) (by decide +kernel) (by decide +kernel)
    have hsc : scal (whereS S) (.str INLIST) = true := by
      unfold whereS
      cases S.stack <;> rfl
    have fail : dotS S = none → ∀ a, H a = none → spEInit CB [.ref a, pl] (upd H a (exo a CB none)) (fun u H2 => u = .non ∧ ∃ (d : Addr) (fs : List (Str × V)), H2 a = some (exo a CB (some d)) ∧ H2 d = some (exd d fs) ∧ H d = none ∧ E (.ref CB) (some d) (upd (del H2 a) d (.xd fs))) (fun _ _ _ => False) := fun e a na => err_made na (kE e)
    refine ⟨_, rfl, r, dx, _, rfl, R.obj, noW, H0, r, S, dx, ld, lo, lk, us, ps, rfl, R, hsc, _, rfl, ?_⟩
    refine ifN (fun hw => ?_) fun hw => ?_
    · have e : dotS S = none := by
        unfold dotS
        unfold whereS at hw
        cases hs : S.stack with
        | nil => rfl
        | cons o st =>
          rw [hs] at hw
          exact if_neg fun z => hw (congrArg V.str z.1)
      refine iteT ?_
      exact ⟨_, rfl, (by show 1 ≤ 1000; decide), fun a na => fail e a na⟩
    · have hO := R.open_
      have hL := R.lopn
      unfold whereS at hw
      cases hst : S.stack with
      | nil =>
        rw [hst] at hw
        cases hw
      | cons o st =>
        rw [hst] at hw hO
        have ho : o.state = INLIST := V.str.inj hw
        rcases ps with _ | ⟨p, ps⟩
        · cases hO
        cases hO with
        | cons hp hr2 =>
          obtain ⟨dx2, us2, h1, h2, h3⟩ := hp
          have ix : atI (((p :: ps).map fun p => V.ref p.1).reverse) (-1) = some (.ref p.1) := by
            rw [List.map_cons, List.reverse_cons]
            exact atI_last _ _
          refine ⟨_, rfl, r, CR, dx, _, _, rfl, R.obj, T.cR, T.rO, readF_opened _ _ _, 1, rfl, lo, _, _, .ref p.1, rfl, rfl, SqL.of hL, ix, p.1, CO, dx2, _, _, rfl, h1, T.cO, T.oD, openF_data _ _, !us2.isEmpty, Or.inl ⟨_, SqL.of h2, rfl⟩, ?_⟩
          have hlen := Paired.length h3
          cases us2 with
          | nil =>
            have e : dotS S = none := by
              unfold dotS
              rw [hst]
              refine if_neg fun z => z.2 ?_
              exact List.length_eq_zero_iff.mp hlen.symm
            refine iteT ?_
            exact ⟨_, rfl, (by show 1 ≤ 1000; decide), fun a na => fail e a na⟩
          | cons u1 us2 =>
            have e : dotS S = some { S with stack := { o with state := DOTTED } :: st } := by
              unfold dotS
              rw [hst]
              refine if_pos ⟨ho, fun z => ?_⟩
              rw [z] at hlen
              cases hlen
            refine iteF ?_
            refine ⟨_, rfl, r, CR, dx, _, _, rfl, R.obj, T.cR, T.rO, readF_opened _ _ _, 1, rfl, lo, _, _, .ref p.1, rfl, rfl, SqL.of hL, ix, ?_⟩
            refine ⟨_, rfl, p.1, CO, dx2, _, rfl, h1, T.cO, T.oS, (by show 2 < 1000; decide), ?_⟩
            have e2 : putF "state" (.str DOTTED) (openF o.state p.2) = openF DOTTED p.2 := by
              unfold openF putF
              rw [if_pos rfl]
            have n12 : p.1 ≠ p.2 := ne_of h1 h2 (Ne.symm lst_ins)
            have kp2 : KeepP CP H (upd H p.1 (.ins CO dx2 (putF "state" (.str DOTTED) (openF o.state p.2)))) := fun b dx3 h t q => by
              rw [upd_ne (ne_of q h1 (Ne.symm open_pair))]
              exact q
            refine k _ e _ us (p :: ps) ?_
            exact R.top hst (fun b u b1 b2 q => by rw [upd_ne b1]; exact q) ⟨dx2, u1 :: us2, by rw [upd_same, e2], by rw [upd_ne (Ne.symm n12)]; exact h2, paired_imp (fun a b q => q.keep kp2) h3⟩
end
end Kg
namespace Kg
open PySem PySem.Spec PyProof.Rows L2
def closeS (S : RS) : Option RS := match S.stack with
  | [] => none
  | o :: st => if o.state = INLIST then some (putQ S.data st (listD o.data (.str "()"))) else if o.state = TAILED then some (putQ S.data st (listD o.data.dropLast (o.data.getLastD (.str "()")))) else none
/-- behind a tail there is one -/
def TailOk (S : RS) : Prop := ∀ o st, S.stack = o :: st → o.state = TAILED → o.data ≠ []
def spClose (CR CO CP CB : Addr) : Sp := fun vs H Q E => ∃ (H0 : Hp) (r : Addr) (S : RS) (dx ld lo : Addr) (lk : Addr × Nat) (us : List V) (ps : List (Addr × Addr)) (pl : V), vs = [.ref r, pl] ∧ RInv CR CO CP H0 H r S dx ld lo lk us ps ∧ Small 1000000 S ∧ TailOk S ∧
  (∀ S2, closeS S = some S2 → ∀ H' us' ps', RInv CR CO CP H0 H' r S2 dx ld lo lk us' ps' → Q .non H') ∧ (closeS S = none → ∀ H', Same H H' → ErrW CB H' pl E)
theorem RInv.lst {CR CO CP : Addr} {H0 H : Hp} {r : Addr} {S : RS} {dx ld lo q : Addr} {lk : Addr × Nat} {us xs ys : List V} {ps : List (Addr × Addr)} (R : RInv CR CO CP H0 H r S dx ld lo lk us ps) (hq : H q = some (.lst xs)) (nq : H0 q = none) (n : q ∉ ld :: lo :: ps.map (·.2)) :
    RInv CR CO CP H0 (upd H q (.lst ys)) r S dx ld lo lk us ps := by
  have k : ∀ b u, b ≠ q → H b = some u → upd H q (.lst ys) b = some u := fun b u m e => by rw [upd_ne m]; exact e
  have kp : KeepP CP H (upd H q (.lst ys)) := fun b dx2 h t e => k b _ (ne_of e hq (Ne.symm lst_ins)) e
  have n1 : ld ≠ q := fun z => n (by rw [z]; exact List.mem_cons_self)
  have n2 : lo ≠ q := fun z => n (by rw [z]; exact List.mem_cons_of_mem _ List.mem_cons_self)
  have n3 : ∀ p ∈ ps, p.2 ≠ q := fun p hp z => n (List.mem_cons_of_mem _ (List.mem_cons_of_mem _ (List.mem_map.mpr ⟨p, hp, z⟩)))
  refine ⟨fun b u e => k b u (ne_of_none e nq) (R.same b u e), k _ _ (ne_of R.obj hq (Ne.symm lst_ins)) R.obj, R.known.keep fun kv e => k _ _ (ne_of e hq dk_lst) e, k _ _ n1 R.ldat, k _ _ n2 R.lopn, paired_imp (fun a b e => e.keep kp) R.data, ?_, R.nr, R.nd, R.no, R.nk, R.np, R.apart, R.apart1⟩
  have go : ∀ (qs : List (Addr × Addr)) (st : List Op), (∀ p ∈ qs, p.2 ≠ q) → Paired (OR CO CP H) qs st → Paired (OR CO CP (upd H q (.lst ys))) qs st := by
    intro qs st hq2 hp
    induction hp with
    | nil => exact .nil
    | cons a _ ih =>
      refine .cons ?_ (ih fun p hp => hq2 p (List.mem_cons_of_mem _ hp))
      obtain ⟨dx3, us3, e1, e2, e3⟩ := a
      exact ⟨dx3, us3, k _ _ (ne_of e1 hq (Ne.symm lst_ins)) e1, k _ _ (hq2 _ List.mem_cons_self) e2, paired_imp (fun a b e => e.keep kp) e3⟩
  exact go ps S.stack n3 R.open_
theorem inV_where {a b z : Str} : inV (.str z) [.str a, .str b] = (decide (z = a) || decide (z = b)) := by
  have e : ∀ x y : Str, eqV (.str x) (.str y) = decide (y = x) := fun x y => by
    show (x == y) = decide (y = x)
    by_cases h : y = x
    · subst h
      simp
    · rw [decide_eq_false h]
      exact beq_eq_false_iff_ne.mpr fun z => h z.symm
  show (eqV (.str a) (.str z) || (eqV (.str b) (.str z) || false)) = _
  rw [e, e, Bool.or_false]
theorem paired_split {α β : Type} {R : α → β → Prop} {l : List α} {m : List β} (h : Paired R l m) (dl : α) (dm : β) (n : l ≠ []) : Paired R l.dropLast m.dropLast ∧ R (l.getLastD dl) (m.getLastD dm) ∧ l[l.length - 1]? = some (l.getLastD dl) := by
  induction h with
  | nil => exact absurd rfl n
  | cons r t ih =>
    cases t with
    | nil => exact ⟨.nil, r, rfl⟩
    | cons r2 t2 =>
      obtain ⟨i1, i2, i3⟩ := ih (fun z => nomatch z)
      exact ⟨.cons r i1, i2, i3⟩
theorem scCl : FnScope ["self", "place", "made", "tail"] ["self", "place"] (defScope sTakeCl) := ⟨rfl, rfl, rfl, by decide +kernel, rfl, by decide +kernel, by decide +kernel⟩
section
variable {P : Program} {w : World} {K : PySem.W.Frag} {mg : Str → Option Value} {base : Heap} {f CB CR CO CP fE fO fW fP fS fT fLo fPI : Addr} {fd fdE fdW fdP fdLo fdPI : FuncData}
theorem ok_close (F : FnP K "take_closing" "Reader.take_closing" sTakeCl f fd) (T : RT K mg CR CO fO fW fP fS fT) (X : ET K mg CB fE) (FE : FnP K "__init__" "KeptError.__init__" sEInit fE fdE) (FW : FnP K "where" "Reader.where" sWhere fW fdW)
    (L : LoT K mg CP fLo fPI) (FLo : FnP K "list_of" "list_of" sListOf fLo fdLo) (FPI : FnP K "__init__" "Pair.__init__" sPInit fPI fdPI) (FP : FnP K "put" "Reader.put" sPut fP fdP) :
    FnOk P w K mg base (L2.CX P w) 5 f fd ["self", "place"] (spClose CR CO CP CB) := by
  have GW : FnOk P w K mg base CX0 1 fW fdW ["self"] (spWhere CR CO CP) := ok_where FW T.cR T.cO T.rO T.oS
  have bW : Binds K fdW ["self"] [] := FW.bindsN fun _ _ _ _ _ _ us hl => match us, hl with | [_], _ => rfl
  have GE : FnOk P w K mg base CX0 1 fE fdE ["self", "value"] (spEInit CB) := ok_einit FE X
  have bE : Binds K fdE ["self", "value"] [] := FE.bindsN fun _ _ _ _ _ _ us hl => match us, hl with | [_, _], _ => rfl
  have GL : FnOk P w K mg base CX0 3 fLo fdLo ["things", "tail"] (spListOf K CP) := ok_listof FLo L.c L.nH L.nT L.M FPI L.gP L.gR
  have bL : Binds K fdLo ["things", "tail"] [] := FLo.bindsN fun _ _ _ _ _ _ us hl => match us, hl with | [_, _], _ => rfl
  have GP : FnOk P w K mg base CX0 4 fP fdP ["self", "datum"] (spPutQ CR CO CP) := ok_putQ FP T FW L FLo FPI
  have bP : Binds K fdP ["self", "datum"] [] := FP.bindsN fun _ _ _ _ _ _ us hl => match us, hl with | [_, _], _ => rfl
  obtain ⟨tl, gL⟩ := T.sL
  obtain ⟨tt, gT⟩ := T.sT
  obtain ⟨te, gE⟩ := L.gE
  refine F.ok scCl (fun vs H Q E h => ?_) (fun cdv A outer s H vs Q E hr h => ?_)
  · obtain ⟨H0, r, S, dx, ld, lo, lk, us, ps, pl, rfl, _⟩ := h
    rfl
  · obtain ⟨H0, r, S, dx, ld, lo, lk, us, ps, pl, rfl, R, sm, to, k, kE⟩ := h
    have hr1 : Room 1 _ := hr.mono (by decide)
    have hr2 : Room 2 _ := hr.mono (by decide)
    have hr3 : Room 3 _ := hr.mono (by decide)
    refine ⟨_, pss_cons (ps_if (pt_cmpR op_notIn_seq (pe_meth0 (pv 0) T.cR T.mW GW hr1 bW .nil pass0) (pe_tup (pa_cons (pgS gL) (pa_cons (pgS gT) pa_nil))) (by with_unfolding_all rfl))
        (pss_one (ps_raise rfl (takes_of rfl rfl rfl rfl) (pmk_oex X.x X.iC X.tI GE hr2 bE .nil pass0 rfl X.gB (pa_cons (pv 1) pa_nil)))) pss_nil)
      (pss_cons (ps_set (i := 2) scCl.nd rfl (Or.inl rfl) (pe_bm0 PySem.F.plainAttrs_list PySem.F.slot_list_pop PySem.F.type_list_pop mt_pop (pe_fld (pv 0) rfl)))
      (pss_cons (ps_set (i := 3) scCl.nd rfl (Or.inl rfl) (pe_ifExp (pt_cmpR op_eq (pe_fld (pv 2) rfl) (pgS gT) (nomark _)) (pe_bm0 PySem.F.plainAttrs_list PySem.F.slot_list_pop PySem.F.type_list_pop mt_pop (pe_fld (pv 2) rfl)) (pgS gE)))
      (pss_one (ps_expr (pe_meth (pv 0) T.cR T.mP GP hr bP .nil pass0 (pa_cons (pe_call GL hr3 rfl L.gL FLo.kp bL .nil pass0 (pa_cons (pe_fld (pv 2) rfl) (pa_cons (pv 3) pa_nil))) pa_nil)))))), ?_⟩
    have noW : (readF ld lo lk.1).lookup ("where" : Str) = none := readF_no _ _ _ (by decide +kernel) (by decide +kernel) (by decide +kernel)
    have noP : (readF ld lo lk.1).lookup ("put" : Str) = none := readF_no _ _ _ (by decide +kernel) (by decide +kernel) (by decide +kernel)
    refine ⟨_, rfl, r, dx, _, rfl, R.obj, noW, H0, r, S, dx, ld, lo, lk, us, ps, rfl, R, (by show 2 ≤ sizeLine; decide), fun tp ntp => ?_⟩
    have st := same_upd (o := .tup [.str INLIST, .str TAILED]) ntp
    have R1 := R.ext st
    have fail : closeS S = none → ∀ a, upd H tp (.tup [.str INLIST, .str TAILED]) a = none → spEInit CB [.ref a, pl] (upd (upd H tp (.tup [.str INLIST, .str TAILED])) a (exo a CB none)) (fun u H2 => u = .non ∧ ∃ (d : Addr) (fs : List (Str × V)), H2 a = some (exo a CB (some d)) ∧ H2 d = some (exd d fs) ∧ upd H tp (.tup [.str INLIST, .str TAILED]) d = none ∧ E (.ref CB) (some d) (upd (del H2 a) d (.xd fs))) (fun _ _ _ => False) :=
      fun e a na => err_made na (kE e _ st)
    refine ⟨tp, _, rfl, .inr (SqT.of upd_same), ?_, rfl, ?_⟩
    · unfold whereS
      cases S.stack <;> rfl
    have hO := R1.open_
    have hL := R1.lopn
    cases hst : S.stack with
    | nil =>
      have hw : whereS S = .non := by unfold whereS; rw [hst]
      have e : closeS S = none := by unfold closeS; rw [hst]
      rw [hw]
      refine ⟨_, rfl, ?_⟩
      refine iteT ?_
      exact ⟨_, rfl, (by show 1 ≤ 1000; decide), fun a na => fail e a na⟩
    | cons o stk =>
      have hw : whereS S = .str o.state := by unfold whereS; rw [hst]
      rw [hw, inV_where]
      refine ⟨_, rfl, ?_⟩
      rw [hst] at hO
      rcases ps with _ | ⟨p, ps⟩
      · cases hO
      cases hO with
      | cons hp hr4 =>
        obtain ⟨dx2, us2, h1, h2, h3⟩ := hp
        have er : ((p :: ps).map fun q => V.ref q.1).reverse = (ps.map fun q => V.ref q.1).reverse ++ [.ref p.1] := by rw [List.map_cons, List.reverse_cons]
        have R2 := R1.pop hst
        rw [er] at hL
        have hlen := Paired.length h3
        have ap := R1.apart
        have n2 : p.2 ∉ ld :: lo :: ps.map (·.2) := fun z => by
          have nd2 := List.nodup_cons.mp ap
          have nd3 := List.nodup_cons.mp nd2.2
          have nd4 := List.nodup_cons.mp nd3.2
          rcases List.mem_cons.mp z with e | z
          · exact nd2.1 (by rw [← e]; simp)
          · rcases List.mem_cons.mp z with e | z
            · exact nd3.1 (by rw [← e]; simp)
            · exact nd4.1 z
        have npo : p.2 ≠ lo := fun z => n2 (by rw [z]; simp)
        have h1b : upd (upd H tp (.tup [.str INLIST, .str TAILED])) lo (.lst ((ps.map fun q => V.ref q.1).reverse)) p.1 = some (.ins CO dx2 (openF o.state p.2)) := by
          rw [upd_ne (ne_of h1 hL (Ne.symm lst_ins))]
          exact h1
        have h2b : upd (upd H tp (.tup [.str INLIST, .str TAILED])) lo (.lst ((ps.map fun q => V.ref q.1).reverse)) p.2 = some (.lst us2) := by
          rw [upd_ne npo]
          exact h2
        have kp : KeepP CP (upd H tp (.tup [.str INLIST, .str TAILED])) (upd (upd H tp (.tup [.str INLIST, .str TAILED])) lo (.lst ((ps.map fun q => V.ref q.1).reverse))) := fun b dx3 a t q => by
          rw [upd_ne (ne_of q hL (Ne.symm lst_ins))]
          exact q
        have h3b := paired_imp (fun a b q => DR.keep kp q) h3
        have sm2 : Small 1000000 { S with stack := stk } := by
          refine ⟨sm.1, ?_, fun o2 ho2 => sm.2.2 o2 (by rw [hst]; exact List.mem_cons_of_mem _ ho2)⟩
          have := sm.2.1
          rw [hst] at this
          exact Nat.le_of_succ_le this
        by_cases hi : o.state = INLIST
        · have e : closeS S = some (putQ S.data stk (listD o.data (.str "()"))) := by
            unfold closeS
            rw [hst]
            exact if_pos hi
          have ed : (decide (o.state = INLIST) || decide (o.state = TAILED)) = true := by rw [decide_eq_true hi]; rfl
          rw [ed]
          refine iteF ?_
          refine ⟨_, rfl, r, CR, dx, _, _, rfl, R1.obj, T.cR, T.rO, readF_opened _ _ _, .inl ⟨rfl, _, SqL.of hL⟩, lo, _, .ref p.1, rfl, rfl, hL, by simp, ?_⟩
          rw [List.dropLast_concat]
          refine ⟨_, rfl, p.1, CO, dx2, _, _, rfl, h1b, T.cO, T.oS, openF_state _ _, rfl, _, rfl, ?_⟩
          refine ifS (fun hd => absurd (hi.symm.trans hd) (by decide +kernel)) (fun hd => ?_)
          refine ⟨_, rfl, r, dx, _, rfl, R2.obj, noP, _, rfl, p.1, CO, dx2, _, _, rfl, h1b, T.cO, T.oD, openF_data _ _, _, rfl, p.2, us2, o.data, .str "()", .str "()", rfl, h2b, h3b, .str _, fun v G2 s2 rv => ?_⟩
          exact ⟨H0, r, { S with stack := stk }, dx, ld, lo, lk, us, ps, v, _, rfl, R2.ext s2, rv, sm2, fun H' us' ps' q => k _ e _ us' ps' q⟩
        · by_cases ht : o.state = TAILED
          · have hne := to o stk hst ht
            have une : us2 ≠ [] := fun z => by
              rw [z] at hlen
              exact hne (List.length_eq_zero_iff.mp hlen.symm)
            have e : closeS S = some (putQ S.data stk (listD o.data.dropLast (o.data.getLastD (.str "()")))) := by
              unfold closeS
              rw [hst]
              exact (if_neg hi).trans (if_pos ht)
            have ed : (decide (o.state = INLIST) || decide (o.state = TAILED)) = true := by rw [decide_eq_true ht, Bool.or_true]
            rw [ed]
            refine iteF ?_
            refine ⟨_, rfl, r, CR, dx, _, _, rfl, R1.obj, T.cR, T.rO, readF_opened _ _ _, .inl ⟨rfl, _, SqL.of hL⟩, lo, _, .ref p.1, rfl, rfl, hL, by simp, ?_⟩
            rw [List.dropLast_concat]
            refine ⟨_, rfl, p.1, CO, dx2, _, _, rfl, h1b, T.cO, T.oS, openF_state _ _, rfl, _, rfl, ?_⟩
            refine ifS (fun hd => ?_) (fun hd => absurd ht hd)
            obtain ⟨q1, q2, q3⟩ := paired_split h3b (.non) (.str "()") une
            refine ⟨_, rfl, p.1, CO, dx2, _, _, rfl, h1b, T.cO, T.oD, openF_data _ _, .inl ⟨rfl, _, SqL.of h2b⟩, p.2, us2, _, rfl, rfl, h2b, q3, ?_⟩
            have R3 := R2.lst (ys := us2.dropLast) h2b (R.np p List.mem_cons_self).2 n2
            have n12 : p.1 ≠ p.2 := ne_of h1b h2b (Ne.symm lst_ins)
            have kp3 : KeepP CP (upd (upd H tp (.tup [.str INLIST, .str TAILED])) lo (.lst ((ps.map fun q => V.ref q.1).reverse))) (upd (upd (upd H tp (.tup [.str INLIST, .str TAILED])) lo (.lst ((ps.map fun q => V.ref q.1).reverse))) p.2 (.lst us2.dropLast)) := fun b dx3 a t q => by
              rw [upd_ne (ne_of q h2b (Ne.symm lst_ins))]
              exact q
            refine ⟨_, rfl, r, dx, _, rfl, R3.obj, noP, _, rfl, p.1, CO, dx2, _, _, rfl, by rw [upd_ne n12]; exact h1b, T.cO, T.oD, openF_data _ _, _, rfl, p.2, us2.dropLast, o.data.dropLast, _, _, rfl, upd_same, paired_imp (fun a b q => DR.keep kp3 q) q1, q2.keep kp3, fun v G2 s2 rv => ?_⟩
            exact ⟨H0, r, { S with stack := stk }, dx, ld, lo, lk, us, ps, v, _, rfl, R3.ext s2, rv, sm2, fun H' us' ps' q => k _ e _ us' ps' q⟩
          · have e : closeS S = none := by
              unfold closeS
              rw [hst]
              exact (if_neg hi).trans (if_neg ht)
            have ed : (decide (o.state = INLIST) || decide (o.state = TAILED)) = false := by rw [decide_eq_false hi, decide_eq_false ht]; rfl
            rw [ed]
            refine iteT ?_
            exact ⟨_, rfl, (by show 1 ≤ 1000; decide), fun a na => fail e a na⟩
end
end Kg
namespace Kg
open PySem PySem.Spec PyProof.Rows L2
def singleS (S : RS) (x : Str) : Option RS := if whereS S = .str TAILED then none else if isInt x = true then some (putQ S.data S.stack (.int (numVal x))) else if isName x = true then some (putQ S.data S.stack (.str x)) else none
theorem fig_digits : ∀ c ∈ FIG.cps.toList, 48 ≤ c ∧ c ≤ 57 := by decide +kernel
theorem isInt_figures {x : Str} (h : isInt x = true) : (Txt.removeprefix x ("-" : Str)).cps.toList ≠ [] ∧ NumText.AllDigits (Txt.removeprefix x ("-" : Str)).cps.toList := by
  by_cases h0 : x = ("0" : Str)
  · subst h0
    refine ⟨by decide +kernel, ?_⟩
    have : ∀ c ∈ (Txt.removeprefix ("0" : Str) ("-" : Str)).cps.toList, 48 ≤ c ∧ c ≤ 57 := by decide +kernel
    exact this
  · unfold isInt at h
    rw [decide_eq_false h0, Bool.false_or, Bool.and_eq_true] at h
    have h1 := h.1
    unfold hasOnly at h1
    rw [Bool.and_eq_true] at h1
    obtain ⟨a, b⟩ := h1
    refine ⟨fun z => ?_, fun c hc => ?_⟩
    · have e : Txt.removeprefix x ("-" : Str) = ("" : Str) := by
        have e2 : ∀ y : Str, y.cps.toList = [] → y = ("" : Str) := fun ⟨l⟩ hl => by
          have : l = #[] := Array.toList_eq_nil_iff.mp hl
          rw [this]
          rfl
        exact e2 _ z
      rw [e] at a
      simp at a
    · have b2 := List.all_eq_true.mp (show ((Txt.removeprefix x ("-" : Str)).cps.toList.all fun c => decide (c ∈ FIG.cps.toList)) = true from b) c hc
      exact fig_digits c (of_decide_eq_true b2)
theorem removeprefix_len (x y : Str) : (Txt.removeprefix x y).length ≤ x.length := by
  unfold Txt.removeprefix Txt.affix
  split
  · split
    · exact Nat.le_refl _
    · exact PySem.strSub_length_le _ _ _
  · exact Nat.le_refl _
/-- a whole datum of one word: taken, or the error with its place -/
def sgS (S : RS) (d : D) : Option RS := if whereS S = .str TAILED then none else some (putQ S.data S.stack d)
def spSingle (CR CO CP CB : Addr) : Sp := fun vs H Q E => ∃ (H0 : Hp) (r : Addr) (S : RS) (dx ld lo : Addr) (lk : Addr × Nat) (us : List V) (ps : List (Addr × Addr)) (v : V) (d : D) (pl : V), vs = [.ref r, v, pl] ∧ RInv CR CO CP H0 H r S dx ld lo lk us ps ∧ DR CP H v d ∧ Small 1000000 S ∧
  (∀ S2, sgS S d = some S2 → ∀ H' us' ps', RInv CR CO CP H0 H' r S2 dx ld lo lk us' ps' → Q .non H') ∧ (sgS S d = none → ErrW CB H pl E)
/-- what number_of wants -/
structure NoT (mg : Str → Option Value) (fN fPd : Addr) : Prop where
  gN : mg "number_of" = some (.ref fN)
  gP : mg "paired" = some (.ref fPd)
  gR : mg "range" = none
  gI : mg "int" = none
  gC : ∃ t, mg "CHUNK" = some (.int 64 t)
  gS : ∃ t, mg "CHUNK_SCALE" = some (.int (10 ^ 64) t)
section
variable {P : Program} {w : World} {K : PySem.W.Frag} {mg : Str → Option Value} {base : Heap} {f CB CR CO CP fE fO fW fP fS fT fLo fPI : Addr} {fd fdE fdW fdP fdLo fdPI : FuncData}
theorem ok_single (F : FnP K "take_single" "Reader.take_single" sTakeSg f fd) (T : RT K mg CR CO fO fW fP fS fT) (X : ET K mg CB fE) (FE : FnP K "__init__" "KeptError.__init__" sEInit fE fdE) (FW : FnP K "where" "Reader.where" sWhere fW fdW)
    (L : LoT K mg CP fLo fPI) (FLo : FnP K "list_of" "list_of" sListOf fLo fdLo) (FPI : FnP K "__init__" "Pair.__init__" sPInit fPI fdPI) (FP : FnP K "put" "Reader.put" sPut fP fdP) :
    FnOk P w K mg base (L2.CX P w) 5 f fd ["self", "datum", "place"] (spSingle CR CO CP CB) := by
  have GW : FnOk P w K mg base CX0 1 fW fdW ["self"] (spWhere CR CO CP) := ok_where FW T.cR T.cO T.rO T.oS
  have GP : FnOk P w K mg base CX0 4 fP fdP ["self", "datum"] (spPutQ CR CO CP) := ok_putQ FP T FW L FLo FPI
  have GE : FnOk P w K mg base CX0 1 fE fdE ["self", "value"] (spEInit CB) := ok_einit FE X
  have bE : Binds K fdE ["self", "value"] [] := FE.bindsN fun _ _ _ _ _ _ us hl => match us, hl with | [_, _], _ => rfl
  obtain ⟨t5, g5⟩ := T.sT
  have bW : Binds K fdW ["self"] [] := FW.bindsN fun _ _ _ _ _ _ us hl => match us, hl with | [_], _ => rfl
  have bP : Binds K fdP ["self", "datum"] [] := FP.bindsN fun _ _ _ _ _ _ us hl => match us, hl with | [_, _], _ => rfl
  refine F.ok scSg (fun vs H Q E h => ?_) (fun cdv A outer s H vs Q E hr h => ?_)
  · obtain ⟨H0, r, S, dx, ld, lo, lk, us, ps, v, d, pl, rfl, _⟩ := h
    rfl
  · obtain ⟨H0, r, S, dx, ld, lo, lk, us, ps, v, d, pl, rfl, R, rv, sm, k, kE⟩ := h
    have hr1 : Room 1 _ := hr.mono (by decide)
    have hr2 : Room 2 _ := hr.mono (by decide)
    refine ⟨_, pss_cons (ps_if (pt_cmpR op_eq (pe_meth0 (pv 0) T.cR T.mW GW hr1 bW .nil pass0) (pgS g5) (nomark _)) (pss_one (ps_raise rfl (takes_of rfl rfl rfl rfl) (pmk_oex X.x X.iC X.tI GE hr2 bE .nil pass0 rfl X.gB (pa_cons (pv 2) pa_nil)))) pss_nil)
      (pss_one (ps_expr (pe_meth (pv 0) T.cR T.mP GP hr bP .nil pass0 (pa_cons (pv 1) pa_nil)))), ?_⟩
    have noW : (readF ld lo lk.1).lookup ("where" : Str) = none := readF_no _ _ _ (by decide +kernel) (by decide +kernel) (by decide +kernel)
    have noP : (readF ld lo lk.1).lookup ("put" : Str) = none := readF_no _ _ _ (by decide +kernel) (by decide +kernel) (by decide +kernel)
    have hsc : scal (whereS S) (.str TAILED) = true := by
      unfold whereS
      cases S.stack <;> rfl
    refine ⟨_, rfl, r, dx, _, rfl, R.obj, noW, H0, r, S, dx, ld, lo, lk, us, ps, rfl, R, hsc, _, rfl, ?_⟩
    refine ifD (fun h => ?_) (fun nt => ?_)
    · exact ⟨_, rfl, (by show 1 ≤ 1000; decide), fun a na => err_made na (kE (if_pos h))⟩
    · refine ⟨_, rfl, r, dx, _, rfl, R.obj, noP, _, rfl, ?_⟩
      exact ⟨H0, r, S, dx, ld, lo, lk, us, ps, v, d, rfl, R, rv, sm, fun H' us' ps' q => k _ (if_neg nt) _ us' ps' q⟩
end
end Kg
namespace Kg
open PySem PySem.Spec PyProof.Rows L2
def openE (S : RS) (st : Str) : Option RS := if whereS S = .str TAILED ∨ S.stack.length = 40 then none else some (openS S st)
/-- something opens, or the error with its place -/
def spOpE (CR CO CP CB : Addr) : Sp := fun vs H Q E => ∃ (H0 : Hp) (r : Addr) (S : RS) (dx ld lo : Addr) (lk : Addr × Nat) (us : List V) (ps : List (Addr × Addr)) (st : Str) (pl : V), vs = [.ref r, .str st, pl] ∧ RInv CR CO CP H0 H r S dx ld lo lk us ps ∧ Small 1000000 S ∧
  (∀ S2, openE S st = some S2 → ∀ H' us' ps', RInv CR CO CP H0 H' r S2 dx ld lo lk us' ps' → Q .non H') ∧ (openE S st = none → ErrW CB H pl E)
section
variable {P : Program} {w : World} {K : PySem.W.Frag} {mg : Str → Option Value} {base : Heap} {f CB CR CO CP fE fO fW fP fS fT : Addr} {fd fdE fdO fdW : FuncData}
theorem ok_opE (F : FnP K "take_opening" "Reader.take_opening" sTakeOp f fd) (T : RT K mg CR CO fO fW fP fS fT) (X : ET K mg CB fE) (FE : FnP K "__init__" "KeptError.__init__" sEInit fE fdE) (FW : FnP K "where" "Reader.where" sWhere fW fdW) (FO : FnP K "__init__" "Opened.__init__" sOInit fO fdO) : FnOk P w K mg base (L2.CX P w) 3 f fd ["self", "state", "place"] (spOpE CR CO CP CB) := by
  have GW : FnOk P w K mg base CX0 1 fW fdW ["self"] (spWhere CR CO CP) := ok_where FW T.cR T.cO T.rO T.oS
  have GO : FnOk P w K mg base CX0 1 fO fdO ["self", "state"] (spOInit CO) := ok_oinit FO T.cO T.oS T.oD
  have GE : FnOk P w K mg base CX0 1 fE fdE ["self", "value"] (spEInit CB) := ok_einit FE X
  have bE : Binds K fdE ["self", "value"] [] := FE.bindsN fun _ _ _ _ _ _ us hl => match us, hl with | [_, _], _ => rfl
  obtain ⟨t5, g5⟩ := T.sT
  obtain ⟨t6, g6⟩ := T.sM
  have bW : Binds K fdW ["self"] [] := FW.bindsN fun _ _ _ _ _ _ us hl => match us, hl with | [_], _ => rfl
  have bO : Binds K fdO ["self", "state"] [] := FO.bindsN fun _ _ _ _ _ _ us hl => match us, hl with | [_, _], _ => rfl
  refine F.ok scOp (fun vs H Q E h => ?_) (fun cdv A outer s H vs Q E hr h => ?_)
  · obtain ⟨H0, r, S, dx, ld, lo, lk, us, ps, x, pl, rfl, _⟩ := h
    rfl
  · obtain ⟨H0, r, S, dx, ld, lo, lk, us, ps, x, pl, rfl, R, sm, k0, kE⟩ := h
    have hr1 : Room 1 _ := hr.mono (by decide)
    refine ⟨_, (pss_cons (ps_if (PW.pt (pw_or (pt_cmpR op_eq (pe_meth0 (pv 0) T.cR T.mW GW hr1 bW .nil pass0) (pgS g5) (nomark _)) (pw_or1 (pt_cmpR op_eq (pe_callB call_len_seq (by rfl) T.len PySem.boot_len (pa_cons (pe_fld (pv 0) rfl) pa_nil)) (pgI g6) (nomark _))))) (pss_one (ps_raise rfl (takes_of rfl rfl rfl rfl) (pmk_oex X.x X.iC X.tI GE hr bE .nil pass0 rfl X.gB (pa_cons (pv 2) pa_nil)))) pss_nil)
      (pss_one (ps_expr (pe_bm PySem.F.plainAttrs_list PySem.F.slot_list_append PySem.F.type_list_append mt_append (pe_fld (pv 0) rfl) (pa_cons (pe_make T.kO GO hr rfl T.mO bO .nil pass0 (pa_cons (pv 1) pa_nil)) pa_nil))))), ?_⟩
    have noW : (readF ld lo lk.1).lookup ("where" : Str) = none := readF_no _ _ _ (by decide +kernel) (by decide +kernel) (by decide +kernel)
    have hsc : scal (whereS S) (.str TAILED) = true := by
      unfold whereS
      cases S.stack <;> rfl
    have hpl : ps.length = S.stack.length := Paired.length R.open_
    refine ⟨_, rfl, r, dx, _, rfl, R.obj, noW, H0, r, S, dx, ld, lo, lk, us, ps, rfl, R, hsc, _, rfl, ?_⟩
    refine ifD (fun h => ⟨_, rfl, (by show 1 ≤ 1000; decide), fun a na => err_made na (kE (if_pos (.inl h)))⟩) (fun nt => ?_)
    refine ⟨_, rfl, r, CR, dx, _, _, rfl, R.obj, T.cR, T.rO, readF_opened _ _ _, lo, _, rfl, .inl (SqL.of R.lopn), rfl, _, rfl, ?_⟩
    refine ifD (fun h => ?_) (fun n40' => ?_)
    · have e40 : S.stack.length = 40 := by
        have z := V.int.inj h
        simp [hpl] at z
        omega
      exact ⟨_, rfl, (by show 1 ≤ 1000; decide), fun a na => err_made na (kE (if_pos (.inr e40)))⟩
    have n40 : S.stack.length ≠ 40 := fun z => n40' (congrArg V.int (by simp [hpl, z]))
    have k : ∀ H' us' ps', RInv CR CO CP H0 H' r (openS S x) dx ld lo lk us' ps' → Q .non H' := k0 _ (if_neg fun z => z.elim nt n40)
    refine ⟨_, rfl, r, CR, dx, _, _, rfl, R.obj, T.cR, T.rO, readF_opened _ _ _, .inl ⟨rfl, _, SqL.of R.lopn⟩, _, rfl, fun y dy ny ndy ne => ?_⟩
    refine ⟨y, dy, x, rfl, upd_same, fun l hl => ⟨rfl, ?_⟩⟩
    have hl1 := free_of hl
    have nl0 : H l = none := free_of hl1
    have nyl : y ≠ l := fun z => by rw [← z, upd_same] at hl; cases hl
    have sB : Same H (upd (upd (upd (upd H dy (.own y)) y (.ins CO dy [])) l (.lst [])) y (.ins CO dy (openF x l))) := fun b o q => by
      rw [upd_ne (ne_of_none q ny), upd_ne (ne_of_none q nl0), upd_ne (ne_of_none q ny), upd_ne (ne_of_none q ndy)]
      exact q
    have hB1 : upd (upd (upd (upd H dy (.own y)) y (.ins CO dy [])) l (.lst [])) y (.ins CO dy (openF x l)) y = some (.ins CO dy (openF x l)) := upd_same
    have hB2 : upd (upd (upd (upd H dy (.own y)) y (.ins CO dy [])) l (.lst [])) y (.ins CO dy (openF x l)) l = some (.lst []) := by rw [upd_ne (Ne.symm nyl), upd_same]
    generalize upd (upd (upd (upd H dy (.own y)) y (.ins CO dy [])) l (.lst [])) y (.ins CO dy (openF x l)) = HB at sB hB1 hB2
    have RB := R.mono sB
    refine ⟨lo, _, .ref y, rfl, rfl, RB.lopn, ?_, ?_⟩
    · have e : ((ps.map fun p => V.ref p.1).reverse).length = S.stack.length := by simp [hpl]
      exact Nat.lt_of_le_of_lt (by rw [e]; exact sm.2.1) (by decide)
    have hlo := RB.lopn
    have nlo_y : y ≠ lo := fun z => by rw [z] at ny; rw [R.lopn] at ny; cases ny
    have nlo_l : l ≠ lo := fun z => by rw [z] at nl0; rw [R.lopn] at nl0; cases nl0
    have nld_l : l ≠ ld := fun z => by rw [z] at nl0; rw [R.ldat] at nl0; cases nl0
    have ap := List.nodup_cons.mp R.apart
    have ap2 := List.nodup_cons.mp ap.2
    have nldlo : ld ≠ lo := fun z => ap.1 (by rw [z]; simp)
    have kp : KeepP CP HB (upd HB lo (.lst ((ps.map fun p => V.ref p.1).reverse ++ [.ref y]))) := fun b dx3 h t q => by
      rw [upd_ne (ne_of q hlo (Ne.symm lst_ins))]
      exact q
    have hin : ∀ p ∈ ps, ∃ dx2 s us2, H p.1 = some (.ins CO dx2 (openF s p.2)) ∧ H p.2 = some (.lst us2) := by
      have go : ∀ (qs : List (Addr × Addr)) (st : List Op), Paired (OR CO CP H) qs st → ∀ p ∈ qs, ∃ dx2 s us2, H p.1 = some (.ins CO dx2 (openF s p.2)) ∧ H p.2 = some (.lst us2) := by
        intro qs st hp
        induction hp with
        | nil => intro p hp; cases hp
        | cons a _ ih =>
          intro p hp
          rcases List.mem_cons.mp hp with e | hp
          · rw [e]
            obtain ⟨dx2, us2, h1, h2, _⟩ := a
            exact ⟨dx2, _, us2, h1, h2⟩
          · exact ih p hp
      exact go ps S.stack R.open_
    refine k _ us ((y, l) :: ps) ⟨fun b o q => ?_, ?_, RB.known.keep fun kv q => by rw [upd_ne (ne_of q hlo dk_lst)]; exact q, ?_, ?_, paired_imp (fun a b q => q.keep kp) RB.data, .cons ⟨dy, [], ?_, ?_, .nil⟩ ?_, R.nr, R.nd, R.no, R.nk, ?_, ?_, ?_⟩
    · rw [upd_ne (ne_of_none q R.no)]
      exact RB.same b o q
    · rw [upd_ne (ne_of RB.obj hlo (Ne.symm lst_ins))]
      exact RB.obj
    · rw [upd_ne nldlo]
      exact RB.ldat
    · rw [upd_same]
      simp
    · rw [upd_ne nlo_y]
      exact hB1
    · rw [upd_ne nlo_l]
      exact hB2
    · have go : ∀ (qs : List (Addr × Addr)) (st : List Op), (∀ q ∈ qs, q.2 ≠ lo) → Paired (OR CO CP HB) qs st → Paired (OR CO CP (upd HB lo (.lst ((ps.map fun p => V.ref p.1).reverse ++ [.ref y])))) qs st := by
        intro qs st hq hp
        induction hp with
        | nil => exact .nil
        | cons a _ ih =>
          have b2 := hq _ List.mem_cons_self
          refine .cons ?_ (ih fun p hp => hq p (List.mem_cons_of_mem _ hp))
          obtain ⟨dx3, us3, e1, e2, e3⟩ := a
          exact ⟨dx3, us3, by rw [upd_ne (ne_of e1 hlo (Ne.symm lst_ins))]; exact e1, by rw [upd_ne b2]; exact e2, paired_imp (fun a b q => q.keep kp) e3⟩
      exact go ps S.stack (fun q hq z => ap2.1 (List.mem_map.mpr ⟨q, hq, z⟩)) RB.open_
    · intro p hp
      rcases List.mem_cons.mp hp with e | hp
      · rw [e]
        exact ⟨R.same.free ny, R.same.free nl0⟩
      · exact R.np p hp
    · refine List.nodup_cons.mpr ⟨fun h => ?_, List.nodup_cons.mpr ⟨fun h => ?_, List.nodup_cons.mpr ⟨fun h => ?_, ap2.2⟩⟩⟩
      · rcases List.mem_cons.mp h with e | h
        · exact nldlo e
        · rcases List.mem_cons.mp h with e | h
          · exact nld_l e.symm
          · exact ap.1 (List.mem_cons_of_mem _ h)
      · rcases List.mem_cons.mp h with e | h
        · exact nlo_l e.symm
        · exact ap2.1 h
      · obtain ⟨q, hq, e⟩ := List.mem_map.mp h
        obtain ⟨_, _, us2, _, h2⟩ := hin q hq
        have e' : q.2 = l := e
        rw [e', nl0] at h2
        cases h2
    · refine List.nodup_cons.mpr ⟨fun h => ?_, R.apart1⟩
      obtain ⟨q, hq, e⟩ := List.mem_map.mp h
      obtain ⟨_, _, us2, h1, _⟩ := hin q hq
      have e' : q.1 = y := e
      rw [e', ny] at h1
      cases h1
end
end Kg
namespace Kg
open PySem PySem.Spec PyProof.Rows L2
/-- one word read: what the reader is then; none: it can't stand -/
def takeS (S : RS) (x : Str) : Option RS := if x = ("(" : Str) then openE S INLIST else if x = ("'" : Str) then openE S QUOTE else if x = ("." : Str) then dotS S else if x = (")" : Str) then closeS S else singleS S x
theorem single_of {S : RS} {x : Str} {d : D} (h : (isInt x = true ∧ d = .int (numVal x)) ∨ (isInt x = false ∧ isName x = true ∧ d = .str x)) : singleS S x = sgS S d := by
  unfold singleS sgS
  rcases h with ⟨h1, rfl⟩ | ⟨h1, h2, rfl⟩
  · rw [if_pos h1]
  · have n : ¬ isInt x = true := by rw [h1]; decide
    rw [if_neg n, if_pos h2]
theorem take_word {S : RS} {x : Str} {d : D} (h : (isInt x = true ∧ d = .int (numVal x)) ∨ (isInt x = false ∧ isName x = true ∧ d = .str x)) : takeS S x = sgS S d := by
  have n1 : ¬ x = ("(" : Str) := fun e => by subst e; revert h; rw [show isInt ("(" : Str) = false by decide +kernel, show isName ("(" : Str) = false by decide +kernel]; simp
  have n2 : ¬ x = ("'" : Str) := fun e => by subst e; revert h; rw [show isInt ("'" : Str) = false by decide +kernel, show isName ("'" : Str) = false by decide +kernel]; simp
  have n3 : ¬ x = ("." : Str) := fun e => by subst e; revert h; rw [show isInt ("." : Str) = false by decide +kernel, show isName ("." : Str) = false by decide +kernel]; simp
  have n4 : ¬ x = (")" : Str) := fun e => by subst e; revert h; rw [show isInt (")" : Str) = false by decide +kernel, show isName (")" : Str) = false by decide +kernel]; simp
  unfold takeS
  rw [if_neg n1, if_neg n2, if_neg n3, if_neg n4]
  exact single_of h
/-- the reader knows one word more -/
theorem RInv.learn {CR CO CP : Addr} {H0 H : Hp} {r : Addr} {S : RS} {dx ld lo : Addr} {lk : Addr × Nat} {us : List V} {ps : List (Addr × Addr)} {kv : List (Key × V)} {x : Str} {v : V} (R : RInv CR CO CP H0 H r S dx ld lo lk us ps)
    (hk : H lk.1 = some (.dK kv)) (ok : KnOk kv) (hl : kv.length ≤ lk.2) (h : (isInt x = true ∧ v = .int (numVal x)) ∨ (isInt x = false ∧ isName x = true ∧ v = .str x)) :
    RInv CR CO CP H0 (upd H lk.1 (.dK (putK kv (Sum.inr x) v))) r S dx ld lo (lk.1, lk.2 + 1) us ps := by
  have k : ∀ b u, b ≠ lk.1 → H b = some u → upd H lk.1 (.dK (putK kv (Sum.inr x) v)) b = some u := fun b u n e => by rw [upd_ne n]; exact e
  have kp : KeepP CP H (upd H lk.1 (.dK (putK kv (Sum.inr x) v))) := fun b dx2 h t q => k b _ (ne_of q hk (Ne.symm dk_ins)) q
  refine ⟨fun b u e => k b u (ne_of_none e R.nk) (R.same b u e), k _ _ (ne_of R.obj hk (Ne.symm dk_ins)) R.obj, ⟨_, upd_same, fun y u e => ?_, Nat.le_trans (DSub.putK_len _ _ _) (Nat.succ_le_succ hl)⟩, k _ _ (ne_of R.ldat hk (Ne.symm dk_lst)) R.ldat, k _ _ (ne_of R.lopn hk (Ne.symm dk_lst)) R.lopn,
    paired_imp (fun a b q => q.keep kp) R.data, paired_imp (fun a b q => ?_) R.open_, R.nr, R.nd, R.no, R.nk, R.np, R.apart, R.apart1⟩
  · rw [valV_put] at e
    by_cases hy : (Sum.inr y : Key) = Sum.inr x
    · rw [if_pos hy] at e
      have h1 : y = x := Sum.inr.inj hy
      have h2 : v = u := Option.some.inj e
      rw [h1, ← h2]
      exact h
    · rw [if_neg hy] at e
      exact ok y u e
  · obtain ⟨dx3, us3, e1, e2, e3⟩ := q
    exact ⟨dx3, us3, k _ _ (ne_of e1 hk (Ne.symm dk_ins)) e1, k _ _ (ne_of e2 hk (Ne.symm dk_lst)) e2, paired_imp (fun a b q => q.keep kp) e3⟩
theorem RInv.more {CR CO CP : Addr} {H0 H : Hp} {r : Addr} {S : RS} {dx ld lo k : Addr} {n m : Nat} {us : List V} {ps : List (Addr × Addr)} (R : RInv CR CO CP H0 H r S dx ld lo (k, n) us ps) (h : n ≤ m) : RInv CR CO CP H0 H r S dx ld lo (k, m) us ps := by
  obtain ⟨kv, e, o, l⟩ := R.known
  exact ⟨R.same, R.obj, ⟨kv, e, o, Nat.le_trans l h⟩, R.ldat, R.lopn, R.data, R.open_, R.nr, R.nd, R.no, R.nk, R.np, R.apart, R.apart1⟩
def spTakeE (CR CO CP CB : Addr) : Sp := fun vs H Q E => ∃ (H0 : Hp) (r : Addr) (S : RS) (dx ld lo : Addr) (lk : Addr × Nat) (us : List V) (ps : List (Addr × Addr)) (x : Str) (pl : V), vs = [.ref r, .str x, pl] ∧ RInv CR CO CP H0 H r S dx ld lo lk us ps ∧ Small 1000000 S ∧ TailOk S ∧ x.length ≤ 1000000 ∧ (isInt x = true → x.length ≤ 10000) ∧ lk.2 ≤ 1000000 ∧
  (∀ S2, takeS S x = some S2 → ∀ H' us' ps', RInv CR CO CP H0 H' r S2 dx ld lo (lk.1, lk.2 + 1) us' ps' → Q .non H') ∧ (takeS S x = none → ∀ H', Same H0 H' → ErrW CB H' pl E)
section
variable {P : Program} {w : World} {K : PySem.W.Frag} {mg : Str → Option Value} {base : Heap} {f CB CR CO CP fE fO fW fP fS fT fD fC fH fI fN fNo fPd : Addr} {fd fdE fdT fdS fdD fdC fdH fdI fdN fdNo fdPd : FuncData}
theorem ok_takeE (F : FnP K "take" "Reader.take" sTake f fd) (T : RT K mg CR CO fO fW fP fS fT) (X : ET K mg CB fE) (FE : FnP K "__init__" "KeptError.__init__" sEInit fE fdE) (mD : Meth K CR "take_dot" fD) (mC : Meth K CR "take_closing" fC)
    (W : WT K mg fH fI fN) (FH : FnP K "has_only" "has_only" sHas fH fdH) (FI : FnP K "is_integer" "is_integer" sIsInt fI fdI) (FN : FnP K "is_name" "is_name" sIsName fN fdN) (O : NoT mg fNo fPd) (FNo : FnP K "number_of" "number_of" sNumber fNo fdNo) (FPd : FnP K "paired" "paired" sPaired fPd fdPd)
    (GT : FnOk P w K mg base (L2.CX P w) 3 fT fdT ["self", "state", "place"] (spOpE CR CO CP CB)) (GD : FnOk P w K mg base (L2.CX P w) 3 fD fdD ["self", "place"] (spDot CR CO CP CB)) (GC : FnOk P w K mg base (L2.CX P w) 5 fC fdC ["self", "place"] (spClose CR CO CP CB)) (GS : FnOk P w K mg base (L2.CX P w) 5 fS fdS ["self", "datum", "place"] (spSingle CR CO CP CB))
    (bT : Binds K fdT ["self", "state", "place"] []) (bD : Binds K fdD ["self", "place"] []) (bC : Binds K fdC ["self", "place"] []) (bS : Binds K fdS ["self", "datum", "place"] []) :
    FnOk P w K mg base (L2.CX P w) 6 f fd ["self", "word", "place"] (spTakeE CR CO CP CB) := by
  obtain ⟨t1, g1⟩ := T.sL
  obtain ⟨t2, g2⟩ := T.sDot
  obtain ⟨t3, g3⟩ := T.sQ
  obtain ⟨u1, k1⟩ := W.fig
  obtain ⟨u2, k2⟩ := W.signs
  obtain ⟨u3, k3⟩ := W.longest
  obtain ⟨u4, k4⟩ := W.dot
  obtain ⟨u6, k6⟩ := O.gC
  obtain ⟨u7, k7⟩ := O.gS
  have GE : FnOk P w K mg base CX0 1 fE fdE ["self", "value"] (spEInit CB) := ok_einit FE X
  have bE : Binds K fdE ["self", "value"] [] := FE.bindsN fun _ _ _ _ _ _ us hl => match us, hl with | [_, _], _ => rfl
  have GI : FnOk P w K mg base CX0 2 fI fdI ["word"] spIsInt := ok_isInt FI FH W.gH k1
  have GN : FnOk P w K mg base CX0 2 fN fdN ["word"] spIsName := ok_isName FN FH W.gH W.len k1 k2 k3 k4
  have GO : FnOk P w K mg base CX0 2 fNo fdNo ["word"] spNumber := ok_number FNo FPd O.gP W.len O.gR W.max O.gI k6 k7
  have bI : Binds K fdI ["word"] [] := FI.bindsN fun _ _ _ _ _ _ us hl => match us, hl with | [_], _ => rfl
  have bN : Binds K fdN ["word"] [] := FN.bindsN fun _ _ _ _ _ _ us hl => match us, hl with | [_], _ => rfl
  have bO : Binds K fdNo ["word"] [] := FNo.bindsN fun _ _ _ _ _ _ us hl => match us, hl with | [_], _ => rfl
  refine F.ok scTake (fun vs H Q E h => ?_) (fun cdv A outer s H vs Q E hr h => ?_)
  · obtain ⟨H0, r, S, dx, ld, lo, lk, us, ps, x, pl, rfl, _⟩ := h
    rfl
  · obtain ⟨H0, r, S, dx, ld, lo, lk, us, ps, x, pl, rfl, R, sm, to, hm, hl, hn, k, kE⟩ := h
    have hr3 : Room 3 _ := hr.mono (by decide)
    have hr2 : Room 2 _ := hr.mono (by decide)
    have hu := hu_of hr
    refine ⟨_, (pss_one (ps_if (pt_cmp (pc_din hu (pv 1) (pe_fld (pv 0) rfl))) (pss_one (ps_expr (pe_meth (E := E) (pv 0) T.cR T.mS GS hr bS .nil (passes_call (takes_of rfl rfl rfl rfl) (fun _ _ _ _ h => h)) (pa_cons (pe_dget hu (pe_fld (pv 0) rfl) (pv 1) (fun _ _ => rfl)) (pa_cons (pv 2) pa_nil)))))
      (pss_one (ps_if (pt_cmpR op_eq (pv 1) pe_str (nomark _)) (pss_one (ps_expr (pe_meth (E := E) (pv 0) T.cR T.mT GT hr3 bT .nil (passes_call (takes_of rfl rfl rfl rfl) (fun _ _ _ _ h => h)) (pa_cons (pgS g1) (pa_cons (pv 2) pa_nil)))))
      (pss_one (ps_if (pt_cmpR op_eq (pv 1) pe_str (nomark _)) (pss_one (ps_expr (pe_meth (E := E) (pv 0) T.cR T.mT GT hr3 bT .nil (passes_call (takes_of rfl rfl rfl rfl) (fun _ _ _ _ h => h)) (pa_cons (pgS g3) (pa_cons (pv 2) pa_nil)))))
        (pss_one (ps_if (pt_cmpR op_eq (pv 1) (pgS g2) (nomark _)) (pss_one (ps_expr (pe_meth (E := E) (pv 0) T.cR mD GD hr3 bD .nil (passes_call (takes_of rfl rfl rfl rfl) (fun _ _ _ _ h => h)) (pa_cons (pv 2) pa_nil))))
          (pss_one (ps_if (pt_cmpR op_eq (pv 1) pe_str (nomark _)) (pss_one (ps_expr (pe_meth (E := E) (pv 0) T.cR mC GC hr bC .nil (passes_call (takes_of rfl rfl rfl rfl) (fun _ _ _ _ h => h)) (pa_cons (pv 2) pa_nil))))
            (pss_one (ps_if (pt_val (pe_call GI hr2 rfl W.gI FI.kp bI .nil pass0 (pa_cons (pv 1) pa_nil)))
              (pss_cons (ps_dput hu (pe_fld (pv 0) rfl) (pv 1) (pe_call GO hr2 rfl O.gN FNo.kp bO .nil pass0 (pa_cons (pv 1) pa_nil)) rfl)
                (pss_one (ps_expr (pe_meth (E := E) (pv 0) T.cR T.mS GS hr bS .nil (passes_call (takes_of rfl rfl rfl rfl) (fun _ _ _ _ h => h)) (pa_cons (pe_dget hu (pe_fld (pv 0) rfl) (pv 1) (fun _ _ => rfl)) (pa_cons (pv 2) pa_nil))))))
              (pss_one (ps_if (pt_val (pe_call GN hr2 rfl W.gN FN.kp bN .nil pass0 (pa_cons (pv 1) pa_nil)))
                (pss_cons (ps_dput hu (pe_fld (pv 0) rfl) (pv 1) (pv 1) rfl)
                  (pss_one (ps_expr (pe_meth (E := E) (pv 0) T.cR T.mS GS hr bS .nil (passes_call (takes_of rfl rfl rfl rfl) (fun _ _ _ _ h => h)) (pa_cons (pv 1) (pa_cons (pv 2) pa_nil))))))
                (pss_one (ps_raise rfl (takes_of rfl rfl rfl rfl) (pmk_oex X.x X.iC X.tI GE hr2 bE .nil pass0 rfl X.gB (pa_cons (pv 2) pa_nil)))))))))))))))))), ?_⟩
    have noS : (readF ld lo lk.1).lookup ("take_single" : Str) = none := readF_no _ _ _ (by decide +kernel) (by decide +kernel) (by decide +kernel)
    have noT : (readF ld lo lk.1).lookup ("take_opening" : Str) = none := readF_no _ _ _ (by decide +kernel) (by decide +kernel) (by decide +kernel)
    have noD : (readF ld lo lk.1).lookup ("take_dot" : Str) = none := readF_no _ _ _ (by decide +kernel) (by decide +kernel) (by decide +kernel)
    have noC : (readF ld lo lk.1).lookup ("take_closing" : Str) = none := readF_no _ _ _ (by decide +kernel) (by decide +kernel) (by decide +kernel)
    obtain ⟨kv, hkv, okv, lkv⟩ := id R.known
    have le1 : lk.2 ≤ lk.2 + 1 := Nat.le_succ _
    have sz : kv.length < sizeLine := Nat.lt_of_le_of_lt (Nat.le_trans lkv hn) (by decide)
    refine ⟨_, rfl, _, rfl, r, CR, dx, _, _, rfl, R.obj, T.cR, T.rK, readF_known _ _ _, lk.1, _, rfl, DGet.k (k := Sum.inr x) hkv, _, rfl, ?_⟩
    cases hin : valV kv (Sum.inr x) with
    | some v =>
      refine iteT ?_
      obtain ⟨d, dv, e⟩ : ∃ d, DR CP H v d ∧ takeS S x = sgS S d := by
        rcases okv x v hin with ⟨h1, rfl⟩ | ⟨h1, h2, rfl⟩
        · exact ⟨.int (numVal x), .int _, take_word (.inl ⟨h1, rfl⟩)⟩
        · exact ⟨.str x, .str _, take_word (.inr ⟨h1, h2, rfl⟩)⟩
      rw [e] at k kE
      refine ⟨_, rfl, r, dx, _, rfl, R.obj, noS, _, rfl, r, CR, dx, _, _, rfl, R.obj, T.cR, T.rK, readF_known _ _ _, _, rfl, lk.1, v, rfl, ?_, _, rfl, ?_⟩
      · rw [← hin]
        exact DGet.k (k := Sum.inr x) hkv
      · exact ⟨H0, r, S, dx, ld, lo, lk, us, ps, v, d, _, rfl, R, dv, sm, fun S2 q H' us' ps' R' => k S2 q H' us' ps' (RInv.more (k := lk.1) (n := lk.2) R' le1), fun z => kE z _ R.same⟩
    | none =>
    refine iteF ?_
    refine ⟨_, rfl, rfl, _, rfl, ?_⟩
    refine ifS (fun h1 => ?_) (fun h1 => ?_)
    · have e : takeS S x = openE S INLIST := if_pos h1
      rw [e] at k kE
      exact ⟨_, rfl, r, dx, _, rfl, R.obj, noT, _, rfl, H0, r, S, dx, ld, lo, lk, us, ps, INLIST, _, rfl, R, sm, fun S2 q H' us' ps' R' => k S2 q H' us' ps' (RInv.more (k := lk.1) (n := lk.2) R' le1), fun z => kE z _ R.same⟩
    refine ⟨_, rfl, rfl, _, rfl, ?_⟩
    refine ifS (fun h2 => ?_) (fun h2 => ?_)
    · have e : takeS S x = openE S QUOTE := (if_neg h1).trans (if_pos h2)
      rw [e] at k kE
      exact ⟨_, rfl, r, dx, _, rfl, R.obj, noT, _, rfl, H0, r, S, dx, ld, lo, lk, us, ps, QUOTE, _, rfl, R, sm, fun S2 q H' us' ps' R' => k S2 q H' us' ps' (RInv.more (k := lk.1) (n := lk.2) R' le1), fun z => kE z _ R.same⟩
    refine ⟨_, rfl, rfl, _, rfl, ?_⟩
    refine ifS (fun h3 => ?_) (fun h3 => ?_)
    · have e : takeS S x = dotS S := (if_neg h1).trans ((if_neg h2).trans (if_pos h3))
      rw [e] at k kE
      exact ⟨_, rfl, r, dx, _, rfl, R.obj, noD, _, rfl, H0, r, S, dx, ld, lo, lk, us, ps, _, rfl, R, fun S2 q H' us' ps' R' => k S2 q H' us' ps' (RInv.more (k := lk.1) (n := lk.2) R' le1), fun z => kE z _ R.same⟩
    refine ⟨_, rfl, rfl, _, rfl, ?_⟩
    refine ifS (fun h4 => ?_) (fun h4 => ?_)
    · have e : takeS S x = closeS S := (if_neg h1).trans ((if_neg h2).trans ((if_neg h3).trans (if_pos h4)))
      rw [e] at k kE
      exact ⟨_, rfl, r, dx, _, rfl, R.obj, noC, _, rfl, H0, r, S, dx, ld, lo, lk, us, ps, _, rfl, R, sm, to, fun S2 q H' us' ps' R' => k S2 q H' us' ps' (RInv.more (k := lk.1) (n := lk.2) R' le1), fun z H' s1 => kE z H' (R.same.trans s1)⟩
    refine ⟨_, rfl, x, rfl, hm, fun H1 s1 => ⟨_, rfl, ?_⟩⟩
    have R1 := R.mono s1
    cases hi : isInt x with
    | true =>
      refine iteT ?_
      have e : takeS S x = sgS S (.int (numVal x)) := take_word (.inl ⟨hi, rfl⟩)
      rw [e] at k kE
      obtain ⟨f1, f2⟩ := isInt_figures hi
      refine ⟨_, rfl, x, _, rfl, hl hi, rfl, Nat.le_trans (removeprefix_len _ _) (hl hi), f1, f2, fun H2 s2 => ?_⟩
      have R2 := R1.mono s2
      have hk2 := s2 _ _ (s1 _ _ hkv)
      have R3 := R2.learn hk2 okv lkv (x := x) (v := .int (numVal x)) (.inl ⟨hi, rfl⟩)
      refine ⟨_, rfl, r, CR, dx, _, _, rfl, R2.obj, T.cR, T.rK, readF_known _ _ _, _, rfl, lk.1, _, rfl, DPut.k (k := Sum.inr x) hk2 sz, ?_⟩
      refine ⟨_, rfl, r, dx, _, rfl, R3.obj, noS, _, rfl, r, CR, dx, _, _, rfl, R3.obj, T.cR, T.rK, readF_known _ _ _, _, rfl, lk.1, .int (numVal x), rfl, ?_, _, rfl, ?_⟩
      · have e2 : valV (putK kv (Sum.inr x) (.int (numVal x))) (Sum.inr x) = some (.int (numVal x)) := by rw [valV_put, if_pos rfl]
        rw [← e2]
        exact DGet.k (k := Sum.inr x) upd_same
      · exact ⟨H0, r, S, dx, ld, lo, _, us, ps, _, _, _, rfl, R3, .int (numVal x), sm, k, fun z => kE z _ R3.same⟩
    | false =>
      refine iteF ?_
      refine ⟨_, rfl, x, rfl, hm, fun H2 s2 => ⟨_, rfl, ?_⟩⟩
      have R2 := R1.mono s2
      cases hn2 : isName x with
      | true =>
        refine iteT ?_
        have e : takeS S x = sgS S (.str x) := take_word (.inr ⟨hi, hn2, rfl⟩)
        rw [e] at k kE
        have hk2 := s2 _ _ (s1 _ _ hkv)
        have R3 := R2.learn hk2 okv lkv (x := x) (v := .str x) (.inr ⟨hi, hn2, rfl⟩)
        refine ⟨_, rfl, _, rfl, r, CR, dx, _, _, rfl, R2.obj, T.cR, T.rK, readF_known _ _ _, _, rfl, lk.1, _, rfl, DPut.k (k := Sum.inr x) hk2 sz, ?_⟩
        refine ⟨_, rfl, r, dx, _, rfl, R3.obj, noS, _, rfl, _, rfl, ?_⟩
        exact ⟨H0, r, S, dx, ld, lo, _, us, ps, _, _, _, rfl, R3, .str x, sm, k, fun z => kE z _ R3.same⟩
      | false =>
        refine iteF ?_
        have e : takeS S x = none := by
          unfold takeS singleS
          rw [if_neg h1, if_neg h2, if_neg h3, if_neg h4]
          split
          · rfl
          · rw [if_neg (show ¬ isInt x = true by rw [hi]; decide), if_neg (show ¬ isName x = true by rw [hn2]; decide)]
        exact ⟨_, rfl, (by show 1 ≤ 1000; decide), fun a na => err_made na (kE e _ R2.same)⟩
end
end Kg
namespace Kg
open PySem PySem.Spec PyProof.Rows L2
/-! ### a row of words read -/
/-- what goes on from word to word: sizes; behind a tail there is one -/
structure Good (m : Nat) (S : RS) : Prop where
  small : Small m S
  tails : ∀ o ∈ S.stack, o.state = TAILED → o.data ≠ []
theorem Good.ok {m : Nat} {S : RS} (g : Good m S) : TailOk S := fun o st e => g.tails o (by rw [e]; exact List.mem_cons_self)
theorem Good.mono {m n : Nat} {S : RS} (g : Good m S) (h : m ≤ n) : Good n S := ⟨⟨Nat.le_trans g.small.1 h, Nat.le_trans g.small.2.1 h, fun o ho => Nat.le_trans (g.small.2.2 o ho) h⟩, g.tails⟩
theorem putQ_good {m : Nat} {data : List D} : ∀ {st : List Op} {d : D}, Good m ⟨data, st⟩ → Good (m + 1) (putQ data st d)
  | [], d, g => ⟨⟨by
      show (data ++ [d]).length ≤ m + 1
      rw [List.length_append]
      exact Nat.succ_le_succ g.small.1, Nat.zero_le _, fun o ho => by cases ho⟩, fun o ho => by cases ho⟩
  | o :: st, d, g => by
    have hs : st.length + 1 ≤ m := g.small.2.1
    show Good (m + 1) (if o.state = QUOTE then putQ data st (quoteD d) else _)
    by_cases hq : o.state = QUOTE
    · rw [if_pos hq]
      exact putQ_good ⟨⟨g.small.1, by show st.length ≤ m; omega, fun o2 ho2 => g.small.2.2 o2 (List.mem_cons_of_mem _ ho2)⟩, fun o2 ho2 => g.tails o2 (List.mem_cons_of_mem _ ho2)⟩
    · rw [if_neg hq]
      refine ⟨⟨Nat.le_succ_of_le g.small.1, Nat.le_succ_of_le hs, fun o2 ho2 => ?_⟩, fun o2 ho2 _ => ?_⟩
      · rcases List.mem_cons.mp ho2 with e | ho2
        · rw [e]
          show (o.data ++ [d]).length ≤ m + 1
          rw [List.length_append]
          exact Nat.succ_le_succ (g.small.2.2 o List.mem_cons_self)
        · exact Nat.le_succ_of_le (g.small.2.2 o2 (List.mem_cons_of_mem _ ho2))
      · rcases List.mem_cons.mp ho2 with e | ho2
        · rw [e]
          show o.data ++ [d] ≠ []
          simp
        · exact g.tails o2 (List.mem_cons_of_mem _ ho2) (by assumption)
theorem takeS_good {m : Nat} {S S2 : RS} {x : Str} (g : Good m S) (h : takeS S x = some S2) : Good (m + 1) S2 := by
  have open_ : ∀ st : Str, st ≠ TAILED → openE S st = some S2 → Good (m + 1) S2 := fun st n e => by
    unfold openE at e
    split at e
    · cases e
    · have e2 := Option.some.inj e
      rw [← e2]
      refine ⟨⟨Nat.le_succ_of_le g.small.1, Nat.succ_le_succ g.small.2.1, fun o ho => ?_⟩, fun o ho z => ?_⟩
      · rcases List.mem_cons.mp ho with q | ho
        · rw [q]
          exact Nat.zero_le _
        · exact Nat.le_succ_of_le (g.small.2.2 o ho)
      · rcases List.mem_cons.mp ho with q | ho
        · rw [q] at z
          exact absurd z n
        · exact g.tails o ho z
  unfold takeS at h
  split at h
  · exact open_ _ (by decide +kernel) h
  split at h
  · exact open_ _ (by decide +kernel) h
  split at h
  · unfold dotS at h
    cases hs : S.stack with
    | nil =>
      rw [hs] at h
      cases h
    | cons o st =>
      rw [hs] at h
      have h' : (if o.state = INLIST ∧ o.data ≠ [] then some ({ S with stack := { o with state := DOTTED } :: st } : RS) else none) = some S2 := h
      split at h'
      · have e2 := Option.some.inj h'
        rw [← e2]
        have g2 : ∀ o2 ∈ st, o2 ∈ S.stack := fun o2 ho2 => by rw [hs]; exact List.mem_cons_of_mem _ ho2
        have g3 : o ∈ S.stack := by rw [hs]; exact List.mem_cons_self
        have hl := g.small.2.1
        rw [hs] at hl
        refine ⟨⟨Nat.le_succ_of_le g.small.1, Nat.le_succ_of_le hl, fun o2 ho2 => ?_⟩, fun o2 ho2 z => ?_⟩
        · rcases List.mem_cons.mp ho2 with q | ho2
          · rw [q]
            exact Nat.le_succ_of_le (g.small.2.2 o g3)
          · exact Nat.le_succ_of_le (g.small.2.2 o2 (g2 _ ho2))
        · rcases List.mem_cons.mp ho2 with q | ho2
          · rw [q] at z
            exact absurd z (by show ¬ DOTTED = TAILED; decide +kernel)
          · exact g.tails o2 (g2 _ ho2) z
      · cases h'
  split at h
  · unfold closeS at h
    cases hs : S.stack with
    | nil =>
      rw [hs] at h
      cases h
    | cons o st =>
      rw [hs] at h
      have hl := g.small.2.1
      rw [hs] at hl
      have gs : Good m ⟨S.data, st⟩ := ⟨⟨g.small.1, Nat.le_of_succ_le hl, fun o2 ho2 => g.small.2.2 o2 (by rw [hs]; exact List.mem_cons_of_mem _ ho2)⟩, fun o2 ho2 => g.tails o2 (by rw [hs]; exact List.mem_cons_of_mem _ ho2)⟩
      have h' : (if o.state = INLIST then some (putQ S.data st (listD o.data (.str "()"))) else if o.state = TAILED then some (putQ S.data st (listD o.data.dropLast (o.data.getLastD (.str "()")))) else none) = some S2 := h
      split at h'
      · rw [← Option.some.inj h']
        exact putQ_good gs
      · split at h'
        · rw [← Option.some.inj h']
          exact putQ_good gs
        · cases h'
  · have gs : Good m ⟨S.data, S.stack⟩ := g
    unfold singleS at h
    split at h
    · cases h
    · split at h
      · rw [← Option.some.inj h]
        exact putQ_good gs
      · split at h
        · rw [← Option.some.inj h]
          exact putQ_good gs
        · cases h
/-- all words read: the end; or the place of the first that can't stand -/
def runE (S : RS) : List (Str × Nat × Nat) → RS ⊕ (Nat × Nat)
  | [] => .inl S
  | p :: r => match takeS S p.1 with
    | some S2 => runE S2 r
    | none => .inr p.2
end Kg
namespace Kg
open PySem PySem.Spec PyProof.Rows L2
theorem s0_good : Good 0 S0 := ⟨⟨Nat.le_refl _, Nat.le_refl _, fun o ho => by cases ho⟩, fun o ho => by cases ho⟩
/-- words read, each with what tells its place -/
def runV (S : RS) : List (Str × V) → RS ⊕ V
  | [] => .inl S
  | p :: r => match takeS S p.1 with
    | some S2 => runV S2 r
    | none => .inr p.2
/-- words read up to one datum -/
def runW (S : RS) : List (Str × V) → RS ⊕ V
  | [] => .inl S
  | p :: r => if S.data ≠ [] then .inr p.2 else match takeS S p.1 with
    | some S2 => runW S2 r
    | none => .inr p.2
/-- a word with what tells its place, as a tuple -/
def PW (H : Hp) (v : V) (p : Str × V) : Prop := ∃ T, v = .ref T ∧ H T = some (.tup [.str p.1, p.2])
theorem PW.same {H H' : Hp} (s : Same H H') {v : V} {p : Str × V} (r : PW H v p) : PW H' v p := by
  obtain ⟨T, e, h⟩ := r
  exact ⟨T, e, s _ _ h⟩
/-- words that can be read -/
structure WsOk (ws : List (Str × V)) : Prop where
  many : ws.length ≤ 1000000
  word : ∀ p ∈ ws, p.1.length ≤ 1000000 ∧ (isInt p.1 = true → p.1.length ≤ 10000)
def spAll (CB CP : Addr) : Sp := fun vs H Q E => ∃ (l : Addr) (us : List V) (ws : List (Str × V)) (en : V), vs = [.ref l, en] ∧ H l = some (.lst us) ∧ Paired (PW H) us ws ∧ WsOk ws ∧
  (∀ S, runV S0 ws = .inl S → S.stack = [] → ∀ H' l' us', Same H H' → H' l' = some (.lst us') → Paired (DR CP H') us' S.data → Q (.ref l') H') ∧
  (∀ S, runV S0 ws = .inl S → S.stack ≠ [] → ∀ H', Same H H' → ErrW CB H' en E) ∧
  (∀ pl, runV S0 ws = .inr pl → ∀ H', Same H H' → ErrW CB H' pl E)
def spLone (CB CP : Addr) : Sp := fun vs H Q E => ∃ (l : Addr) (us : List V) (ws : List (Str × V)) (en : V), vs = [.ref l, en] ∧ H l = some (.lst us) ∧ Paired (PW H) us ws ∧ WsOk ws ∧
  (∀ S d r, runW S0 ws = .inl S → S.data = d :: r → ∀ H' u, Same H H' → DR CP H' u d → Q u H') ∧
  (∀ S, runW S0 ws = .inl S → S.data = [] → ∀ H', Same H H' → ErrW CB H' en E) ∧
  (∀ pl, runW S0 ws = .inr pl → ∀ H', Same H H' → ErrW CB H' pl E)
theorem scAll : FnScope ["words", "end", "reader", "word", "place"] ["words", "end"] (defScope sAllData) := ⟨rfl, rfl, rfl, by decide +kernel, rfl, by decide +kernel, by decide +kernel⟩
theorem scLone : FnScope ["words", "end", "reader", "word", "place"] ["words", "end"] (defScope sLone) := ⟨rfl, rfl, rfl, by decide +kernel, rfl, by decide +kernel, by decide +kernel⟩
section
variable {P : Program} {w : World} {K : PySem.W.Frag} {mg : Str → Option Value} {base : Heap} {f CB CR CO CP fE : Addr} {fd fdE : FuncData}
theorem ok_all {fRI fO fW fP fS fT fTk : Addr} {fdRI fdTk : FuncData} (F : FnP K "all_data" "all_data" sAllData f fd) (T : ET K mg CB fE) (FE : FnP K "__init__" "KeptError.__init__" sEInit fE fdE)
    (R : RT K mg CR CO fO fW fP fS fT) (MR : Mk K CR fRI) (gR : mg "Reader" = some (.ref CR)) (FR : FnP K "__init__" "Reader.__init__" sRInit fRI fdRI)
    (GT : FnOk P w K mg base (L2.CX P w) 6 fTk fdTk ["self", "word", "place"] (spTakeE CR CO CP CB)) (bT : Binds K fdTk ["self", "word", "place"] []) (mT : Meth K CR "take" fTk) :
    FnOk P w K mg base (L2.CX P w) 7 f fd ["words", "end"] (spAll CB CP) := by
  have GE : FnOk P w K mg base CX0 1 fE fdE ["self", "value"] (spEInit CB) := ok_einit FE T
  have GR : FnOk P w K mg base CX0 1 fRI fdRI ["self"] (spRInit CR) := ok_rinit FR R.cR R.rD R.rO R.rK
  have bE : Binds K fdE ["self", "value"] [] := FE.bindsN fun _ _ _ _ _ _ us hl => match us, hl with | [_, _], _ => rfl
  have bR : Binds K fdRI ["self"] [] := FR.bindsN fun _ _ _ _ _ _ us hl => match us, hl with | [_], _ => rfl
  refine F.ok scAll (fun vs H Q E h => ?_) (fun cdv A outer s H vs Q E hr h => ?_)
  · obtain ⟨l, us, ws, en, rfl, _⟩ := h
    rfl
  · obtain ⟨l, us, ws, en, rfl, hl, hp, wo, k1, k2, k3⟩ := h
    have hr2 : Room 2 _ := hr.mono (by decide)
    refine ⟨_, pss_cons (ps_set (i := 2) scAll.nd rfl (Or.inl rfl) (pe_make0 MR GR hr2 rfl gR bR .nil pass0))
      (pss_cons (ps_for (passes_of rfl) rfl (pi_list (pv 0)) (pg_tup rfl (pgs_cons (pg_name (i := 3) scAll.nd rfl (Or.inl rfl)) (pgs_cons (pg_name (i := 4) scAll.nd rfl (Or.inl rfl)) pgs_nil)))
        (pss_one (ps_expr (pe_meth (E := E) (pv 2) R.cR mT GT hr bT .nil (passes_call (takes_of rfl rfl rfl rfl) (fun _ _ _ _ h => h)) (pa_cons (pv 3) (pa_cons (pv 4) pa_nil))))))
      (pss_cons (ps_if (pt_truth (pe_fld (pv 2) rfl) (by intro _; rfl)) (pss_one (ps_raise rfl (takes_of rfl rfl rfl rfl) (pmk_oex T.x T.iC T.tI GE hr2 bE .nil pass0 rfl T.gB (pa_cons (pv 1) pa_nil)))) pss_nil)
      (pss_one (ps_ret (pe_fld (pv 2) rfl))))), ?_⟩
    have noT : ∀ a b c : Addr, (readF a b c).lookup ("take" : Str) = none := fun a b c => readF_no _ _ _ (by decide +kernel) (by decide +kernel) (by decide +kernel)
    intro y dx ny ndx ne
    refine ⟨y, dx, rfl, upd_same, fun ld lo lk hld hlo hlk nll H2 hobj hld2 hlo2 hlk2 keep => ⟨rfl, ?_⟩⟩
    have sm : Same H H2 := fun b o q => keep b o (ne_of_none q ny) (by rw [upd_ne (ne_of_none q ny), upd_ne (ne_of_none q ndx)]; exact q)
    have R0 : RInv CR CO CP H H2 y S0 dx ld lo (lk, 0) [] [] := ⟨sm, hobj, ⟨[], hlk2, fun x v e => by simp [valV] at e, Nat.le_refl _⟩, hld2, hlo2, .nil, .nil, ny, free_of (free_of hld), free_of (free_of hlo), free_of (free_of hlk), (fun p hp => by cases hp), (by simp [nll]), (by simp)⟩
    refine ⟨_, rfl, l, rfl, ⟨_, SqL.of (sm _ _ hl)⟩, for_list (K := K) (a := l) (xs := us) (fun i σ H' => ∃ (S : RS) (us' : List V) (ps : List (Addr × Addr)) (v4 v5 : Option V), σ = [some (.ref l), some en, some (.ref y), v4, v5] ∧
      RInv CR CO CP H H' y S dx ld lo (lk, i) us' ps ∧ Good i S ∧ runV S0 ws = runV S (ws.drop i)) ⟨S0, [], [], none, none, rfl, R0, s0_good, rfl⟩ (fun i σ H' _ ⟨_, _, _, _, _, _, R', _⟩ => SqL.of (R'.same _ _ hl)) ?_ ?_⟩
    · rintro i z σ H3 hz ⟨S, us', ps, v4, v5, rfl, R', g, run⟩
      obtain ⟨p, hpi, Ta, rfl, hTa⟩ := paired_get hp hz
      refine ⟨Ta, _, rfl, SqT.of (R'.same _ _ hTa), rfl, _, _, rfl, _, _, rfl, rfl, ?_⟩
      obtain ⟨hi, hpe⟩ := List.getElem?_eq_some_iff.mp hpi
      have hdrop : ws.drop i = p :: ws.drop (i + 1) := by rw [List.drop_eq_getElem_cons hi, hpe]
      have him : i ≤ 1000000 := Nat.le_trans (Nat.le_of_lt hi) wo.many
      have g2 : Good 1000000 S := g.mono him
      have step : runV S0 ws = match takeS S p.1 with | some S2 => runV S2 (ws.drop (i + 1)) | none => .inr p.2 := by
        rw [run, hdrop]
        rfl
      refine ⟨_, rfl, y, dx, _, rfl, R'.obj, noT _ _ _, _, rfl, _, rfl, ?_⟩
      refine ⟨H, y, S, dx, ld, lo, (lk, i), us', ps, p.1, _, rfl, R', g2.small, g2.ok, (wo.word p (List.mem_of_getElem? hpi)).1, (wo.word p (List.mem_of_getElem? hpi)).2, him, fun S2 e H4 us4 ps4 R4 => ?_, fun e H4 s4 => ?_⟩
      · rw [e] at step
        exact ⟨S2, us4, ps4, _, _, rfl, R4, takeS_good g e, step⟩
      · rw [e] at step
        exact k3 _ step _ s4
    · rintro σ H3 ⟨S, us', ps, v4, v5, rfl, R', g, run⟩
      have el : ws.drop us.length = [] := by rw [Paired.length hp, List.drop_length]
      rw [el] at run
      have run2 : runV S0 ws = .inl S := run
      have hO := R'.open_
      refine ⟨_, rfl, y, CR, dx, _, _, rfl, R'.obj, R.cR, R.rO, readF_opened _ _ _, !(((ps.map fun p => V.ref p.1).reverse).isEmpty), Or.inl ⟨_, SqL.of R'.lopn, rfl⟩, ?_⟩
      by_cases hst : S.stack = []
      · rw [hst] at hO
        cases hO
        refine iteF ?_
        exact ⟨_, rfl, y, CR, dx, _, _, rfl, R'.obj, R.cR, R.rD, readF_data _ _ _, k1 S run2 hst _ _ _ R'.same R'.ldat R'.data⟩
      · have hne : (!(((ps.map fun p => V.ref p.1).reverse).isEmpty)) = true := by
          cases ps with
          | nil =>
            generalize S.stack = st at hst hO
            cases hO
            exact absurd rfl hst
          | cons p ps => simp
        rw [hne]
        refine iteT ?_
        exact ⟨_, rfl, (by show 1 ≤ 1000; decide), fun a na => err_made na (k2 S run2 hst _ R'.same)⟩
theorem ok_lone {fRI fO fW fP fS fT fTk : Addr} {fdRI fdTk : FuncData} (F : FnP K "lone_datum" "lone_datum" sLone f fd) (T : ET K mg CB fE) (FE : FnP K "__init__" "KeptError.__init__" sEInit fE fdE)
    (R : RT K mg CR CO fO fW fP fS fT) (MR : Mk K CR fRI) (gR : mg "Reader" = some (.ref CR)) (FR : FnP K "__init__" "Reader.__init__" sRInit fRI fdRI)
    (GT : FnOk P w K mg base (L2.CX P w) 6 fTk fdTk ["self", "word", "place"] (spTakeE CR CO CP CB)) (bT : Binds K fdTk ["self", "word", "place"] []) (mT : Meth K CR "take" fTk) :
    FnOk P w K mg base (L2.CX P w) 7 f fd ["words", "end"] (spLone CB CP) := by
  have GE : FnOk P w K mg base CX0 1 fE fdE ["self", "value"] (spEInit CB) := ok_einit FE T
  have GR : FnOk P w K mg base CX0 1 fRI fdRI ["self"] (spRInit CR) := ok_rinit FR R.cR R.rD R.rO R.rK
  have bE : Binds K fdE ["self", "value"] [] := FE.bindsN fun _ _ _ _ _ _ us hl => match us, hl with | [_, _], _ => rfl
  have bR : Binds K fdRI ["self"] [] := FR.bindsN fun _ _ _ _ _ _ us hl => match us, hl with | [_], _ => rfl
  refine F.ok scLone (fun vs H Q E h => ?_) (fun cdv A outer s H vs Q E hr h => ?_)
  · obtain ⟨l, us, ws, en, rfl, _⟩ := h
    rfl
  · obtain ⟨l, us, ws, en, rfl, hl, hp, wo, k1, k2, k3⟩ := h
    have hr2 : Room 2 _ := hr.mono (by decide)
    refine ⟨_, pss_cons (ps_set (i := 2) scLone.nd rfl (Or.inl rfl) (pe_make0 MR GR hr2 rfl gR bR .nil pass0))
      (pss_cons (ps_for (passes_of rfl) rfl (pi_list (pv 0)) (pg_tup rfl (pgs_cons (pg_name (i := 3) scLone.nd rfl (Or.inl rfl)) (pgs_cons (pg_name (i := 4) scLone.nd rfl (Or.inl rfl)) pgs_nil)))
        (pss_cons (ps_if (pt_truth (pe_fld (pv 2) rfl) (by intro _; rfl)) (pss_one (ps_raise rfl (takes_of rfl rfl rfl rfl) (pmk_oex T.x T.iC T.tI GE hr2 bE .nil pass0 rfl T.gB (pa_cons (pv 4) pa_nil)))) pss_nil)
          (pss_one (ps_expr (pe_meth (E := E) (pv 2) R.cR mT GT hr bT .nil (passes_call (takes_of rfl rfl rfl rfl) (fun _ _ _ _ h => h)) (pa_cons (pv 3) (pa_cons (pv 4) pa_nil)))))))
      (pss_cons (ps_if (pt_not (pt_truth (pe_fld (pv 2) rfl) (by intro _; rfl))) (pss_one (ps_raise rfl (takes_of rfl rfl rfl rfl) (pmk_oex T.x T.iC T.tI GE hr2 bE .nil pass0 rfl T.gB (pa_cons (pv 1) pa_nil)))) pss_nil)
      (pss_one (ps_ret (pe_ix ix_list (pe_fld (pv 2) rfl) pe_int (fun _ _ => rfl)))))), ?_⟩
    have noT : ∀ a b c : Addr, (readF a b c).lookup ("take" : Str) = none := fun a b c => readF_no _ _ _ (by decide +kernel) (by decide +kernel) (by decide +kernel)
    intro y dx ny ndx ne
    refine ⟨y, dx, rfl, upd_same, fun ld lo lk hld hlo hlk nll H2 hobj hld2 hlo2 hlk2 keep => ⟨rfl, ?_⟩⟩
    have sm : Same H H2 := fun b o q => keep b o (ne_of_none q ny) (by rw [upd_ne (ne_of_none q ny), upd_ne (ne_of_none q ndx)]; exact q)
    have R0 : RInv CR CO CP H H2 y S0 dx ld lo (lk, 0) [] [] := ⟨sm, hobj, ⟨[], hlk2, fun x v e => by simp [valV] at e, Nat.le_refl _⟩, hld2, hlo2, .nil, .nil, ny, free_of (free_of hld), free_of (free_of hlo), free_of (free_of hlk), (fun p hp => by cases hp), (by simp [nll]), (by simp)⟩
    refine ⟨_, rfl, l, rfl, ⟨_, SqL.of (sm _ _ hl)⟩, for_list (K := K) (a := l) (xs := us) (fun i σ H' => ∃ (S : RS) (us' : List V) (ps : List (Addr × Addr)) (v4 v5 : Option V), σ = [some (.ref l), some en, some (.ref y), v4, v5] ∧
      RInv CR CO CP H H' y S dx ld lo (lk, i) us' ps ∧ Good i S ∧ runW S0 ws = runW S (ws.drop i)) ⟨S0, [], [], none, none, rfl, R0, s0_good, rfl⟩ (fun i σ H' _ ⟨_, _, _, _, _, _, R', _⟩ => SqL.of (R'.same _ _ hl)) ?_ ?_⟩
    · rintro i z σ H3 hz ⟨S, us', ps, v4, v5, rfl, R', g, run⟩
      obtain ⟨p, hpi, Ta, rfl, hTa⟩ := paired_get hp hz
      refine ⟨Ta, _, rfl, SqT.of (R'.same _ _ hTa), rfl, _, _, rfl, _, _, rfl, rfl, ?_⟩
      obtain ⟨hi, hpe⟩ := List.getElem?_eq_some_iff.mp hpi
      have hdrop : ws.drop i = p :: ws.drop (i + 1) := by rw [List.drop_eq_getElem_cons hi, hpe]
      have him : i ≤ 1000000 := Nat.le_trans (Nat.le_of_lt hi) wo.many
      have g2 : Good 1000000 S := g.mono him
      have step : runW S0 ws = if S.data ≠ [] then .inr p.2 else match takeS S p.1 with | some S2 => runW S2 (ws.drop (i + 1)) | none => .inr p.2 := by
        rw [run, hdrop]
        rfl
      have hlen := Paired.length R'.data
      refine ⟨_, rfl, y, CR, dx, _, _, rfl, R'.obj, R.cR, R.rD, readF_data _ _ _, !us'.isEmpty, Or.inl ⟨_, SqL.of R'.ldat, rfl⟩, ?_⟩
      by_cases hd : S.data = []
      · have ue : us' = [] := List.length_eq_zero_iff.mp (by rw [hlen, hd]; rfl)
        have eb : (!us'.isEmpty) = false := by rw [ue]; rfl
        rw [if_neg (fun z => z hd)] at step
        rw [eb]
        refine iteF ?_
        refine ⟨_, rfl, y, dx, _, rfl, R'.obj, noT _ _ _, _, rfl, _, rfl, ?_⟩
        refine ⟨H, y, S, dx, ld, lo, (lk, i), us', ps, p.1, _, rfl, R', g2.small, g2.ok, (wo.word p (List.mem_of_getElem? hpi)).1, (wo.word p (List.mem_of_getElem? hpi)).2, him, fun S2 e H4 us4 ps4 R4 => ?_, fun e H4 s4 => ?_⟩
        · rw [e] at step
          exact ⟨S2, us4, ps4, _, _, rfl, R4, takeS_good g e, step⟩
        · rw [e] at step
          exact k3 _ step _ s4
      · have eb : (!us'.isEmpty) = true := by
          cases us' with
          | nil => exact absurd (List.length_eq_zero_iff.mp hlen.symm) hd
          | cons a r => rfl
        rw [if_pos hd] at step
        rw [eb]
        refine iteT ?_
        exact ⟨_, rfl, (by show 1 ≤ 1000; decide), fun a na => err_made na (k3 _ step _ R'.same)⟩
    · rintro σ H3 ⟨S, us', ps, v4, v5, rfl, R', g, run⟩
      have el : ws.drop us.length = [] := by rw [Paired.length hp, List.drop_length]
      rw [el] at run
      have run2 : runW S0 ws = .inl S := run
      have hlen := Paired.length R'.data
      refine ⟨_, rfl, y, CR, dx, _, _, rfl, R'.obj, R.cR, R.rD, readF_data _ _ _, !us'.isEmpty, Or.inl ⟨_, SqL.of R'.ldat, rfl⟩, ?_⟩
      cases hd : S.data with
      | nil =>
        have ue : us' = [] := List.length_eq_zero_iff.mp (by rw [hlen, hd]; rfl)
        have eb : (!us'.isEmpty) = false := by rw [ue]; rfl
        rw [eb]
        refine iteT ?_
        exact ⟨_, rfl, (by show 1 ≤ 1000; decide), fun a na => err_made na (k2 S run2 hd _ R'.same)⟩
      | cons d rest =>
        have hdat := R'.data
        rw [hd] at hdat
        cases hdat with
        | cons rd rr =>
          refine iteF ?_
          exact ⟨_, rfl, y, CR, dx, _, _, rfl, R'.obj, R.cR, R.rD, readF_data _ _ _, ld, _, 0, _, rfl, rfl, SqL.of R'.ldat, atI_nat (j := 0) rfl, k1 S d rest run2 hd _ _ R'.same rd⟩
end
end Kg
namespace Kg
open PySem PySem.Spec PyProof.Rows L2
def sl (x : Str) : List Nat := x.cps.toList
theorem sl_app (x y : Str) : sl (x ++ y) = sl x ++ sl y := by
  show (x ++ y).cps.toList = _
  rw [Str.cps_append, Array.toList_append]
  rfl
theorem sl_len (x : Str) : (sl x).length = x.length := Array.length_toList
theorem sl_inj {x y : Str} (h : sl x = sl y) : x = y := by
  obtain ⟨a⟩ := x
  obtain ⟨b⟩ := y
  have : a = b := Array.toList_inj.mp h
  rw [this]
theorem sl_empty : sl "" = [] := by decide +kernel
/-! ### a text's words, by its signs -/
def isS (c : Nat) : Bool := decide (c ∈ SIGNS.cps.toList)
def tokN : Nat → List Nat → List (List Nat)
  | 0, _ => []
  | _ + 1, [] => []
  | f + 1, c :: r => if c = 59 then tokN f (r.dropWhile fun a => a != 10) else if c = 32 ∨ c = 10 then tokN f r else if isS c = true then (c :: r.takeWhile isS) :: tokN f (r.dropWhile isS) else [c] :: tokN f r
theorem dw_len (p : Nat → Bool) (l : List Nat) : (l.dropWhile p).length ≤ l.length := (List.dropWhile_sublist p).length_le
theorem tokN_more : ∀ (f g : Nat) (l : List Nat), l.length ≤ f → l.length ≤ g → tokN f l = tokN g l
  | 0, 0, _, _, _ => rfl
  | 0, g + 1, l, h, _ => by
    have e : l = [] := List.length_eq_zero_iff.mp (by omega)
    subst e
    rfl
  | f + 1, 0, l, _, h => by
    have e : l = [] := List.length_eq_zero_iff.mp (by omega)
    subst e
    rfl
  | f + 1, g + 1, [], _, _ => rfl
  | f + 1, g + 1, c :: r, h1, h2 => by
    have k1 : r.length ≤ f := by simpa using h1
    have k2 : r.length ≤ g := by simpa using h2
    unfold tokN
    rw [tokN_more f g r k1 k2, tokN_more f g _ (Nat.le_trans (dw_len _ _) k1) (Nat.le_trans (dw_len _ _) k2), tokN_more f g _ (Nat.le_trans (dw_len _ _) k1) (Nat.le_trans (dw_len _ _) k2)]
def tok (l : List Nat) : List (List Nat) := tokN l.length l
theorem tok_nil : tok [] = [] := rfl
theorem tok_cons (c : Nat) (r : List Nat) : tok (c :: r) = if c = 59 then tok (r.dropWhile fun a => a != 10) else if c = 32 ∨ c = 10 then tok r else if isS c = true then (c :: r.takeWhile isS) :: tok (r.dropWhile isS) else [c] :: tok r := by
  unfold tok
  show tokN (r.length + 1) (c :: r) = _
  conv => lhs; unfold tokN
  rw [tokN_more _ _ _ (dw_len (fun a => a != 10) r) (Nat.le_refl _), tokN_more _ _ _ (dw_len isS r) (Nat.le_refl _)]
/-- the words of a line's code -/
def tokC : Nat → List Nat → List (List Nat)
  | 0, _ => []
  | _ + 1, [] => []
  | f + 1, c :: r => if isS c = true then (c :: r.takeWhile isS) :: tokC f (r.dropWhile isS) else if c = 32 then tokC f r else [c] :: tokC f r
theorem tokC_more : ∀ (f g : Nat) (l : List Nat), l.length ≤ f → l.length ≤ g → tokC f l = tokC g l
  | 0, 0, _, _, _ => rfl
  | 0, g + 1, l, h, _ => by
    have e : l = [] := List.length_eq_zero_iff.mp (by omega)
    subst e
    rfl
  | f + 1, 0, l, _, h => by
    have e : l = [] := List.length_eq_zero_iff.mp (by omega)
    subst e
    rfl
  | f + 1, g + 1, [], _, _ => rfl
  | f + 1, g + 1, c :: r, h1, h2 => by
    have k1 : r.length ≤ f := by simpa using h1
    have k2 : r.length ≤ g := by simpa using h2
    unfold tokC
    rw [tokC_more f g r k1 k2, tokC_more f g _ (Nat.le_trans (dw_len _ _) k1) (Nat.le_trans (dw_len _ _) k2)]
def tkc (l : List Nat) : List (List Nat) := tokC l.length l
theorem tkc_cons (c : Nat) (r : List Nat) : tkc (c :: r) = if isS c = true then (c :: r.takeWhile isS) :: tkc (r.dropWhile isS) else if c = 32 then tkc r else [c] :: tkc r := by
  unfold tkc
  show tokC (r.length + 1) (c :: r) = _
  conv => lhs; unfold tokC
  rw [tokC_more _ _ _ (dw_len isS r) (Nat.le_refl _)]
/-! lines -/
def splitL : List Nat → List (List Nat)
  | [] => [[]]
  | a :: r => if a = 10 then [] :: splitL r else match splitL r with
    | p :: ps => (a :: p) :: ps
    | [] => [[a]]
def joinL : List (List Nat) → List Nat
  | [] => []
  | [p] => p
  | p :: q :: r => p ++ 10 :: joinL (q :: r)
theorem splitL_ne : ∀ l, ∃ p ps, splitL l = p :: ps
  | [] => ⟨_, _, rfl⟩
  | a :: r => by
    obtain ⟨p, ps, e⟩ := splitL_ne r
    unfold splitL
    by_cases h : a = 10
    · rw [if_pos h]
      exact ⟨_, _, rfl⟩
    · rw [if_neg h, e]
      exact ⟨_, _, rfl⟩
theorem splitL_app : ∀ (p l : List Nat), 10 ∉ p → splitL (p ++ 10 :: l) = p :: splitL l
  | [], l, _ => by
    show (if (10 : Nat) = 10 then _ else _) = _
    rw [if_pos rfl]
  | a :: p, l, h => by
    have h1 : a ≠ 10 := fun e => h (by rw [e]; exact List.mem_cons_self)
    have h2 : 10 ∉ p := fun e => h (List.mem_cons_of_mem _ e)
    show (if a = 10 then _ else match splitL (p ++ 10 :: l) with | p :: ps => (a :: p) :: ps | [] => [[a]]) = _
    rw [if_neg h1, splitL_app p l h2]
theorem splitL_one : ∀ (p : List Nat), 10 ∉ p → splitL p = [p]
  | [], _ => rfl
  | a :: p, h => by
    have h1 : a ≠ 10 := fun e => h (by rw [e]; exact List.mem_cons_self)
    have h2 : 10 ∉ p := fun e => h (List.mem_cons_of_mem _ e)
    show (if a = 10 then _ else match splitL p with | p :: ps => (a :: p) :: ps | [] => [[a]]) = _
    rw [if_neg h1, splitL_one p h2]
theorem splitL_join : ∀ ps : List (List Nat), ps ≠ [] → (∀ p ∈ ps, 10 ∉ p) → splitL (joinL ps) = ps
  | [], h, _ => absurd rfl h
  | [p], _, h => splitL_one p (h p List.mem_cons_self)
  | p :: q :: r, _, h => by
    show splitL (p ++ 10 :: joinL (q :: r)) = _
    rw [splitL_app _ _ (h p List.mem_cons_self), splitL_join (q :: r) (by simp) fun u hu => h u (List.mem_cons_of_mem _ hu)]
theorem sl_joinNL : ∀ ps : List Str, sl (Str.join "\n" ps) = joinL (ps.map sl)
  | [] => sl_empty
  | [y] => by simp [Str.join, joinL]
  | y :: z :: r => by
    have e : Str.join "\n" (y :: z :: r) = y ++ ("\n" : Str) ++ Str.join "\n" (z :: r) := rfl
    have n : sl "\n" = [10] := by decide +kernel
    rw [e, sl_app, sl_app, n, sl_joinNL (z :: r), List.append_assoc]
    rfl
theorem lines_sl (x : Str) : (linesOf x).map sl = splitL (sl x) := by
  have h1 : Str.join "\n" (linesOf x) = x := PySem.StrLaws.join_split x "\n"
  have h3 : ("\n" : Str) = ⟨#[10]⟩ := by decide +kernel
  have h2 : ∀ p ∈ linesOf x, 10 ∉ sl p := by
    unfold linesOf
    rw [h3]
    exact PySem.StrLaws.split_free x 10
  have h4 : linesOf x ≠ [] := by
    unfold linesOf Txt.split
    split
    · simp
    · split
      · simp
      · obtain ⟨p, q, e⟩ := PySem.StrLaws.partsFrom_ne x ("\n" : Str).length 0 (PySem.Builtin.Str.occurrences x "\n" 0 x.length (x.length + 1))
        rw [PySem.StrLaws.partsBetween_eq, e]
        simp
  have h5 := congrArg sl h1
  rw [sl_joinNL] at h5
  rw [← h5, splitL_join]
  · intro e
    exact h4 (List.map_eq_nil_iff.mp e)
  · intro p hp
    obtain ⟨q, hq, e⟩ := List.mem_map.mp hp
    rw [← e]
    exact h2 q hq
theorem take_tw (p : Nat → Bool) : ∀ l : List Nat, l.take (l.takeWhile p).length = l.takeWhile p
  | [] => rfl
  | a :: l => by
    rw [List.takeWhile_cons]
    cases p a with
    | false => rfl
    | true =>
      show (a :: l).take ((l.takeWhile p).length + 1) = a :: l.takeWhile p
      rw [List.take_succ_cons, take_tw p l]
theorem drop_tw (p : Nat → Bool) : ∀ l : List Nat, l.drop (l.takeWhile p).length = l.dropWhile p
  | [] => rfl
  | a :: l => by
    rw [List.takeWhile_cons, List.dropWhile_cons]
    cases p a with
    | false => rfl
    | true =>
      show (a :: l).drop ((l.takeWhile p).length + 1) = l.dropWhile p
      rw [List.drop_succ_cons, drop_tw p l]
theorem code_sl (x : Str) : sl (codeOfLine x) = (sl x).takeWhile fun a => a != 59 := by
  have h3 : (";" : Str) = ⟨#[59]⟩ := by decide +kernel
  have at_ : ∀ i, PySem.StrLaws.At x ⟨#[59]⟩ x.length i ↔ (sl x)[i]? = some 59 := fun i => PySem.StrLaws.subAt_one x 59 i
  have free : ∀ l : List Nat, (∀ i, l[i]? ≠ some 59) → (l.takeWhile fun a => a != 59) = l := fun l => by
    induction l with
    | nil => intro _; rfl
    | cons a l ih =>
      intro h
      have h0 : a ≠ 59 := fun e => h 0 (by rw [e]; rfl)
      rw [List.takeWhile_cons, if_pos (by simp [h0]), ih fun i e => h (i + 1) e]
  have cut : ∀ (l : List Nat) (i : Nat), l[i]? = some 59 → (∀ k, k < i → l[k]? ≠ some 59) → (l.takeWhile fun a => a != 59) = l.take i := fun l => by
    induction l with
    | nil => intro i h; simp at h
    | cons a l ih =>
      intro i h hk
      cases i with
      | zero =>
        have h0 : a = 59 := Option.some.inj h
        rw [List.takeWhile_cons, if_neg (by simp [h0])]
        rfl
      | succ i =>
        have h0 : a ≠ 59 := fun e => hk 0 (by omega) (by rw [e]; rfl)
        rw [List.takeWhile_cons, if_pos (by simp [h0]), ih i h fun k hk2 e => hk (k + 1) (by omega) e]
        rfl
  unfold codeOfLine
  rw [h3]
  rcases PyProof.Rows.partition_whole x ⟨#[59]⟩ with ⟨e, hn⟩ | ⟨i, e, hi, hn⟩
  · rw [e]
    exact (free _ fun i q => hn i ((at_ i).mpr q)).symm
  · rw [e]
    rw [cut _ i ((at_ i).mp hi) fun k hk q => hn k hk ((at_ k).mpr q)]
    show (PySem.Builtin.Str.strSub x 0 i).cps.toList = _
    rw [PySem.StrLaws.strSub_toList]
    rfl
/-- the words of a line, from a place on -/
theorem lw_sl (x : Str) : ∀ (f a : Nat), x.length - a ≤ f → (lwGo x f a).map (fun p => sl p.2) = tkc ((sl x).drop a)
  | 0, a, h => by
    have hl : (sl x).length = x.length := sl_len x
    rw [List.drop_eq_nil_of_le (by omega)]
    rfl
  | f + 1, a, h => by
    have hl : (sl x).length = x.length := sl_len x
    unfold lwGo
    by_cases ha : a < x.length
    · rw [if_pos ha]
      have hd : (sl x).drop a = (sl x)[a] :: (sl x).drop (a + 1) := List.drop_eq_getElem_cons (by omega)
      have hc : x.cps[a]? = some (sl x)[a] := by
        have h1 : (sl x)[a]? = some (sl x)[a] := List.getElem?_eq_getElem (by omega)
        rw [← h1]
        show _ = x.cps.toList[a]?
        rw [Array.getElem?_toList]
      have hg : x.cps.toList.getD a 0 = (sl x)[a] := by
        rw [List.getD_eq_getElem?_getD, Array.getElem?_toList, hc]
        rfl
      have hw : wordEnd x a = if isS (sl x)[a] = true then a + 1 + (((sl x).drop (a + 1)).takeWhile isS).length else a + 1 := by
        unfold wordEnd wordBehind wordGo
        rw [hg]
        unfold isS
        by_cases hs : (sl x)[a] ∈ SIGNS.cps.toList
        · rw [if_pos hs, decide_eq_true hs, if_pos rfl]
          rfl
        · rw [if_neg hs, decide_eq_false hs, if_neg (by decide)]
      have hgt := wordEnd_gt x a
      have ih := lw_sl x f (wordEnd x a) (by omega)
      rw [List.map_append, ih, hd, tkc_cons, hc]
      have hcut : sl (cutS x (some ((a : Nat) : Int)) (some ((wordEnd x a : Nat) : Int))) = ((sl x).drop a).take (wordEnd x a - a) := by
        unfold cutS
        rw [HT.sIx_nat, HT.sIx_nat]
        have hle := wordEnd_le x a ha
        have e1 : min a x.length = a := by omega
        have e2 : min (wordEnd x a) x.length = wordEnd x a := by omega
        show List.take (min (wordEnd x a) x.length - min a x.length) (List.drop (min a x.length) x.cps.toList) = _
        rw [e1, e2]
        rfl
      by_cases hs : isS (sl x)[a] = true
      · rw [if_pos hs] at hw ⊢
        have n32 : ¬ some (sl x)[a] = some 32 := fun e => by
          rw [Option.some.inj e] at hs
          revert hs
          decide +kernel
        rw [if_neg n32, List.map_cons, List.map_nil, hcut, hw, hd]
        have e1 : a + 1 + (((sl x).drop (a + 1)).takeWhile isS).length - a = (((sl x).drop (a + 1)).takeWhile isS).length + 1 := by omega
        have e2 : ((sl x)[a] :: (sl x).drop (a + 1)).take ((((sl x).drop (a + 1)).takeWhile isS).length + 1) = (sl x)[a] :: ((sl x).drop (a + 1)).takeWhile isS := by
          rw [List.take_succ_cons, take_tw]
        have e3 : (sl x).drop (a + 1 + (((sl x).drop (a + 1)).takeWhile isS).length) = ((sl x).drop (a + 1)).dropWhile isS := by
          rw [← List.drop_drop, drop_tw]
        rw [e1, e2, e3]
        rfl
      · rw [if_neg hs] at hw ⊢
        by_cases h32 : (sl x)[a] = 32
        · rw [if_pos (by rw [h32]), if_pos h32, hw]
          rfl
        · rw [if_neg (fun e => h32 (Option.some.inj e)), if_neg h32, List.map_cons, List.map_nil, hcut, hw, hd]
          have e1 : a + 1 - a = 1 := by omega
          rw [e1]
          rfl
    · rw [if_neg ha, List.drop_eq_nil_of_le (by omega)]
      rfl
def nc (p : List Nat) : List Nat := p.takeWhile fun a => a != 59
def WL (l : List Nat) : List (List Nat) := (splitL l).flatMap fun p => tkc (nc p)
theorem words_go : ∀ (ls : List Str) (n : Nat), (wordsGo n ls).map (fun p => sl p.1) = ls.flatMap fun l => tkc (nc (sl l))
  | [], _ => rfl
  | l :: ls, n => by
    unfold wordsGo
    rw [List.map_append, words_go ls (n + 1), List.map_map, List.flatMap_cons]
    congr 1
    have h := lw_sl (codeOfLine l) (codeOfLine l).length 0 (by omega)
    rw [List.drop_zero, code_sl] at h
    unfold nc
    rw [← h]
    rfl
theorem words_W (x : Str) : (textWords x).map (fun p => sl p.1) = WL (sl x) := by
  unfold textWords WL
  rw [words_go, ← lines_sl, List.flatMap_map]
theorem splitL_spec : ∀ (r p : List Nat) (ps : List (List Nat)), splitL r = p :: ps → 10 ∉ p ∧ ((ps = [] ∧ r = p) ∨ ∃ r', r = p ++ 10 :: r' ∧ splitL r' = ps)
  | [], p, ps, h => by
    have h1 : [[]] = p :: ps := h
    cases h1
    exact ⟨by simp, .inl ⟨rfl, rfl⟩⟩
  | a :: r, p, ps, h => by
    by_cases ha : a = 10
    · have e : splitL (a :: r) = [] :: splitL r := if_pos ha
      rw [e] at h
      cases h
      exact ⟨by simp, .inr ⟨r, by rw [ha]; rfl, rfl⟩⟩
    · obtain ⟨q, qs, e⟩ := splitL_ne r
      have e2 : splitL (a :: r) = (a :: q) :: qs := by
        show (if a = 10 then _ else match splitL r with | p :: ps => (a :: p) :: ps | [] => [[a]]) = _
        rw [if_neg ha, e]
      rw [e2] at h
      cases h
      obtain ⟨n, h2⟩ := splitL_spec r q _ e
      refine ⟨fun z => ?_, ?_⟩
      · rcases List.mem_cons.mp z with z | z
        · exact ha z.symm
        · exact n z
      · rcases h2 with ⟨h3, h4⟩ | ⟨r', h3, h4⟩
        · exact .inl ⟨h3, by rw [h4]⟩
        · exact .inr ⟨r', by rw [h3]; rfl, h4⟩
theorem nc_sign : ∀ p : List Nat, (nc p).takeWhile isS = p.takeWhile isS ∧ (nc p).dropWhile isS = nc (p.dropWhile isS)
  | [] => ⟨rfl, rfl⟩
  | a :: p => by
    obtain ⟨h1, h2⟩ := nc_sign p
    unfold nc at h1 h2 ⊢
    by_cases ha : a = 59
    · have hs : isS a = false := by rw [ha]; decide +kernel
      rw [List.takeWhile_cons, if_neg (by simp [ha]), List.takeWhile_cons, hs, List.dropWhile_cons, hs]
      refine ⟨rfl, ?_⟩
      show [] = (a :: p).takeWhile _
      rw [List.takeWhile_cons, if_neg (by simp [ha])]
    · rw [List.takeWhile_cons, if_pos (by simp [ha]), List.takeWhile_cons, List.takeWhile_cons, List.dropWhile_cons, List.dropWhile_cons]
      cases isS a with
      | true =>
        refine ⟨?_, h2⟩
        show a :: _ = a :: _
        rw [h1]
      | false =>
        refine ⟨rfl, ?_⟩
        show a :: _ = (a :: p).takeWhile _
        rw [List.takeWhile_cons, if_pos (by simp [ha])]
theorem nl_sign (r' : List Nat) : ∀ p : List Nat, (p ++ 10 :: r').takeWhile isS = p.takeWhile isS ∧ (p ++ 10 :: r').dropWhile isS = p.dropWhile isS ++ 10 :: r'
  | [] => by
    have hs : isS 10 = false := by decide +kernel
    rw [List.nil_append, List.takeWhile_cons, List.dropWhile_cons, hs]
    exact ⟨rfl, rfl⟩
  | a :: p => by
    obtain ⟨h1, h2⟩ := nl_sign r' p
    rw [List.cons_append, List.takeWhile_cons, List.dropWhile_cons, List.takeWhile_cons, List.dropWhile_cons]
    cases isS a with
    | true =>
      refine ⟨?_, h2⟩
      show a :: _ = a :: _
      rw [h1]
    | false => exact ⟨rfl, rfl⟩
theorem nl_drop (r' : List Nat) : ∀ p : List Nat, 10 ∉ p → (p ++ 10 :: r').dropWhile (fun a => a != 10) = 10 :: r'
  | [], _ => rfl
  | a :: p, h => by
    have h1 : a ≠ 10 := fun e => h (by rw [e]; exact List.mem_cons_self)
    rw [List.cons_append, List.dropWhile_cons, if_pos (by simp [h1]), nl_drop r' p fun e => h (List.mem_cons_of_mem _ e)]
theorem nl_none : ∀ p : List Nat, 10 ∉ p → p.dropWhile (fun a => a != 10) = []
  | [], _ => rfl
  | a :: p, h => by
    have h1 : a ≠ 10 := fun e => h (by rw [e]; exact List.mem_cons_self)
    rw [List.dropWhile_cons, if_pos (by simp [h1]), nl_none p fun e => h (List.mem_cons_of_mem _ e)]
theorem not_mem_drop {p : List Nat} (h : 10 ∉ p) : 10 ∉ p.dropWhile isS := fun z => h ((List.dropWhile_sublist _).subset z)
theorem W_tok : ∀ (n : Nat) (l : List Nat), l.length ≤ n → WL l = tok l
  | _, [], _ => rfl
  | 0, c :: r, h => by simp at h
  | n + 1, c :: r, h => by
    have hr : r.length ≤ n := by simpa using h
    obtain ⟨p, ps, e⟩ := splitL_ne r
    obtain ⟨np, hp⟩ := splitL_spec r p ps e
    have ihr := W_tok n r hr
    rw [tok_cons]
    have first : c ≠ 10 → splitL (c :: r) = (c :: p) :: ps := fun hc => by
      show (if c = 10 then _ else match splitL r with | p :: ps => (c :: p) :: ps | [] => [[c]]) = _
      rw [if_neg hc, e]
    have wr : WL r = tkc (nc p) ++ ps.flatMap fun p => tkc (nc p) := by
      unfold WL
      rw [e, List.flatMap_cons]
    have wc : c ≠ 10 → WL (c :: r) = tkc (nc (c :: p)) ++ ps.flatMap fun p => tkc (nc p) := fun hc => by
      unfold WL
      rw [first hc, List.flatMap_cons]
    by_cases h59 : c = 59
    · rw [if_pos h59, wc (by omega)]
      have e0 : nc (c :: p) = [] := by
        unfold nc
        rw [List.takeWhile_cons, if_neg (by simp [h59])]
      rw [e0]
      show [] ++ _ = _
      rw [List.nil_append]
      rcases hp with ⟨h1, h2⟩ | ⟨r', h1, h2⟩
      · rw [h1, h2, nl_none p np]
        rfl
      · rw [h1, nl_drop r' p np]
        have hl : (10 :: r').length ≤ n := by
          rw [h1, List.length_append] at hr
          omega
        rw [← W_tok n (10 :: r') hl]
        have e2 : splitL (10 :: r') = [] :: splitL r' := if_pos rfl
        unfold WL
        rw [e2, h2, List.flatMap_cons]
        rfl
    rw [if_neg h59]
    by_cases h10 : c = 10
    · rw [if_pos (.inr h10), ← ihr]
      have e2 : splitL (c :: r) = [] :: splitL r := if_pos h10
      unfold WL
      rw [e2, List.flatMap_cons]
      rfl
    have enc : nc (c :: p) = c :: nc p := by
      unfold nc
      rw [List.takeWhile_cons, if_pos (by simp [h59])]
    rw [wc h10, enc, tkc_cons]
    by_cases h32 : c = 32
    · have hs : isS c = false := by rw [h32]; decide +kernel
      rw [if_pos (show c = 32 ∨ c = 10 from .inl h32), hs, if_neg (show ¬ (false = true) by decide), if_pos h32, ← ihr, wr]
    rw [if_neg (show ¬ (c = 32 ∨ c = 10) from fun z => z.elim h32 h10), if_neg (show ¬ c = 32 from h32)]
    cases hs : isS c with
    | true =>
      simp only [if_true]
      obtain ⟨n1, n2⟩ := nc_sign p
      rw [n1, n2]
      have hl : (r.dropWhile isS).length ≤ n := Nat.le_trans (dw_len _ _) hr
      rw [← W_tok n _ hl]
      rcases hp with ⟨h1, h2⟩ | ⟨r', h1, h2⟩
      · rw [h1, h2]
        unfold WL
        rw [splitL_one _ (not_mem_drop np)]
        simp
      · obtain ⟨m1, m2⟩ := nl_sign r' p
        rw [h1, m1, m2]
        unfold WL
        rw [splitL_app _ _ (not_mem_drop np), h2]
        simp
    | false =>
      simp only [Bool.false_eq_true, if_false]
      rw [← ihr, wr]
      rfl
/-- a text's words -/
theorem words_tok (x : Str) : (textWords x).map (fun p => sl p.1) = tok (sl x) := (words_W x).trans (W_tok _ _ (Nat.le_refl _))
end Kg
namespace Kg
open PySem PySem.Spec PyProof.Rows L2
/-! ### a text's words, looked for without their places -/
def brk (c : Nat) : Bool := c == 40 || c == 41 || c == 39
/-- a sign of a longer word, or of what cannot stand -/
def inW (c : Nat) : Bool := !(c == 32) && !(brk c)
def btN : Nat → List Nat → List (List Nat)
  | 0, _ => []
  | _ + 1, [] => []
  | f + 1, c :: r => if c = 32 then btN f r else if brk c = true then [c] :: btN f r else (c :: r.takeWhile inW) :: btN f (r.dropWhile inW)
theorem btN_more : ∀ (f g : Nat) (l : List Nat), l.length ≤ f → l.length ≤ g → btN f l = btN g l
  | 0, 0, _, _, _ => rfl
  | 0, g + 1, l, h, _ => by
    have e : l = [] := List.length_eq_zero_iff.mp (by omega)
    subst e
    rfl
  | f + 1, 0, l, _, h => by
    have e : l = [] := List.length_eq_zero_iff.mp (by omega)
    subst e
    rfl
  | f + 1, g + 1, [], _, _ => rfl
  | f + 1, g + 1, c :: r, h1, h2 => by
    have k1 : r.length ≤ f := by simpa using h1
    have k2 : r.length ≤ g := by simpa using h2
    unfold btN
    rw [btN_more f g r k1 k2, btN_more f g _ (Nat.le_trans (dw_len _ _) k1) (Nat.le_trans (dw_len _ _) k2)]
def bt (l : List Nat) : List (List Nat) := btN l.length l
theorem bt_nil : bt [] = [] := rfl
theorem bt_cons (c : Nat) (r : List Nat) : bt (c :: r) = if c = 32 then bt r else if brk c = true then [c] :: bt r else (c :: r.takeWhile inW) :: bt (r.dropWhile inW) := by
  unfold bt
  show btN (r.length + 1) (c :: r) = _
  conv => lhs; unfold btN
  rw [btN_more _ _ _ (dw_len inW r) (Nat.le_refl _)]
theorem tkc_nil : tkc [] = [] := rfl
theorem isS_inW {c : Nat} (h : isS c = true) : inW c = true := by
  have h2 : c ∈ SIGNS.cps.toList := of_decide_eq_true h
  have all : ∀ c ∈ SIGNS.cps.toList, inW c = true := by decide +kernel
  exact all c h2
theorem takeWhile_sub {p q : Nat → Bool} (h : ∀ c, p c = true → q c = true) : ∀ l : List Nat, (∀ c ∈ l.takeWhile q, p c = true) → l.takeWhile p = l.takeWhile q ∧ l.dropWhile p = l.dropWhile q
  | [], _ => ⟨rfl, rfl⟩
  | a :: l, k => by
    rw [List.takeWhile_cons] at k
    rw [List.takeWhile_cons, List.dropWhile_cons, List.takeWhile_cons, List.dropWhile_cons]
    cases hq : q a with
    | false =>
      have hp : p a = false := by
        cases e : p a with
        | false => rfl
        | true => rw [h a e] at hq; cases hq
      rw [hp]
      exact ⟨rfl, rfl⟩
    | true =>
      rw [hq, if_pos rfl] at k
      have hp := k a List.mem_cons_self
      obtain ⟨i1, i2⟩ := takeWhile_sub h l fun c hc => k c (List.mem_cons_of_mem _ hc)
      rw [hp]
      simp only [if_true]
      exact ⟨by rw [i1], i2⟩
/-- words of the rest are words of all -/
theorem tkc_rest : ∀ (n : Nat) (u v : List Nat), u.length ≤ n → (v = [] ∨ ∃ a v', v = a :: v' ∧ isS a = false) → ∀ t ∈ tkc v, t ∈ tkc (u ++ v)
  | _, [], v, _, _, t, h => h
  | 0, a :: u, v, h, _, _, _ => by simp at h
  | n + 1, a :: u, v, h, hv, t, ht => by
    have hu : u.length ≤ n := by simpa using h
    rw [List.cons_append, tkc_cons]
    have nil_tw : v.takeWhile isS = [] := by
      rcases hv with rfl | ⟨b, v', rfl, hb⟩
      · rfl
      · rw [List.takeWhile_cons, hb]; rfl
    have nil_dw : v.dropWhile isS = v := by
      rcases hv with rfl | ⟨b, v', rfl, hb⟩
      · rfl
      · rw [List.dropWhile_cons, hb]; rfl
    by_cases hs : isS a = true
    · rw [if_pos hs]
      refine List.mem_cons_of_mem _ ?_
      have e : (u ++ v).dropWhile isS = u.dropWhile isS ++ v := by
        clear h hu ht
        induction u with
        | nil => exact nil_dw
        | cons b u ih =>
          rw [List.cons_append, List.dropWhile_cons, List.dropWhile_cons]
          cases isS b with
          | true => exact ih
          | false => rfl
      rw [e]
      exact tkc_rest n _ v (Nat.le_trans (dw_len _ _) hu) hv t ht
    · rw [if_neg hs]
      split
      · exact tkc_rest n u v hu hv t ht
      · exact List.mem_cons_of_mem _ (tkc_rest n u v hu hv t ht)
theorem dropWhile_head (p : Nat → Bool) : ∀ l : List Nat, l.dropWhile p = [] ∨ ∃ a v, l.dropWhile p = a :: v ∧ p a = false
  | [] => .inl rfl
  | a :: l => by
    rw [List.dropWhile_cons]
    cases h : p a with
    | true => exact dropWhile_head p l
    | false => exact .inr ⟨a, l, rfl, h⟩
theorem brk_not {c : Nat} (h : brk c = true) : isS c = false ∧ c ≠ 32 := by
  unfold brk at h
  simp only [Bool.or_eq_true, beq_iff_eq] at h
  rcases h with (rfl | rfl) | rfl
  · exact ⟨by decide +kernel, by decide⟩
  · exact ⟨by decide +kernel, by decide⟩
  · exact ⟨by decide +kernel, by decide⟩
theorem sp_not : isS 32 = false := by decide +kernel
/-- a word that can stand is among the words -/
theorem bt_mem : ∀ (n : Nat) (l : List Nat), l.length ≤ n → ∀ t ∈ bt l, (∀ c ∈ t, isS c = true) → t ∈ tkc l
  | _, [], _, t, h, _ => by rw [bt_nil] at h; cases h
  | 0, c :: r, h, _, _, _ => by simp at h
  | n + 1, c :: r, h, t, ht, ok => by
    have hr : r.length ≤ n := by simpa using h
    rw [bt_cons] at ht
    rw [tkc_cons]
    by_cases h32 : c = 32
    · rw [if_pos h32] at ht
      have hs : ¬ isS c = true := by rw [h32, sp_not]; decide
      rw [if_neg hs, if_pos h32]
      exact bt_mem n r hr t ht ok
    rw [if_neg h32] at ht
    by_cases hb : brk c = true
    · rw [if_pos hb] at ht
      obtain ⟨b1, b2⟩ := brk_not hb
      have hs : ¬ isS c = true := by rw [b1]; decide
      rw [if_neg hs, if_neg h32]
      rcases List.mem_cons.mp ht with e | ht
      · have := ok c (by rw [e]; exact List.mem_cons_self)
        exact absurd this hs
      · exact List.mem_cons_of_mem _ (bt_mem n r hr t ht ok)
    rw [if_neg hb] at ht
    rcases List.mem_cons.mp ht with e | ht
    · have hs : isS c = true := ok c (by rw [e]; exact List.mem_cons_self)
      have hw : ∀ a ∈ r.takeWhile inW, isS a = true := fun a ha => ok a (by rw [e]; exact List.mem_cons_of_mem _ ha)
      obtain ⟨i1, i2⟩ := takeWhile_sub (p := isS) (q := inW) (fun c => isS_inW) r hw
      rw [if_pos hs, e, i1]
      exact List.mem_cons_self
    · have ih := bt_mem n _ (Nat.le_trans (dw_len inW r) hr) t ht ok
      have hv : r.dropWhile inW = [] ∨ ∃ a v', r.dropWhile inW = a :: v' ∧ isS a = false := by
        rcases dropWhile_head inW r with e | ⟨a, v, e, ha⟩
        · exact .inl e
        · refine .inr ⟨a, v, e, ?_⟩
          cases q : isS a with
          | false => rfl
          | true => rw [isS_inW q] at ha; cases ha
      have e2 : c :: r = (c :: r.takeWhile inW) ++ r.dropWhile inW := by rw [List.cons_append, List.takeWhile_append_dropWhile]
      have := tkc_rest _ (c :: r.takeWhile inW) _ (Nat.le_refl _) hv t ih
      rw [← e2, tkc_cons] at this
      exact this
/-- if all words can stand, they are the words -/
theorem bt_eq : ∀ (n : Nat) (l : List Nat), l.length ≤ n → (∀ t ∈ bt l, (∀ c ∈ t, isS c = true) ∨ ∃ c, t = [c] ∧ brk c = true) → bt l = tkc l
  | _, [], _, _ => rfl
  | 0, c :: r, h, _ => by simp at h
  | n + 1, c :: r, h, ok => by
    have hr : r.length ≤ n := by simpa using h
    rw [bt_cons] at ok ⊢
    rw [tkc_cons]
    by_cases h32 : c = 32
    · rw [if_pos h32] at ok ⊢
      have hs : ¬ isS c = true := by rw [h32, sp_not]; decide
      rw [if_neg hs, if_pos h32]
      exact bt_eq n r hr ok
    rw [if_neg h32] at ok ⊢
    by_cases hb : brk c = true
    · rw [if_pos hb] at ok ⊢
      obtain ⟨b1, b2⟩ := brk_not hb
      have hs : ¬ isS c = true := by rw [b1]; decide
      rw [if_neg hs, if_neg h32, bt_eq n r hr fun t ht => ok t (List.mem_cons_of_mem _ ht)]
    rw [if_neg hb] at ok ⊢
    have hw : ∀ a ∈ (c :: r.takeWhile inW), isS a = true := by
      rcases ok _ List.mem_cons_self with q | ⟨d, e, hd⟩
      · exact q
      · have : c = d := (List.cons.inj e).1
        rw [this] at hb
        exact absurd hd hb
    have hs : isS c = true := hw c List.mem_cons_self
    obtain ⟨i1, i2⟩ := takeWhile_sub (p := isS) (q := inW) (fun c => isS_inW) r fun a ha => hw a (List.mem_cons_of_mem _ ha)
    rw [if_pos hs, i1, i2, bt_eq n _ (Nat.le_trans (dw_len inW r) hr) fun t ht => ok t (List.mem_cons_of_mem _ ht)]
/-! by cutting at blanks -/
def spl (d : Nat) : List Nat → List (List Nat)
  | [] => [[]]
  | a :: r => if a = d then [] :: spl d r else match spl d r with
    | p :: ps => (a :: p) :: ps
    | [] => [[a]]
theorem spl_ne (d : Nat) : ∀ l, ∃ p ps, spl d l = p :: ps
  | [] => ⟨_, _, rfl⟩
  | a :: r => by
    obtain ⟨p, ps, e⟩ := spl_ne d r
    unfold spl
    by_cases h : a = d
    · rw [if_pos h]
      exact ⟨_, _, rfl⟩
    · rw [if_neg h, e]
      exact ⟨_, _, rfl⟩
theorem spl_app (d : Nat) : ∀ (p l : List Nat), d ∉ p → spl d (p ++ d :: l) = p :: spl d l
  | [], l, _ => by
    show (if d = d then _ else _) = _
    rw [if_pos rfl]
  | a :: p, l, h => by
    have h1 : a ≠ d := fun e => h (by rw [e]; exact List.mem_cons_self)
    have h2 : d ∉ p := fun e => h (List.mem_cons_of_mem _ e)
    show (if a = d then _ else match spl d (p ++ d :: l) with | p :: ps => (a :: p) :: ps | [] => [[a]]) = _
    rw [if_neg h1, spl_app d p l h2]
theorem spl_one (d : Nat) : ∀ (p : List Nat), d ∉ p → spl d p = [p]
  | [], _ => rfl
  | a :: p, h => by
    have h1 : a ≠ d := fun e => h (by rw [e]; exact List.mem_cons_self)
    have h2 : d ∉ p := fun e => h (List.mem_cons_of_mem _ e)
    show (if a = d then _ else match spl d p with | p :: ps => (a :: p) :: ps | [] => [[a]]) = _
    rw [if_neg h1, spl_one d p h2]
def joinD (d : Nat) : List (List Nat) → List Nat
  | [] => []
  | [p] => p
  | p :: q :: r => p ++ d :: joinD d (q :: r)
theorem spl_join (d : Nat) : ∀ ps : List (List Nat), ps ≠ [] → (∀ p ∈ ps, d ∉ p) → spl d (joinD d ps) = ps
  | [], h, _ => absurd rfl h
  | [p], _, h => spl_one d p (h p List.mem_cons_self)
  | p :: q :: r, _, h => by
    show spl d (p ++ d :: joinD d (q :: r)) = _
    rw [spl_app d _ _ (h p List.mem_cons_self), spl_join d (q :: r) (by simp) fun u hu => h u (List.mem_cons_of_mem _ hu)]
theorem sl_joinD (d : Nat) : ∀ ps : List Str, sl (Str.join ⟨#[d]⟩ ps) = joinD d (ps.map sl)
  | [] => sl_empty
  | [y] => by simp [Str.join, joinD]
  | y :: z :: r => by
    have e : Str.join ⟨#[d]⟩ (y :: z :: r) = y ++ (⟨#[d]⟩ : Str) ++ Str.join ⟨#[d]⟩ (z :: r) := rfl
    have n : sl (⟨#[d]⟩ : Str) = [d] := rfl
    rw [e, sl_app, sl_app, n, sl_joinD d (z :: r), List.append_assoc]
    rfl
theorem split_ne (x : Str) (d : Nat) : Txt.split x ⟨#[d]⟩ ≠ [] := by
  unfold Txt.split
  split
  · simp
  · split
    · simp
    · obtain ⟨p, q, e⟩ := PySem.StrLaws.partsFrom_ne x (⟨#[d]⟩ : Str).length 0 (PySem.Builtin.Str.occurrences x ⟨#[d]⟩ 0 x.length (x.length + 1))
      rw [PySem.StrLaws.partsBetween_eq, e]
      simp
theorem split_sl (x : Str) (d : Nat) : (Txt.split x ⟨#[d]⟩).map sl = spl d (sl x) := by
  have h1 : Str.join ⟨#[d]⟩ (Txt.split x ⟨#[d]⟩) = x := PySem.StrLaws.join_split x ⟨#[d]⟩
  have h2 : ∀ p ∈ Txt.split x ⟨#[d]⟩, d ∉ sl p := PySem.StrLaws.split_free x d
  have h5 := congrArg sl h1
  rw [sl_joinD] at h5
  rw [← h5, spl_join]
  · intro e
    exact split_ne x d (List.map_eq_nil_iff.mp e)
  · intro p hp
    obtain ⟨q, hq, e⟩ := List.mem_map.mp hp
    rw [← e]
    exact h2 q hq
/-- one sign replaced -/
def rep1 (c : Nat) (z : List Nat) (l : List Nat) : List Nat := l.flatMap fun a => if a = c then z else [a]
theorem replace_sl (x : Str) (c : Nat) (z : Str) : sl (Txt.replace x ⟨#[c]⟩ z) = rep1 c (sl z) (sl x) := by
  have h : sl (Txt.replace x ⟨#[c]⟩ z) = PySem.StrLaws.replL [c] (sl z) (sl x) := PySem.StrLaws.replace_list (y := ⟨#[c]⟩) (Nat.le_refl 1)
  rw [h]
  have go : ∀ l : List Nat, PySem.StrLaws.replL [c] (sl z) l = rep1 c (sl z) l := by
    intro l
    induction l with
    | nil => exact PySem.StrLaws.replL_nil
    | cons a l ih =>
      unfold rep1
      rw [List.flatMap_cons]
      by_cases e : a = c
      · have ht : (a :: l).take [c].length = [c] := by rw [e]; rfl
        rw [PySem.StrLaws.replL_hit (by simp) ht, if_pos e]
        show _ ++ PySem.StrLaws.replL [c] (sl z) l = _
        rw [ih]
        rfl
      · have ht : ¬ (a :: l).take [c].length = [c] := fun q => e (List.cons.inj q).1
        rw [PySem.StrLaws.replL_miss ht, if_neg e, ih]
        rfl
  exact go _
/-- all parts but empty ones -/
def spW (l : List Nat) : List (List Nat) := (spl 32 l).filter fun p => !p.isEmpty
theorem spW_app {p : List Nat} (l : List Nat) (h : 32 ∉ p) : spW (p ++ 32 :: l) = (if p.isEmpty then [] else [p]) ++ spW l := by
  unfold spW
  rw [spl_app 32 p l h, List.filter_cons]
  cases p <;> rfl
theorem spW_one {p : List Nat} (h : 32 ∉ p) : spW p = if p.isEmpty then [] else [p] := by
  unfold spW
  rw [spl_one 32 p h, List.filter_cons]
  cases p <;> rfl
theorem spW_join : ∀ ps : List (List Nat), spW (joinD 32 ps) = ps.flatMap spW
  | [] => by
    show spW [] = []
    rfl
  | [p] => by
    show spW p = spW p ++ []
    rw [List.append_nil]
  | p :: q :: r => by
    rw [List.flatMap_cons, ← spW_join (q :: r)]
    show spW (p ++ 32 :: joinD 32 (q :: r)) = _
    generalize joinD 32 (q :: r) = m
    unfold spW
    rw [← List.filter_append]
    congr 1
    induction p with
    | nil => exact spl_app 32 [] m (by simp)
    | cons a p ih =>
      show spl 32 (a :: (p ++ 32 :: m)) = spl 32 (a :: p) ++ spl 32 m
      by_cases h : a = 32
      · show (if a = 32 then [] :: spl 32 (p ++ 32 :: m) else _) = (if a = 32 then [] :: spl 32 p else _) ++ _
        rw [if_pos h, if_pos h, ih]
        rfl
      · obtain ⟨u, us, e⟩ := spl_ne 32 p
        show (if a = 32 then _ else match spl 32 (p ++ 32 :: m) with | p :: ps => (a :: p) :: ps | [] => [[a]]) = (if a = 32 then _ else match spl 32 p with | p :: ps => (a :: p) :: ps | [] => [[a]]) ++ _
        rw [if_neg h, if_neg h, ih, e]
        rfl
def pad (l : List Nat) : List Nat := l.flatMap fun a => if brk a = true then [32, a, 32] else [a]
theorem inW_no {c : Nat} (h : inW c = true) : c ≠ 32 ∧ brk c = false := by
  unfold inW at h
  simp only [Bool.and_eq_true, Bool.not_eq_true', beq_eq_false_iff_ne] at h
  exact h
theorem pad_w : ∀ l : List Nat, (∀ c ∈ l, inW c = true) → pad l = l
  | [], _ => rfl
  | a :: l, h => by
    obtain ⟨_, h2⟩ := inW_no (h a List.mem_cons_self)
    unfold pad
    rw [List.flatMap_cons, if_neg (by rw [h2]; decide)]
    show a :: pad l = _
    rw [pad_w l fun c hc => h c (List.mem_cons_of_mem _ hc)]
theorem pad_app (a b : List Nat) : pad (a ++ b) = pad a ++ pad b := by
  unfold pad
  rw [List.flatMap_append]
theorem tw_all (p : Nat → Bool) : ∀ l : List Nat, ∀ c ∈ l.takeWhile p, p c = true
  | [], _, h => by cases h
  | a :: l, c, h => by
    rw [List.takeWhile_cons] at h
    cases hp : p a with
    | false => rw [hp] at h; cases h
    | true =>
      rw [hp, if_pos rfl] at h
      rcases List.mem_cons.mp h with e | h
      · rw [e]; exact hp
      · exact tw_all p l c h
theorem spW_pad : ∀ (n : Nat) (l : List Nat), l.length ≤ n → spW (pad l) = bt l
  | _, [], _ => rfl
  | 0, c :: r, h => by simp at h
  | n + 1, c :: r, h => by
    have hr : r.length ≤ n := by simpa using h
    rw [bt_cons]
    have e0 : pad (c :: r) = (if brk c = true then [32, c, 32] else [c]) ++ pad r := by
      unfold pad
      rw [List.flatMap_cons]
    by_cases h32 : c = 32
    · have hb : ¬ brk c = true := by rw [h32]; decide
      rw [if_pos h32, e0, if_neg hb, h32]
      have := spW_app (p := []) (pad r) (by simp)
      exact this.trans (spW_pad n r hr)
    rw [if_neg h32]
    by_cases hb : brk c = true
    · rw [if_pos hb, e0, if_pos hb]
      have h1 := spW_app (p := []) ([c] ++ 32 :: pad r) (by simp)
      have h2 := spW_app (p := [c]) (pad r) (by simp; exact fun e => h32 e.symm)
      have h3 : [32, c, 32] ++ pad r = [] ++ 32 :: ([c] ++ 32 :: pad r) := rfl
      rw [h3, h1, h2, spW_pad n r hr]
      rfl
    rw [if_neg hb]
    have hc : inW c = true := by
      unfold inW
      simp only [Bool.and_eq_true, Bool.not_eq_true', beq_eq_false_iff_ne]
      exact ⟨h32, by cases e : brk c with | false => rfl | true => exact absurd e hb⟩
    have hw : ∀ a ∈ (c :: r.takeWhile inW), inW a = true := fun a ha => by
      rcases List.mem_cons.mp ha with e | ha
      · rw [e]; exact hc
      · exact tw_all inW r a ha
    have n32 : 32 ∉ (c :: r.takeWhile inW) := fun z => (inW_no (hw 32 z)).1 rfl
    have e2 : c :: r = (c :: r.takeWhile inW) ++ r.dropWhile inW := by rw [List.cons_append, List.takeWhile_append_dropWhile]
    have ih := spW_pad n _ (Nat.le_trans (dw_len inW r) hr)
    rw [e2, pad_app, pad_w _ hw]
    have ne : (c :: r.takeWhile inW).isEmpty = false := rfl
    rw [← ih]
    generalize c :: r.takeWhile inW = t at hw n32 ne
    rcases dropWhile_head inW r with e | ⟨a, v, e, ha⟩
    · rw [e]
      show spW (t ++ []) = t :: []
      rw [List.append_nil, spW_one n32, ne]
      rfl
    · rw [e]
      obtain ⟨m, hm⟩ : ∃ m, pad (a :: v) = 32 :: m := by
        unfold pad
        rw [List.flatMap_cons]
        by_cases hb2 : brk a = true
        · rw [if_pos hb2]
          exact ⟨_, rfl⟩
        · rw [if_neg hb2]
          have : a = 32 := by
            unfold inW at ha
            have q : brk a = false := by cases z : brk a with | false => rfl | true => exact absurd z hb2
            rw [q] at ha
            simp at ha
            exact ha
          rw [this]
          exact ⟨_, rfl⟩
      rw [hm, spW_app m n32, ne]
      have := spW_app (p := []) m (by simp)
      show [t] ++ spW m = t :: spW (32 :: m)
      have h2 : spW (32 :: m) = spW m := this
      rw [h2]
      rfl
/-! the whole text -/
/-- the signs of the words that are looked for without places -/
def bareL (l : List Nat) : List (List Nat) := (splitL l).flatMap fun p => bt (nc p)
theorem joinL_D : ∀ ps, joinL ps = joinD 10 ps
  | [] => rfl
  | [p] => rfl
  | p :: q :: r => by
    show p ++ 10 :: joinL (q :: r) = p ++ 10 :: joinD 10 (q :: r)
    rw [joinL_D (q :: r)]
theorem splitL_D : ∀ l, splitL l = spl 10 l
  | [] => rfl
  | a :: r => by
    unfold splitL spl
    rw [splitL_D r]
    all_goals rfl
theorem rep_pad (l : List Nat) : rep1 39 [32, 39, 32] (rep1 41 [32, 41, 32] (rep1 40 [32, 40, 32] l)) = pad l := by
  induction l with
  | nil => rfl
  | cons a l ih =>
    have c1 : ∀ (c : Nat) (z : List Nat) (u v : List Nat), rep1 c z (u ++ v) = rep1 c z u ++ rep1 c z v := fun c z u v => by unfold rep1; rw [List.flatMap_append]
    have e1 : a :: l = [a] ++ l := rfl
    rw [e1, c1, c1, c1, ih, pad_app]
    congr 1
    by_cases h1 : a = 40
    · subst h1; decide
    by_cases h2 : a = 41
    · subst h2; decide
    by_cases h3 : a = 39
    · subst h3; decide
    have hb : brk a = false := by
      unfold brk
      simp [h1, h2, h3]
    unfold rep1 pad
    simp [h1, h2, h3, hb]
theorem pad_joinL : ∀ ps : List (List Nat), pad (joinD 10 ps) = joinD 10 (ps.map pad)
  | [] => rfl
  | [p] => rfl
  | p :: q :: r => by
    show pad (p ++ 10 :: joinD 10 (q :: r)) = pad p ++ 10 :: joinD 10 ((q :: r).map pad)
    rw [pad_app, ← pad_joinL (q :: r)]
    rfl
theorem rep_one {p : List Nat} (hp : 10 ∉ p) : rep1 10 [32] p = p := by
  induction p with
  | nil => rfl
  | cons a p ih =>
    have h1 : ¬ a = 10 := fun e => hp (by rw [e]; exact List.mem_cons_self)
    have h2 : 10 ∉ p := fun e => hp (List.mem_cons_of_mem _ e)
    have : rep1 10 [32] (a :: p) = [a] ++ rep1 10 [32] p := by
      unfold rep1
      rw [List.flatMap_cons, if_neg h1]
    rw [this, ih h2]
    rfl
theorem rep_joinL : ∀ ps : List (List Nat), (∀ p ∈ ps, 10 ∉ p) → rep1 10 [32] (joinD 10 ps) = joinD 32 ps
  | [], _ => rfl
  | [p], h => rep_one (h p List.mem_cons_self)
  | p :: q :: r, h => by
    have one' := rep_one (h p List.mem_cons_self)
    have more := rep_joinL (q :: r) (fun u hu => h u (List.mem_cons_of_mem _ hu))
    show rep1 10 [32] (p ++ 10 :: joinD 10 (q :: r)) = p ++ 32 :: joinD 32 (q :: r)
    have c1 : ∀ (u v : List Nat), rep1 10 [32] (u ++ v) = rep1 10 [32] u ++ rep1 10 [32] v := fun u v => by unfold rep1; rw [List.flatMap_append]
    have e : 10 :: joinD 10 (q :: r) = [10] ++ joinD 10 (q :: r) := rfl
    rw [e, c1, c1, more, one']
    rfl
theorem bare_all (l : List Nat) : spW (rep1 10 [32] (rep1 39 [32, 39, 32] (rep1 41 [32, 41, 32] (rep1 40 [32, 40, 32] (joinD 10 ((splitL l).map nc)))))) = bareL l := by
  rw [rep_pad, pad_joinL, rep_joinL, spW_join]
  · unfold bareL
    rw [List.flatMap_map, List.flatMap_map]
    congr 1
    funext p
    exact spW_pad _ _ (Nat.le_refl _)
  · intro p hp
    obtain ⟨q, hq, rfl⟩ := List.mem_map.mp hp
    obtain ⟨u, hu, rfl⟩ := List.mem_map.mp hq
    have hn : 10 ∉ u := by
      rw [splitL_D] at hu
      have : ∀ l : List Nat, ∀ u ∈ spl 10 l, 10 ∉ u := by
        intro l
        induction l with
        | nil => intro u hu; rw [List.mem_singleton.mp hu]; simp
        | cons a r ih =>
          intro u hu
          unfold spl at hu
          by_cases h : a = 10
          · rw [if_pos h] at hu
            rcases List.mem_cons.mp hu with e | hu
            · rw [e]; simp
            · exact ih u hu
          · rw [if_neg h] at hu
            obtain ⟨p, ps, e⟩ := spl_ne 10 r
            rw [e] at hu ih
            rcases List.mem_cons.mp hu with e2 | hu
            · rw [e2]
              intro z
              rcases List.mem_cons.mp z with z | z
              · exact h z.symm
              · exact ih p List.mem_cons_self z
            · exact ih u (List.mem_cons_of_mem _ hu)
      exact this l u hu
    have hn2 : 10 ∉ nc u := fun z => hn ((List.takeWhile_sublist _).subset z)
    intro z
    unfold pad at z
    obtain ⟨a, ha, hz⟩ := List.mem_flatMap.mp z
    split at hz
    · simp at hz
      rw [← hz] at ha
      exact hn2 ha
    · have : 10 = a := List.mem_singleton.mp hz
      rw [← this] at ha
      exact hn2 ha
/-- where no note stands, the lines are what they are -/
theorem no_notes (l : List Nat) (h : 59 ∉ l) : joinD 10 ((splitL l).map nc) = l := by
  have e : (splitL l).map nc = splitL l := by
    have : ∀ p ∈ splitL l, nc p = p := by
      intro p hp
      have hs : ∀ l : List Nat, 59 ∉ l → ∀ u ∈ spl 10 l, 59 ∉ u := by
        intro l
        induction l with
        | nil => intro _ u hu; rw [List.mem_singleton.mp hu]; simp
        | cons a r ih =>
          intro hl u hu
          have hr : 59 ∉ r := fun z => hl (List.mem_cons_of_mem _ z)
          unfold spl at hu
          by_cases h : a = 10
          · rw [if_pos h] at hu
            rcases List.mem_cons.mp hu with e | hu
            · rw [e]; simp
            · exact ih hr u hu
          · rw [if_neg h] at hu
            obtain ⟨p, ps, e⟩ := spl_ne 10 r
            rw [e] at hu
            have ih2 := ih hr
            rw [e] at ih2
            rcases List.mem_cons.mp hu with e2 | hu
            · rw [e2]
              intro z
              rcases List.mem_cons.mp z with z | z
              · exact hl (by rw [z]; exact List.mem_cons_self)
              · exact ih2 p List.mem_cons_self z
            · exact ih2 u (List.mem_cons_of_mem _ hu)
      rw [splitL_D] at hp
      have hf := hs l h p hp
      unfold nc
      clear hp
      induction p with
      | nil => rfl
      | cons a p ih =>
        have h1 : a ≠ 59 := fun e => hf (by rw [e]; exact List.mem_cons_self)
        rw [List.takeWhile_cons, if_pos (by simp [h1]), ih fun e => hf (List.mem_cons_of_mem _ e)]
    calc (splitL l).map nc = (splitL l).map id := List.map_congr_left this
      _ = splitL l := List.map_id _
  rw [e]
  clear e h
  induction l with
  | nil => rfl
  | cons a r ih =>
    obtain ⟨p, ps, e⟩ := splitL_ne r
    rw [e] at ih
    unfold splitL
    by_cases h : a = 10
    · rw [if_pos h, e, h]
      show [] ++ 10 :: joinD 10 (p :: ps) = _
      rw [ih]
      rfl
    · rw [if_neg h, e]
      show joinD 10 ((a :: p) :: ps) = _
      cases ps with
      | nil =>
        show a :: p = _
        rw [← ih]
        rfl
      | cons q ps =>
        show (a :: p) ++ 10 :: joinD 10 (q :: ps) = _
        rw [← ih]
        rfl
end Kg
namespace Kg
open PySem PySem.Spec PyProof.Rows L2
/-! ### a text's own object, known behind a store -/
/-- nothing is called in it -/
def NC {α : Type} : Sem α → Prop
  | .call .. => False
  | .resume .. => False
  | .rule _ k => NC (k ())
  | .at _ k => NC (k ())
  | .load _ _ k => ∀ x, NC (k x)
  | .update _ _ _ k => NC (k ())
  | .alloc _ k => ∀ x, NC (k x)
  | .loadIfAlive _ k => ∀ x, NC (k x)
  | .point _ k => NC (k ())
  | .fresh k => ∀ x, NC (k x)
  | .ask k => ∀ x, NC (k x)
  | .choose _ _ k => ∀ x, NC (k x)
  | .os _ _ k => ∀ x, NC (k x)
  | .handled _ k => ∀ x, NC (k x)
  | .genState _ k => ∀ x, NC (k x)
  | .newGen _ k => ∀ x, NC (k x)
  | .stack k => ∀ x, NC (k x)
  | .thread k => ∀ x, NC (k x)
  | .pure _ => True
  | .raise _ => True
  | .unsupported _ => True
  | _ => False
theorem NC.bind {α β : Type} {t : Sem α} {f : α → Sem β} (h : NC t) (hf : ∀ a, NC (f a)) : NC (t >>= f) := by
  show NC (Sem.bind t f)
  induction t with
  | pure a => exact hf a
  | raise e => exact h
  | unsupported _ => exact h
  | rule _ k ih => exact ih () h
  | «at» _ k ih => exact ih () h
  | load _ _ k ih => exact fun x => ih x (h x)
  | update _ _ _ k ih => exact ih () h
  | alloc _ k ih => exact fun x => ih x (h x)
  | loadIfAlive _ k ih => exact fun x => ih x (h x)
  | point _ k ih => exact ih () h
  | fresh k ih => exact fun x => ih x (h x)
  | ask k ih => exact fun x => ih x (h x)
  | choose _ _ k ih => exact fun x => ih x (h x)
  | os _ _ k ih => exact fun x => ih x (h x)
  | handled _ k ih => exact fun x => ih x (h x)
  | genState _ k ih => exact fun x => ih x (h x)
  | newGen _ k ih => exact fun x => ih x (h x)
  | stack k ih => exact fun x => ih x (h x)
  | thread k ih => exact fun x => ih x (h x)
  | _ => exact h.elim
theorem NC.wp {α : Type} (M : Model) (Γ : PySem.Ctx) {Q R : α → Pos → Shared → Prop} {E F : Value → Pos → Shared → Prop} {t : Sem α} : ∀ {p : Pos} {s : Shared}, NC t → Sem.wp M Γ t Q E p s → Sem.wp M Γ t R F p s → Sem.wp M Γ t (fun a p s => Q a p s ∧ R a p s) (fun a p s => E a p s ∧ F a p s) p s := by
  induction t with
  | pure a => exact fun _ h1 h2 => ⟨h1, h2⟩
  | raise e => exact fun _ h1 h2 => ⟨h1, h2⟩
  | unsupported _ => exact fun _ h1 _ => h1
  | rule _ k ih => exact fun n h1 h2 => ih () n h1 h2
  | «at» _ k ih => exact fun n h1 h2 => ih () n h1 h2
  | load _ _ k ih =>
    intro p s n h1 h2
    obtain ⟨o, e1, h1⟩ := h1
    obtain ⟨o2, e2, h2⟩ := h2
    rw [e1] at e2
    cases e2
    exact ⟨o, e1, ih o (n o) h1 h2⟩
  | update _ _ _ k ih => exact fun n h1 h2 => ⟨h1.1, ih () n h1.2 h2.2⟩
  | alloc _ k ih => exact fun n h1 h2 => ih _ (n _) h1 h2
  | loadIfAlive _ k ih => exact fun n h1 h2 => ih _ (n _) h1 h2
  | point _ k ih => exact fun n h1 h2 => ih () n h1 h2
  | fresh k ih => exact fun n h1 h2 => ih _ (n _) h1 h2
  | ask k ih => exact fun n h1 h2 => ih _ (n _) h1 h2
  | choose _ _ k ih => exact fun n h1 h2 => ⟨h1.1, ih _ (n _) h1.2 h2.2⟩
  | os _ _ k ih => exact fun n h1 h2 => ih _ (n _) h1 h2
  | handled _ k ih => exact fun n h1 h2 => ih _ (n _) h1 h2
  | genState _ k ih =>
    intro p s n h1 h2
    obtain ⟨o, e1, h1⟩ := h1
    obtain ⟨o2, e2, h2⟩ := h2
    rw [e1] at e2
    cases e2
    exact ⟨o, e1, ih _ (n _) h1 h2⟩
  | newGen _ k ih => exact fun n h1 h2 => ih _ (n _) h1 h2
  | stack k ih => exact fun n h1 h2 => ih _ (n _) h1 h2
  | thread k ih => exact fun n h1 h2 => ih _ (n _) h1 h2
  | _ => exact fun n _ _ => n.elim
theorem NC.any {α : Type} {M : Model} {A : Around} {Q R : α → Shared → Prop} {E : Value → Shared → Prop} {t : Sem α} {s : Shared} (n : NC t) (h1 : wpAny M A t Q E s) (h2 : wpAny M A t R E s) : wpAny M A t (fun a s => Q a s ∧ R a s) E s :=
  fun Γ p hΓ => Sem.wp_mono M Γ _ (fun _ _ _ (h : _ ∧ _) => h) (fun _ _ _ (h : _ ∧ _) => h.1) _ _ (NC.wp M Γ n (h1 Γ p hΓ) (h2 Γ p hΓ))
theorem nc_set (a : Addr) (x : Str) (v : Value) : NC (nsSet a x v) := by
  unfold nsSet
  refine NC.bind (NC.bind (t := ask) (fun _ => True.intro) fun _ => True.intro) fun h => ?_
  refine NC.bind (NC.bind (t := fresh) (fun _ => True.intro) fun _ => True.intro) fun key => ?_
  refine NC.bind (t := loadPart _ _) (fun _ => True.intro) fun o => ?_
  split
  · split
    · exact True.intro
    · exact True.intro
  · exact True.intro
/-- the local x holds the text z, whose object was made some time ago -/
def TokAt (X : Cx) (x z : Str) (s : Shared) : Prop := ∃ m t, s.heap.Ns X.env.locals m ∧ m x = some (.str z t) ∧ 1 ≤ t ∧ t < s.toks
def oneS (c : Nat) : Str := ⟨#[c]⟩
/-- a sign between blanks -/
def padS (c : Nat) : Str := (" " : Str) ++ oneS c ++ (" " : Str)
def padAll (y : Str) (cs : List Nat) : Str := cs.foldl (fun y c => Txt.replace y (oneS c) (padS c)) y
theorem padS_len (c : Nat) : (padS c).length = 3 := rfl
theorem padS_ne (c : Nat) : (oneS c == padS c) = false := beq_eq_false_iff_ne.mpr fun e => by
  have h : (oneS c).length = (padS c).length := congrArg Str.length e
  rw [padS_len] at h
  have : (oneS c).length = 1 := rfl
  omega
section
variable {X : Cx} {pins : List (Addr × Obj)} {σ : L2.St} {H : Hp} {s : Shared} {cx sx : Str} {i j : Nat}
theorem store_tok {z : Str} {t : Tok} {Q : Unit → Shared → Prop} (I : Inv X pins σ H s) (hN : X.N.Nodup) (hj : X.N[j]? = some sx) (hk : X.env.kindOf sx = some .local) (hf : X.fn sx = true ∨ X.env.scope.names.lookup sx = some .local) (h1 : 1 ≤ t) (h2 : t < s.toks)
    (h : ∀ s', Inv X pins (σ.set j (some (.str z))) H s' → TokAt X sx z s' → Q () s') : wpAny (model X.prog X.w) X.A (storeName X.env sx (.str z t)) Q X.xe s := by
  obtain ⟨m, hn, _⟩ := id I.loc
  have hcls : (X.env.scope.kind == .class || (X.env.scope.kind == .module && X.env.locals != X.env.globals)) = false := by rw [I.ok.kind]; rfl
  have nc : NC (storeName X.env sx (.str z t)) := by rw [storeName_local hk hcls]; exact nc_set _ _ _
  exact wpAny_mono (nc.any (store_ok (v := .str z) (Q := fun _ s' => Inv X pins (σ.set j (some (.str z))) H s') I hN hj (.inl hk) ⟨t, rfl⟩ (fun _ I' => I') hf)
    (wpAny_storeName_local (Q := fun _ s' => TokAt X sx z s') hk hn (fun h' hn' hs => ⟨_, t, hn', by simp, h1, Nat.lt_succ_of_lt h2⟩) hcls)) (fun _ s' q => h s' q.1 q.2) (fun _ _ q => q)
theorem repl_tok {c : Nat} {y : Str} {Q : VK} {p4 p5 p6 p7 p8 p9 p10 p11 p12 : Pos} {j1 j2 : Nat} (I : Inv X pins σ H s) (hi : X.N[i]? = some cx) (hkc : X.env.kindOf cx = some .local) (hks : X.env.kindOf sx = some .local) (hy : σ[i]? = some (some (.str y))) (T : TokAt X sx (oneS c) s)
    (hv : Vis X.env.scope cx) (hd1 : (cx == ("__debug__" : Str)) = false) (hd2 : (sx == ("__debug__" : Str)) = false) (hb : y.length ≤ 4000000)
    (hbase : attributeBase (.Name cx p4) "replace" X.env (eval (.Name cx p4) X.env) = eval (.Name cx p4) X.env) (hline : (p5.endLine == p12.line) = true)
    (hst : starEach [.Name sx p6, .BinOp (.BinOp (.Constant (.str " ") j1 p7) .Add (.Name sx p8) p9) .Add (.Constant (.str " ") j2 p10) p11] X.env = [(false, eval (.Name sx p6) X.env), (false, eval (.BinOp (.BinOp (.Constant (.str " ") j1 p7) .Add (.Name sx p8) p9) .Add (.Constant (.str " ") j2 p10) p11) X.env)])
    (h : Q (.str (Txt.replace y (oneS c) (padS c))) H) :
    wpAny (model X.prog X.w) X.A (eval (.Call (.Attribute (.Name cx p4) "replace" p5) [.Name sx p6, .BinOp (.BinOp (.Constant (.str " ") j1 p7) .Add (.Name sx p8) p9) .Add (.Constant (.str " ") j2 p10) p11] [] p12) X.env) (EP X pins σ Q) X.xe s := by
  obtain ⟨m, hn, hl⟩ := id I.loc
  obtain ⟨u, ⟨ty, rfl⟩, l⟩ := hl i cx (.str y) hi hy hv
  have hm : m cx = some (.str y ty) := by
    rcases l with ⟨_, e⟩ | ⟨k, _⟩
    · exact e
    · rw [hkc] at k
      rcases k with k | k <;> cases k
  obtain ⟨m2, t, hn2, hm2, t1, t2⟩ := T
  refine Call_method2 hbase hst hline (wpAny_Name (wpAny_loadName_local I.ok.kind hkc hn hm ?_) hd1)
  refine ⟨"str", _, PySem.F.plainAttrs_str, PySem.F.slot_str_replace, PySem.F.type_str_replace, typeIs_str _ _ _, (fun _ e => nomatch e), Calls.callWith_builtin rfl (Calls.evalArgs_plain (Calls.spliced_cons (wpAny_Name (wpAny_loadName_local I.ok.kind hks hn2 hm2 ?_) hd2)))⟩
  refine Calls.spliced_cons (wpAny_BinOp (wpAny_BinOp (Calls.Constant_str (wpAny_Name (wpAny_loadName_local (s := { s with toks := s.toks + 1 }) I.ok.kind hks hn2 hm2 ?_) hd2))))
  refine PySem.P.add_str ?_
  refine ⟨?_, Calls.Constant_str (PySem.P.add_str ?_)⟩
  · show 2 ≤ sizeLine
    decide
  refine ⟨?_, Calls.spliced_nil ?_⟩
  · show 3 ≤ sizeLine
    decide
  refine PySem.SC.replace ?_ ?_ ?_ (padS_ne c) ?_ fun t' k => ⟨.str (Txt.replace y (oneS c) (padS c)), H, I.tok k, ⟨t', rfl⟩, h⟩
  · exact Nat.ne_of_gt t1
  · exact Nat.succ_ne_zero _
  · exact Nat.ne_of_lt (Nat.lt_of_lt_of_le t2 (Nat.le_add_right s.toks 3))
  · have e := padS_len c
    unfold padS at e
    rw [e]
    omega
end
end Kg
namespace Kg
open PySem PySem.Spec PyProof.Rows L2
theorem padAll_more (y : Str) (cs : List Nat) (k : Nat) (c : Nat) (h : cs[k]? = some c) : padAll y (cs.take (k + 1)) = Txt.replace (padAll y (cs.take k)) (oneS c) (padS c) := by
  have e : cs.take (k + 1) = cs.take k ++ [c] := take_more h
  rw [e]
  unfold padAll
  rw [List.foldl_append]
  rfl
section
variable {X : Cx} {cx sx lit : Str} {i j : Nat} {p1 p2 p3 p4 p5 p6 p7 p8 p9 p10 p11 p12 p13 pos : Pos} {j0 j1 j2 : Nat}
/-- each sign of a written text is put between blanks in a text -/
theorem ps_padFor (hp : PassesOwn (model X.prog X.w) X.A X.env X.xe) (hc : X.calm = true) (hN : X.N.Nodup) (hi : X.N[i]? = some cx) (hj : X.N[j]? = some sx) (hij : j ≠ i) (hkc : X.env.kindOf cx = some .local) (hks : X.env.kindOf sx = some .local)
    (hfc : X.fn cx = true ∨ X.env.scope.names.lookup cx = some .local) (hfs : X.fn sx = true ∨ X.env.scope.names.lookup sx = some .local) (ha : lit.cps.all (· < 128) = true)
    (hv : Vis X.env.scope cx) (hd1 : (cx == ("__debug__" : Str)) = false) (hd2 : (sx == ("__debug__" : Str)) = false)
    (hbase : attributeBase (.Name cx p4) "replace" X.env (eval (.Name cx p4) X.env) = eval (.Name cx p4) X.env) (hline : (p5.endLine == p12.line) = true)
    (hst : starEach [.Name sx p6, .BinOp (.BinOp (.Constant (.str " ") j1 p7) .Add (.Name sx p8) p9) .Add (.Constant (.str " ") j2 p10) p11] X.env = [(false, eval (.Name sx p6) X.env), (false, eval (.BinOp (.BinOp (.Constant (.str " ") j1 p7) .Add (.Name sx p8) p9) .Add (.Constant (.str " ") j2 p10) p11) X.env)])
    (hs : ∀ x, foldedSetIterable (.Constant (.str lit) j0 p2) X.env x = pure x)
    (hsw : swapsWith (.Call (.Attribute (.Name cx p4) "replace" p5) [.Name sx p6, .BinOp (.BinOp (.Constant (.str " ") j1 p7) .Add (.Name sx p8) p9) .Add (.Constant (.str " ") j2 p10) p11] [] p12) (some (.Name cx p3)) p13.line X.env = pure false) :
    PS X (.For (.Name sx p1) (.Constant (.str lit) j0 p2) [.Assign [.Name cx p3] (.Call (.Attribute (.Name cx p4) "replace" p5) [.Name sx p6, .BinOp (.BinOp (.Constant (.str " ") j1 p7) .Add (.Name sx p8) p9) .Add (.Constant (.str " ") j2 p10) p11] [] p12) p13] [] pos)
      (fun D σ H => ∃ y, σ[i]? = some (some (.str y)) ∧ (∀ n, (padAll y (lit.cps.toList.take n)).length ≤ 4000000) ∧ ∀ σ' : L2.St, σ'.length = σ.length → σ'[i]? = some (some (.str (padAll y lit.cps.toList))) → (∀ q, q ≠ i → q ≠ j → σ'[q]? = σ[q]?) → D.nx σ' H) := by
  refine ⟨fun pins s σ H D I h => ?_⟩
  obtain ⟨y, hy, hb, fin⟩ := h
  refine wpAny_For (Calls.Constant_str (wpAny_pyIter_ascii ha ?_)) hs
  have I1 : Inv X pins σ H { s with heap := s.heap.push { cls := .type "str_ascii_iterator", data := .fields #[.str lit s.toks, .int 0 0] }, toks := s.toks + 1 } := I.kept (t' := s.toks + 1) fun b ob e => Heap.get?_push_of_some _ e
  have fp0 : FpOk X pins H s.heap.objs.size := I.fpOk (Nat.le_refl _) (I.hok.fresh (Nat.le_refl _))
  have st0 : (s.heap.push { cls := .type "str_ascii_iterator", data := .fields #[.str lit s.toks, .int 0 0] }).IsStrIter s.heap.objs.size "str_ascii_iterator" lit s.toks 0 := ⟨_, Heap.get?_push_size _ rfl, rfl, rfl⟩
  have isz : i < σ.length := (List.getElem?_eq_some_iff.mp hy).1
  have iN : i < X.N.length := (List.getElem?_eq_some_iff.mp hi).1
  have jN : j < X.N.length := (List.getElem?_eq_some_iff.mp hj).1
  generalize s.heap.objs.size = it at *
  generalize s.toks = t0 at *
  have tsz : lit.cps.toList.length = lit.cps.size := Array.length_toList
  refine codeAny_forLoop_any (fun n s' => ∃ k σ', Inv X pins σ' H s' ∧ s'.heap.IsStrIter it "str_ascii_iterator" lit t0 k ∧ 1 ≤ s'.toks ∧ k ≤ lit.cps.size ∧ n = lit.cps.size - k ∧ σ'.length = σ.length ∧ σ'[i]? = some (some (.str (padAll y (lit.cps.toList.take k)))) ∧ ∀ q, q ≠ i → q ≠ j → σ'[q]? = σ[q]?) ?_ lit.cps.size ⟨0, σ, I1, st0, Nat.le_add_left 1 t0, Nat.zero_le _, by omega, rfl, hy, fun _ _ _ => rfl⟩
  rintro n s3 ⟨k, σ3, I3, st3, tk3, hk, rfl, len3, hy3, oth3⟩
  obtain ⟨f0, f1, f2, f3, f4, f5⟩ := fp0
  by_cases hlt : k < lit.cps.size
  · have hcx : lit.cps[k]? = some lit.cps[k] := by simp [hlt]
    refine wpAny_passesOwn hp (wpAny_pyNext_ascii_item st3 hcx fun h' hit' hs' => ?_)
    generalize lit.cps[k] = c at hcx
    have I4 : Inv X pins σ3 H { s3 with heap := h', toks := s3.toks + 1 } := I3.turned (fun b o hb e => hs'.extBut b o hb e) f0 f1 f3 f4 f5
    obtain ⟨oi, e0, e1, e2⟩ := id hit'
    have I4' : Inv X (pins ++ pinsAt [it] h') σ3 H { s3 with heap := h', toks := s3.toks + 1 } := I4.pinned (fun b hb => by
      rw [List.mem_singleton.mp hb]
      exact ⟨f0, f1, f2, f3, f4, f5⟩) (fun b hb => by
      rw [List.mem_singleton.mp hb]
      exact ⟨oi, e0, fun v z => by rw [e2] at z; cases z⟩)
    refine wpAny_passesOwn hp (go_of (s := { s3 with heap := h', toks := s3.toks + 1 }) e0 e1 e2 (by decide) ?_)
    refine wpAny_passesOwn hp (wpAny_assign_Name (store_tok (z := oneS c) I4' hN hj hks hfs tk3 (Nat.lt_succ_self s3.toks) fun s5 I5 T5 => ?_))
    have ij : i ≠ j := Ne.symm hij
    have hy5 : (σ3.set j (some (.str (oneS c))))[i]? = some (some (.str (padAll y (lit.cps.toList.take k)))) := by
      rw [List.getElem?_set_ne hij]
      exact hy3
    refine wpAny_passesOwn hp (wpAny_execs_cons (wpAny_Assign_Name (wpAny_mono (wpAny_toks (repl_tok (Q := fun v H1 => v = .str (Txt.replace (padAll y (lit.cps.toList.take k)) (oneS c) (padS c)) ∧ H1 = H) I5 hi hkc hks hy5 T5 hv hd1 hd2 (hb k) hbase hline hst ⟨rfl, rfl⟩)) (fun u s6 h6 => ?_) (fun _ _ x => x.2)) hsw))
    obtain ⟨k6, x6, H6, I6, r6, rfl, rfl⟩ := h6
    refine wpAny_mono (wpAny_toks (store_ok (Q := fun _ s7 => Inv X (pins ++ pinsAt [it] h') ((σ3.set j (some (.str (oneS c)))).set i (some (.str (Txt.replace (padAll y (lit.cps.toList.take k)) (oneS c) (padS c))))) H6 s7) I6 hN hi (.inl hkc) r6 (fun s7 I7 => I7) hfc)) (fun _ s7 h7 => wpAny_execs_nil ?_) (fun _ _ x => x.2)
    obtain ⟨k7, I7⟩ := h7
    have one : 1 ≤ s7.toks := by
      obtain ⟨_, t, _, _, h1, h2⟩ := T5
      exact Nat.le_trans h1 (Nat.le_trans (Nat.le_of_lt h2) (Nat.le_trans k6 k7))
    have hcl : lit.cps.toList[k]? = some c := by rw [Array.getElem?_toList]; exact hcx
    refine ⟨lit.cps.size - (k + 1), by omega, k + 1, _, I7.unpinned, ⟨oi, (I7.pin (it, oi) (List.mem_append_right _ (List.mem_append_right _ (mem_pinsAt List.mem_cons_self e0)))).1, e1, e2⟩, one, hlt, rfl, ?_, ?_, ?_⟩
    · rw [List.length_set, List.length_set, len3]
    · rw [List.getElem?_set_self (by rw [List.length_set, len3]; exact isz), padAll_more y _ k c hcl]
    · intro q h1 h2
      rw [List.getElem?_set_ne (Ne.symm h1), List.getElem?_set_ne (Ne.symm h2)]
      exact oth3 q h1 h2
  · have hx : lit.cps[k]? = none := by simp; omega
    refine wpAny_passesOwn hp (wpAny_pyNext_ascii_end (I3.ok.hd hc) st3 hx fun h' eb => ?_)
    have I4 : Inv X pins σ3 H { s3 with heap := h' } := I3.turned (t' := s3.toks) (fun b o hb e => eb b o hb e) f0 f1 f3 f4 f5
    have ek : k = lit.cps.size := by omega
    refine wpAny_passesOwn hp (wpAny_execs_nil ⟨σ3, H, I4, fin σ3 len3 ?_ oth3⟩)
    rw [hy3, ek, List.take_of_length_le (by omega)]
end
end Kg
namespace Kg
open PySem PySem.Spec PyProof.Rows L2
theorem paired_getR {α β : Type} {R : α → β → Prop} : ∀ {l₁ : List α} {l₂ : List β} {i : Nat} {b : β}, Paired R l₁ l₂ → l₂[i]? = some b → ∃ a, l₁[i]? = some a ∧ R a b
  | _, _, i, b, .nil, e => by simp at e
  | _, _, 0, b, .cons r _, e => by simp at e; subst e; exact ⟨_, rfl, r⟩
  | _, _, i + 1, b, .cons _ t, e => by
    obtain ⟨a, h1, h2⟩ := paired_getR (i := i) (b := b) t (by simpa using e)
    exact ⟨a, by simpa using h1, h2⟩
theorem spl_len (d : Nat) : ∀ l : List Nat, ∀ p ∈ spl d l, p.length ≤ l.length
  | [], p, h => by rw [List.mem_singleton.mp h]; exact Nat.le_refl _
  | a :: r, p, h => by
    have ih := spl_len d r
    unfold spl at h
    by_cases e : a = d
    · rw [if_pos e] at h
      rcases List.mem_cons.mp h with z | h
      · rw [z]; exact Nat.zero_le _
      · exact Nat.le_succ_of_le (ih p h)
    · rw [if_neg e] at h
      obtain ⟨u, us, e2⟩ := spl_ne d r
      rw [e2] at h ih
      rcases List.mem_cons.mp h with z | h
      · rw [z]
        exact Nat.succ_le_succ (ih u List.mem_cons_self)
      · exact Nat.le_succ_of_le (ih p (List.mem_cons_of_mem _ h))
theorem split_len {R a : Str} {d : Nat} (h : a ∈ Txt.split R (oneS d)) : a.length ≤ R.length := by
  have h2 : sl a ∈ (Txt.split R (oneS d)).map sl := List.mem_map.mpr ⟨a, h, rfl⟩
  have h3 : (Txt.split R (oneS d)).map sl = spl d (sl R) := split_sl R d
  rw [h3] at h2
  have := spl_len d _ _ h2
  rw [sl_len, sl_len] at this
  exact this
def full (z : Str) : Bool := !(z.length == 0)
/-- the words of a text whose lines are joined -/
def cutAll (y : Str) : List Str := (Txt.split (Txt.replace y (oneS 10) (oneS 32)) (oneS 32)).filter full
section
variable {X : Cx} {cx wx : Str} {i : Nat} {pe pt pi p1 p2 p3 p4 p5 p6 p7 p8 lpos pos : Pos} {j1 j2 j3 : Nat} {scope : Scope} {cl : List (Str × Addr)}
theorem pst_cut (hi : X.N[i]? = some cx) (hv : Vis X.env.scope cx) (hd1 : (cx == ("__debug__" : Str)) = false) (hcd : (cx == ("__classdict__" : Str)) = false) (hw : (wx == ("__debug__" : Str)) = false) (hc : X.calm = true)
    (hclos : closureFor scope X.env = pure cl) (hcell : ∀ y ∈ scope.names, y.2 ≠ .cell) (hkind : scope.kind = .function) (hnames : ∀ y ∈ scope.names, y.2 = .local → scope.names.lookup y.1 = some .local) (hlw : scope.names.lookup wx = some .local)
    (hst1 : starEach [.Constant (.str "\n") j1 p3, .Constant (.str " ") j2 p4] X.env = [(false, eval (.Constant (.str "\n") j1 p3) X.env), (false, eval (.Constant (.str " ") j2 p4) X.env)])
    (hb1 : attributeBase (.Name cx p1) "replace" X.env (eval (.Name cx p1) X.env) = eval (.Name cx p1) X.env) (hl1 : (p2.endLine == p5.line) = true)
    (hst2 : starEach [.Constant (.str " ") j3 p7] X.env = [(false, eval (.Constant (.str " ") j3 p7) X.env)])
    (hb2 : attributeBase (.Call (.Attribute (.Name cx p1) "replace" p2) [.Constant (.str "\n") j1 p3, .Constant (.str " ") j2 p4] [] p5) "split" X.env (eval (.Call (.Attribute (.Name cx p1) "replace" p2) [.Constant (.str "\n") j1 p3, .Constant (.str " ") j2 p4] [] p5) X.env) = eval (.Call (.Attribute (.Name cx p1) "replace" p2) [.Constant (.str "\n") j1 p3, .Constant (.str " ") j2 p4] [] p5) X.env) (hl2 : (p6.endLine == p8.line) = true)
    (hs : ∀ x, foldedSetIterable (.Call (.Attribute (.Call (.Attribute (.Name cx p1) "replace" p2) [.Constant (.str "\n") j1 p3, .Constant (.str " ") j2 p4] [] p5) "split" p6) [.Constant (.str " ") j3 p7] [] p8) X.env x = pure x) :
    PST X (.Return (some (.ListComp (.Name wx pe) [⟨.Name wx pt, .Call (.Attribute (.Call (.Attribute (.Name cx p1) "replace" p2) [.Constant (.str "\n") j1 p3, .Constant (.str " ") j2 p4] [] p5) "split" p6) [.Constant (.str " ") j3 p7] [] p8, [.Name wx pi], 0⟩] scope lpos)) pos)
      (fun D σ H => ∃ y, σ[i]? = some (some (.str y)) ∧ y.length ≤ 4000000 ∧ ∀ p q xs, H p = none → upd H p (.lst xs) q = none → D.rt (.ref q) (upd (upd H p (.lst xs)) q (.lst ((cutAll y).map V.str)))) := by
  intro pins s σ H D h0 I h
  obtain ⟨y, hy, hb, k⟩ := h
  have eN : ("\n" : Str) = oneS 10 := by decide +kernel
  have eB : (" " : Str) = oneS 32 := by decide +kernel
  refine wpAny_Return_some (ListComp_goes hclos hcell hkind hnames ?_ hs)
  refine Call_method1 hb2 hst2 hl2 (wpAny_mono (CwR.pet_replC (pe_var hi hv hd1 hcd) (by decide) hst1 hb1 hl1 pins s σ H (fun v H1 => v = .str (Txt.replace y ("\n" : Str) (" " : Str)) ∧ H1 = H) h0 I ⟨.str y, hy, y, rfl, ?_, rfl, rfl⟩) (fun v s1 q => ?_) (fun _ _ x => x))
  · have : (" " : Str).length = 1 := by decide
    rw [this]
    omega
  obtain ⟨x1, H1, I1, r1, rfl, rfl⟩ := q
  obtain ⟨t1, rfl⟩ := r1
  have hlen : (Txt.replace y ("\n" : Str) (" " : Str)).length ≤ 8000001 := by
    have := TK.replace_len y ("\n" : Str) (" " : Str)
    have e : (" " : Str).length = 1 := by decide
    rw [e] at this
    omega
  refine ⟨"str", _, PySem.F.plainAttrs_str, PySem.F.slot_str_split, PySem.F.type_str_split, typeIs_str _ _ _, (fun _ e => nomatch e), Calls.callWith_builtin rfl (Calls.evalArgs_plain (Calls.spliced_cons (Calls.Constant_str (Calls.spliced_nil ?_))))⟩
  have hB : ("\n" : Str) = oneS 10 := eN
  rw [eN, eB] at hlen ⊢
  generalize hR : Txt.replace y (oneS 10) (oneS 32) = R at hlen ⊢
  refine wpAny_mono (mt_split pins _ σ H1 (.str R) [.str (oneS 32)] _ _ (fun u H2 => ∃ p, H1 p = none ∧ u = .ref p ∧ H2 = upd H1 p (.lst ((Txt.split R (oneS 32)).map V.str))) (I1.tok (s1.toks + 1)) ⟨t1, rfl⟩ (.cons ⟨_, rfl⟩ .nil) ⟨R, oneS 32, rfl, rfl, rfl, Nat.le_trans (Nat.add_le_add_right hlen 2) (by decide), fun p np => ⟨p, np, rfl, rfl⟩⟩) (fun xv s2 q2 => ?_) (fun _ _ x => x)
  obtain ⟨x2, H2, I2, r2, p, np, rfl, rfl⟩ := q2
  cases r2
  have hok := I2.hok p _ upd_same
  obtain ⟨hsz, its, n, rv, hp⟩ := hok
  have pl : s2.heap.PlainList p its.toArray := ⟨n, hp⟩
  have hlt : p < s2.heap.objs.size := Heap.lt_size hp
  have hhd : X.A.handled = none := I2.ok.hd hc
  refine wpAny_pyIter_list pl.isList ?_
  refine ⟨s2.heap.objs.size, [s2.heap.objs.size, p], [s2.heap.objs.size], its.toArray.size, _, _, rfl, Goes.list (A := X.A) hhd s2.heap.objs.size p (Nat.ne_of_lt hlt) its.toArray, ?_, ⟨⟨_, Heap.get?_push_size _ rfl, rfl, rfl⟩, pl.isList.at fun o e => Heap.get?_push_of_some _ e⟩, ?_, fun D' C s₃ hB => ?_⟩
  · have := rv.length
    rw [List.size_toArray, ← this]
    exact hsz
  · intro b hb
    show b < (s2.heap.push _).objs.size
    rw [Heap.size_push]
    rcases List.mem_cons.mp hb with e | hb
    · rw [e]
      exact Nat.lt_succ_self _
    · rw [List.mem_singleton.mp hb]
      exact Nat.lt_succ_of_lt hlt
  obtain ⟨⟨h₃, tk₃, rfl⟩, old, nD, nC, hDC, hnm⟩ := hB
  have old2 : ∀ b o, s2.heap.get? b = some o → h₃.get? b = some o := fun b o e => old b o (Heap.get?_push_of_some _ e)
  have szI : (s2.heap.push { cls := .type "list_iterator", data := .fields #[.ref p, .int 0 0] }).objs.size = s2.heap.objs.size + 1 := Heap.size_push _ _
  have nD1 : s2.heap.objs.size + 1 ≤ D' := by rw [← szI]; exact nD
  have nC1 : s2.heap.objs.size + 1 ≤ C := by rw [← szI]; exact nC
  have kinds : (compEnvC scope cl C X.env).kindOf wx = some .local := lookup_relabel_local hlw
  have hp' : ((compEnvC scope cl C X.env).scope.kind == .class || ((compEnvC scope cl C X.env).scope.kind == .module && (compEnvC scope cl C X.env).locals != (compEnvC scope cl C X.env).globals)) = false := by
    show (scope.kind == .class || (scope.kind == .module && _)) = false
    rw [hkind]; rfl
  have oldC : ∀ b o, s2.heap.get? b = some o → b ≠ C := fun b o e z => by
    have := Heap.lt_size e
    rw [z] at this
    exact absurd (Nat.lt_of_lt_of_le this (Nat.le_trans (Nat.le_succ _) nC1)) (Nat.lt_irrefl _)
  have oldD : ∀ b o, s2.heap.get? b = some o → b ≠ D' := fun b o e z => by
    have := Heap.lt_size e
    rw [z] at this
    exact absurd (Nat.lt_of_lt_of_le this (Nat.le_trans (Nat.le_succ _) nD1)) (Nat.lt_irrefl _)
  have itC : s2.heap.objs.size ≠ C := fun z => by rw [← z] at nC1; exact absurd nC1 (Nat.not_succ_le_self _)
  have itD : s2.heap.objs.size ≠ D' := fun z => by rw [← z] at nD1; exact absurd nD1 (Nat.not_succ_le_self _)
  refine ⟨fun i vs s₁ => ∃ h' tk m, s₁ = { s2 with heap := h', toks := tk } ∧ h'.Ns C m ∧ Vals ((((Txt.split R (oneS 32)).take i).filter full).map V.str) vs ∧ ∀ b o, s2.heap.get? b = some o → h'.get? b = some o, ⟨h₃, tk₃, _, rfl, hnm, .nil, old2⟩, ?_, ?_, ?_⟩
  · rintro i vs s₁ h' tk ⟨h₄, tk₄, m, rfl, n₄, e₄, k₄⟩ hk' _
    refine ⟨h', tk, m, rfl, n₄.at' fun o e => hk' _ o ?_ e, e₄, fun b o e => hk' b o ?_ (k₄ b o e)⟩
    · intro z
      rcases List.mem_cons.mp z with z | z
      · exact hDC z.symm
      · exact itC (List.mem_singleton.mp z).symm
    · intro z
      rcases List.mem_cons.mp z with z | z
      · exact oldD b o e z
      · have := Heap.lt_size e
        rw [List.mem_singleton.mp z] at this
        exact absurd this (Nat.lt_irrefl _)
  · rintro i v vs s₁ hi2 hY st ⟨h₄, tk₄, m, rfl, n₄, e₄, k₄⟩ hpl
    have hY' : its.toArray[i]? = some v := hY
    rw [List.getElem?_toArray] at hY'
    obtain ⟨a, ha, t, rfl⟩ : ∃ a, (Txt.split R (oneS 32))[i]? = some a ∧ ∃ t, v = .str a t := by
      obtain ⟨a, h1, h2⟩ := paired_getR rv hY'
      rw [List.getElem?_map] at h1
      cases e : (Txt.split R (oneS 32))[i]? with
      | none => rw [e] at h1; cases h1
      | some z =>
        rw [e] at h1
        cases h1
        exact ⟨z, rfl, h2⟩
    have hal : a.length ≤ 8000001 := Nat.le_trans (split_len (List.mem_of_getElem? ha)) hlen
    refine wpAny_assign_Name (wpAny_storeName_local kinds n₄ (fun h₅ n₅ s₅ => ?_) hp')
    refine wpAny_tests_one (isTrue_plain (wpAny_Name (wpAny_loadName_local hkind kinds n₅ (v := .str a t) (by simp) ?_) hw))
    refine PySem.P.truthy_str (by omega) ?_
    have keep5 : ∀ b o, b ≠ C → h₄.get? b = some o → h₅.get? b = some o := fun b o hb e => (s₅.2 b hb).trans e
    have st5 : ∀ h6 : Heap, h6 = h₅ → (h6.IsListIter s2.heap.objs.size p (i + 1) ∧ h6.IsList p its.toArray) := fun h6 e6 => by
      rw [e6]
      obtain ⟨⟨o1, a1, a2, a3⟩, l1⟩ := st
      exact ⟨⟨o1, keep5 _ _ itC a1, a2, a3⟩, l1.at fun o e => keep5 _ o (oldC p _ hp) e⟩
    have pl5 : ∀ ys, h₄.PlainList D' ys → h₅.PlainList D' ys := fun ys q => q.at fun o e => keep5 _ o hDC e
    have up5 : ∀ b o, s2.heap.get? b = some o → h₅.get? b = some o := fun b o e => keep5 b o (oldC b o e) (k₄ b o e)
    have tk : (Txt.split R (oneS 32)).take (i + 1) = (Txt.split R (oneS 32)).take i ++ [a] := take_more ha
    cases hf : full a with
    | true =>
      have e0 : ((a.length : Int) != 0) = true := by
        unfold full at hf
        simp at hf
        simp
        exact hf
      rw [e0, if_pos rfl]
      refine wpAny_Name (wpAny_loadName_local hkind kinds n₅ (v := .str a t) (by simp) ?_) hw
      refine ⟨⟨h₅, _, _, rfl, n₅, ?_, up5⟩, st5 _ rfl, pl5 _ hpl⟩
      rw [tk, List.filter_append, List.map_append]
      refine e₄.append ?_
      rw [List.filter_cons, hf]
      exact .cons ⟨t, rfl⟩ .nil
    | false =>
      have e0 : ((a.length : Int) != 0) = false := by
        unfold full at hf
        simp at hf
        simp
        exact hf
      rw [e0, if_neg Bool.false_ne_true]
      refine ⟨⟨h₅, _, _, rfl, n₅, ?_, up5⟩, st5 _ rfl, pl5 _ hpl⟩
      rw [tk, List.filter_append, List.map_append]
      have e1 : [a].filter full = [] := by
        rw [List.filter_cons, hf]
        rfl
      rw [e1]
      show Vals (_ ++ []) _
      rw [List.append_nil]
      exact e₄
  · rintro vs s₁ ⟨h₄, tk₄, m, rfl, n₄, e₄, k₄⟩ hpl
    have lt : (Txt.split R (oneS 32)).take its.toArray.size = Txt.split R (oneS 32) := by
      have := rv.length
      rw [List.length_map] at this
      exact List.take_of_length_le (by rw [List.size_toArray, this]; exact Nat.le_refl _)
    rw [lt] at e₄
    have hcut : cutAll y = (Txt.split R (oneS 32)).filter full := by unfold cutAll; rw [hR]
    refine ⟨m, n₄, fun h' hs' => ?_⟩
    have plD : h'.PlainList D' vs.toArray := hpl.extBut hs'.extBut hDC
    have fr : upd H1 p (.lst ((Txt.split R (oneS 32)).map V.str)) D' = none := I2.hok.fresh (Nat.le_trans (Nat.le_succ _) nD1)
    refine ⟨.ref D', σ, upd (upd H1 p (.lst ((Txt.split R (oneS 32)).map V.str))) D' (.lst ((cutAll y).map V.str)), I2.laid (t' := tk₄) (fun b u e => hs'.extBut b u (oldC b u e) (k₄ b u e)) (Nat.le_trans (Nat.le_succ _) nD1) ?_, rfl, k p D' _ np fr⟩
    obtain ⟨nn, hD⟩ := plD
    refine ⟨?_, vs, nn, by rw [hcut]; exact e₄, hD⟩
    rw [hcut, List.length_map]
    rw [List.length_map] at hsz
    exact Nat.le_trans (List.length_filter_le _ _) hsz
end
end Kg
namespace Kg
open PySem PySem.Spec PyProof.Rows L2
abbrev sBare : Stmt := top 18
theorem FunD.okT {P : Program} {w : World} {K : PySem.W.Frag} {mg : Str → Option Value} {base : Heap} {CX : CXT} {x qual : Str} {params : Arguments} {body : List Stmt} {scope : Scope} {dvs : List V} {kws : List (Str × V)} {f : Addr} {fd : FuncData} {N ps : List Str} {k : Nat} {sp : Sp} (F : FunD K x qual params body scope dvs kws f fd) (S : FnScope N ps scope)
    (hnc : ∀ y ∈ scope.names, y.2 ≠ .cell) (hps : 1 ≤ ps.length) (len : ∀ vs H Q E, sp vs H Q E → vs.length = ps.length)
    (hbody : ∀ (cdv : Value) (A : Around) (outer : List Env) (s : Shared) (H : Hp) (vs : List V) (Q : VK) (E : XK), Room k (A.deeper (envOfC qual scope s.heap.objs.size f cdv)) → sp vs H Q E →
      ∃ t, PSsT (cxOf CX P w K mg base N qual scope f cdv A outer s H E) body t ∧ t { nx := fun _ H' => Q .non H', rt := Q } (start N vs) H) : FnOk P w K mg base CX (k + 1) f fd ps sp := by
  obtain ⟨oc, od, dV, kV, doc, pm, an, cdv, ct, osl, rfl, lk, hcd, _, _⟩ := F.ex
  exact fn_ofT lk hcd S hnc hps len fun A outer s H vs Q E hr hsp => hbody cdv A outer s H vs Q E hr hsp
theorem PSsT.nox {X : Cx} {st : List Stmt} {t : TS} (h : PSsT X.nox st t) : PSsT X st t := fun pins s σ H D h0 I hw =>
  wpAny_mono (h pins s σ H D h0 (I.wish _) hw) (fun _ _ q => q.unwish) fun _ _ z => False.elim z
/-- the text without its notes, if any stand in it -/
def hasNote (x : Str) : Bool := decide (59 ∈ x.cps.toList)
def code0 (x : Str) : Str := if hasNote x = true then Txt.join ("\n" : Str) ((linesOf x).map codeOfLine) else x
def SEPS : Str := "()'"
def bareOf (x : Str) : List Str := cutAll (padAll (code0 x) SEPS.cps.toList)
def spBare : Sp := fun vs H Q _ => ∃ x : Str, vs = [.str x] ∧ Fits x ∧ (code0 x).length ≤ 1000000 ∧ ((linesOf x).map codeOfLine |>.map (·.length)).sum + (linesOf x).length ≤ 16777216 ∧ (∀ n, (padAll (code0 x) (SEPS.cps.toList.take n)).length ≤ 4000000) ∧ ∀ H' p, Same H H' → H' p = some (.lst ((bareOf x).map V.str)) → Q (.ref p) H'
theorem scBare : FnScope ["text", "code", "line", "sign", "word"] ["text"] (defScope sBare) := ⟨rfl, rfl, rfl, by decide +kernel, rfl, by decide +kernel, by decide +kernel⟩
section
variable {P : Program} {w : World} {K : PySem.W.Frag} {mg : Str → Option Value} {base : Heap} {f : Addr} {fd : FuncData}
theorem ok_bare (F : FnP K "bare_words" "bare_words" sBare f fd) : FnOk P w K mg base CX0 1 f fd ["text"] spBare := by
  refine FunD.okT F scBare (by decide +kernel) (by decide) (fun vs H Q E h => ?_) (fun cdv A outer s H vs Q E hr h => ?_)
  · obtain ⟨x, rfl, _⟩ := h
    rfl
  · obtain ⟨x, rfl, fx, hc0, hsum, hpad, k⟩ := h
    refine ⟨_, PSsT.nox (psst_cons (PST.of (ps_set (i := 1) scBare.nd rfl (Or.inl rfl) (pv 0)))
      (psst_cons (PST.of (ps_if (pt_cmpR op_inS pe_str (pv 0) (by rfl))
        (pss_one (ps_set (i := 1) scBare.nd rfl (Or.inl rfl) (pe_join pe_str (pe_lc (own := [("line", 2)]) (g := gName 2) (tt := tYes) rfl scBare.nd (pi_list (pe_split (pv 0) pe_str)) (blkOk_by (N := ["text", "code", "line", "sign", "word"]) (sc := defScope sBare) (by decide +kernel)) (fun _ _ _ _ _ => pg_name (i := 2) scBare.nd rfl (Or.inl rfl)) (fun _ _ _ _ _ => pts_nil)
          (fun _ _ _ _ _ => pe_ix (ix_tup : IxR _ (rIxT K)) (pe_partition (pv 2) pe_str) pe_int (fun _ _ => rfl)))))) pss_nil))
      (psst_cons (PST.of (ps_padFor (i := 1) (j := 3) (lit := SEPS) PassesOwn.never rfl scBare.nd rfl rfl (by decide) rfl rfl (Or.inr rfl) (Or.inr rfl) (by decide +kernel) (Or.inl rfl) (by decide) (by decide) (by rfl) (by rfl) (by rfl) (by intro _; rfl) (by rfl)))
      (CwR.psst_one (pst_cut (i := 1) (cl := []) rfl (Or.inl rfl) (by decide) (by decide) (by decide) rfl (by rfl) (by decide +kernel) rfl (by decide +kernel) (by decide +kernel) (by rfl) (by rfl) (by rfl) (by rfl) (by rfl) (by rfl) (by intro _; rfl)))))), ?_⟩
    have tail : ∀ (H1 : Hp) (v2 : Option V), Same H H1 → tSeq (fun D σ H => ∃ y, σ[1]? = some (some (.str y)) ∧ (∀ n, (padAll y (SEPS.cps.toList.take n)).length ≤ 4000000) ∧ ∀ σ' : L2.St, σ'.length = σ.length → σ'[1]? = some (some (.str (padAll y SEPS.cps.toList))) → (∀ q, q ≠ 1 → q ≠ 3 → σ'[q]? = σ[q]?) → D.nx σ' H)
        (tSeq (fun D σ H => ∃ y, σ[1]? = some (some (.str y)) ∧ y.length ≤ 4000000 ∧ ∀ p q xs, H p = none → upd H p (.lst xs) q = none → D.rt (.ref q) (upd (upd H p (.lst xs)) q (.lst ((cutAll y).map V.str)))) tNext) { nx := fun _ H' => Q .non H', rt := Q } [some (.str x), some (.str (code0 x)), v2, none, none] H1 := by
      intro H1 v2 s1
      refine ⟨code0 x, rfl, hpad, fun σ' _ h1 _ => ⟨_, h1, ?_, fun p q xs hp hq => k _ q ((s1.trans (same_upd hp)).trans (same_upd hq)) upd_same⟩⟩
      have := hpad SEPS.cps.toList.length
      rw [List.take_length] at this
      exact this
    refine ⟨_, rfl, ?_⟩
    refine ⟨_, rfl, 59, x, (by show V.str _ = V.str _; congr 1), rfl, _, rfl, ?_⟩
    show if hasNote x = true then _ else _
    cases hn : hasNote x with
    | true =>
      have ec : code0 x = Txt.join ("\n" : Str) ((linesOf x).map codeOfLine) := by unfold code0; rw [if_pos hn]
      refine iteT ?_
      refine ⟨⟨_, rfl⟩, _, rfl, ⟨_, rfl⟩, x, _, rfl, rfl, (by decide +kernel), Nat.le_trans (Nat.add_le_add_right fx.len 2) (by decide), fun ls nls => ?_⟩
      refine ⟨ls, rfl, ⟨_, SqL.of upd_same⟩, fun A nA => lc_list (K := K) (a := ls) (xs := (linesOf x).map V.str) (fun i G => Same (upd H ls (.lst ((linesOf x).map V.str))) G ∧ G A = some (.lst ((((linesOf x).take i).map codeOfLine).map V.str))) ⟨same_upd nA, upd_same⟩ (fun i G _ q => SqL.of (q.1 _ _ upd_same)) ?_ ?_⟩
      · rintro i v G hi ⟨s1, hA⟩
        rw [List.getElem?_map] at hi
        cases el : (linesOf x)[i]? with
        | none => rw [el] at hi; cases hi
        | some ln =>
          rw [el] at hi
          cases hi
          have hm := List.mem_of_getElem? el
          have hil : i < (linesOf x).length := (List.getElem?_eq_some_iff.mp el).1
          refine ⟨rfl, ?_⟩
          refine yesI ?_
          refine ⟨_, rfl, ⟨_, rfl⟩, ln, _, rfl, rfl, (by decide +kernel), Nat.le_trans (fx.line ln hm).1 (by decide), fun T nT => ?_⟩
          refine ⟨T, _, 0, .str (codeOfLine ln), rfl, rfl, SqT.of upd_same, atI_nat (j := 0) rfl, ?_⟩
          have nAT : A ≠ T := ne_of_none hA nT
          refine ⟨_, by rw [upd_ne nAT]; exact hA, ?_, ?_, ?_⟩
          · rw [List.length_map, List.length_map, List.length_take]
            have := fx.many
            exact Nat.lt_of_le_of_lt (Nat.min_le_left _ _) (Nat.lt_of_le_of_lt (show i ≤ 1000000 by omega) (by decide))
          · exact fun b o e => by
              rw [upd_ne (ne_of_none e nA), upd_ne (ne_of_none (s1 _ _ e) nT)]
              exact s1 b o e
          · rw [upd_same, take_more el, List.map_append, List.map_append]
            rfl
      · rintro G ⟨s1, hA⟩
        rw [List.length_map, List.take_length] at hA
        refine ⟨_, A, (linesOf x).map codeOfLine, rfl, rfl, .inl (SqL.of hA), ?_, ?_⟩
        · have e1 : ("\n" : Str).length = 1 := by decide
          rw [e1, List.length_map]
          omega
        · rw [← ec]
          exact tail G none ((same_upd nls).trans s1)
    | false =>
      have ec : code0 x = x := by unfold code0; rw [if_neg (by rw [hn]; decide)]
      refine iteF ?_
      have := tail H none (Same.refl _)
      rw [ec] at this
      exact this
end
end Kg
namespace Kg
open PySem PySem.Spec PyProof.Rows L2
theorem jn_eq (s : Str) (ys : List Str) : Txt.join s ys = Str.join s ys := by
  unfold Txt.join
  rw [PySem.StrLaws.glued_eq_join]
theorem code0_sl (x : Str) : sl (code0 x) = joinD 10 ((splitL (sl x)).map nc) := by
  unfold code0
  by_cases h : hasNote x = true
  · rw [if_pos h, jn_eq]
    have e : ("\n" : Str) = ⟨#[10]⟩ := by decide +kernel
    rw [e, sl_joinD, List.map_map]
    congr 1
    rw [← lines_sl, List.map_map]
    refine List.map_congr_left fun y _ => ?_
    show sl (codeOfLine y) = nc (sl y)
    exact code_sl y
  · rw [if_neg h]
    have : 59 ∉ sl x := fun z => h (decide_eq_true z)
    exact (no_notes _ this).symm
theorem rep_sl (y : Str) (c : Nat) : sl (Txt.replace y (oneS c) (padS c)) = rep1 c [32, c, 32] (sl y) := by
  have h : sl (padS c) = [32, c, 32] := rfl
  have := replace_sl y c (padS c)
  rw [h] at this
  exact this
theorem seps : SEPS.cps.toList = [40, 41, 39] := by decide +kernel
theorem padAll_sl (y : Str) : sl (padAll y SEPS.cps.toList) = rep1 39 [32, 39, 32] (rep1 41 [32, 41, 32] (rep1 40 [32, 40, 32] (sl y))) := by
  rw [seps]
  show sl (Txt.replace (Txt.replace (Txt.replace y (oneS 40) (padS 40)) (oneS 41) (padS 41)) (oneS 39) (padS 39)) = _
  rw [rep_sl, rep_sl, rep_sl]
theorem cutAll_sl (y : Str) : (cutAll y).map sl = spW (rep1 10 [32] (sl y)) := by
  unfold cutAll spW
  have h1 : (Txt.split (Txt.replace y (oneS 10) (oneS 32)) (oneS 32)).map sl = spl 32 (sl (Txt.replace y (oneS 10) (oneS 32))) := split_sl _ 32
  have h2 : sl (Txt.replace y (oneS 10) (oneS 32)) = rep1 10 [32] (sl y) := replace_sl y 10 (oneS 32)
  rw [← h2, ← h1, List.filter_map]
  congr 1
  refine List.filter_congr fun z _ => ?_
  unfold full
  show (!(z.length == 0)) = !(sl z).isEmpty
  rw [← sl_len]
  cases sl z <;> rfl
theorem bare_sl (x : Str) : (bareOf x).map sl = bareL (sl x) := by
  unfold bareOf
  rw [cutAll_sl, padAll_sl, code0_sl, bare_all]
/-! sizes -/
theorem split_sum : ∀ l : List Nat, ((splitL l).map List.length).sum + (splitL l).length = l.length + 1
  | [] => rfl
  | a :: r => by
    have ih := split_sum r
    obtain ⟨p, ps, e⟩ := splitL_ne r
    rw [e] at ih
    unfold splitL
    by_cases h : a = 10
    · rw [if_pos h, e]
      simp at ih ⊢
      omega
    · rw [if_neg h, e]
      simp at ih ⊢
      omega
theorem nc_len (p : List Nat) : (nc p).length ≤ p.length := (List.takeWhile_sublist _).length_le
theorem joinD_len (d : Nat) : ∀ ps : List (List Nat), ps ≠ [] → (joinD d ps).length + 1 = (ps.map List.length).sum + ps.length
  | [], h => absurd rfl h
  | [p], _ => by simp [joinD]
  | p :: q :: r, _ => by
    have ih := joinD_len d (q :: r) (by simp)
    show (p ++ d :: joinD d (q :: r)).length + 1 = _
    simp at ih ⊢
    omega
theorem sum_nc : ∀ ps : List (List Nat), ((ps.map nc).map List.length).sum ≤ (ps.map List.length).sum
  | [] => Nat.le_refl _
  | p :: ps => by
    have := sum_nc ps
    have h := nc_len p
    simp at this ⊢
    omega
theorem code0_len (x : Str) : (code0 x).length ≤ x.length := by
  rw [← sl_len, ← sl_len x, code0_sl]
  obtain ⟨p, ps, e⟩ := splitL_ne (sl x)
  have h1 := joinD_len 10 ((splitL (sl x)).map nc) (by rw [e]; simp)
  have h2 := split_sum (sl x)
  have h3 := sum_nc (splitL (sl x))
  rw [List.length_map] at h1
  omega
theorem codes_sum (x : Str) : (((linesOf x).map codeOfLine).map (·.length)).sum + (linesOf x).length ≤ x.length + 1 := by
  have e1 : ((linesOf x).map codeOfLine).map (·.length) = (((linesOf x).map sl).map nc).map List.length := by
    rw [List.map_map, List.map_map, List.map_map]
    refine List.map_congr_left fun y _ => ?_
    show (codeOfLine y).length = (nc (sl y)).length
    rw [← sl_len, code_sl]
    rfl
  have e2 : (linesOf x).length = ((linesOf x).map sl).length := (List.length_map _).symm
  rw [e1, e2, lines_sl]
  have h2 := split_sum (sl x)
  have h3 := sum_nc (splitL (sl x))
  rw [sl_len] at h2
  omega
theorem flat_len {f : Nat → List Nat} (h : ∀ a, (f a).length ≤ 3) : ∀ l : List Nat, (l.flatMap f).length ≤ 3 * l.length
  | [] => Nat.le_refl _
  | a :: l => by
    have := flat_len h l
    have := h a
    simp at *
    omega
theorem padAll_len (y : Str) (n : Nat) : (padAll y (SEPS.cps.toList.take n)).length ≤ 3 * y.length := by
  rw [seps, ← sl_len, ← sl_len y]
  have two : rep1 41 [32, 41, 32] (rep1 40 [32, 40, 32] (sl y)) = (sl y).flatMap fun a => if a = 40 then [32, 40, 32] else if a = 41 then [32, 41, 32] else [a] := by
    generalize sl y = l
    induction l with
    | nil => rfl
    | cons a l ih =>
      have c1 : ∀ (c : Nat) (z : List Nat) (u v : List Nat), rep1 c z (u ++ v) = rep1 c z u ++ rep1 c z v := fun c z u v => by unfold rep1; rw [List.flatMap_append]
      have e1 : a :: l = [a] ++ l := rfl
      rw [e1, c1, c1, ih, List.flatMap_append]
      congr 1
      by_cases h1 : a = 40
      · subst h1; decide
      by_cases h2 : a = 41
      · subst h2; decide
      unfold rep1
      simp [h1, h2]
  match n with
  | 0 =>
    show (sl y).length ≤ _
    omega
  | 1 =>
    show (sl (Txt.replace y (oneS 40) (padS 40))).length ≤ _
    rw [rep_sl]
    exact flat_len (fun a => by split <;> simp) _
  | 2 =>
    show (sl (Txt.replace (Txt.replace y (oneS 40) (padS 40)) (oneS 41) (padS 41))).length ≤ _
    rw [rep_sl, rep_sl, two]
    exact flat_len (fun a => by split; simp; split <;> simp) _
  | n + 3 =>
    have e : List.take (n + 3) [40, 41, 39] = [40, 41, 39] := List.take_of_length_le (by simp)
    rw [e]
    show (sl (Txt.replace (Txt.replace (Txt.replace y (oneS 40) (padS 40)) (oneS 41) (padS 41)) (oneS 39) (padS 39))).length ≤ _
    rw [rep_sl, rep_sl, rep_sl, rep_pad]
    exact flat_len (fun a => by split <;> simp) _
theorem bt_len : ∀ (n : Nat) (l : List Nat), l.length ≤ n → (bt l).length ≤ l.length ∧ ∀ t ∈ bt l, t.length ≤ l.length
  | _, [], _ => ⟨Nat.le_refl _, fun t h => by rw [bt_nil] at h; cases h⟩
  | 0, c :: r, h => by simp at h
  | n + 1, c :: r, h => by
    have hr : r.length ≤ n := by simpa using h
    have hd := dw_len inW r
    have ht : (r.takeWhile inW).length ≤ r.length := (List.takeWhile_sublist _).length_le
    obtain ⟨i1, i2⟩ := bt_len n r hr
    obtain ⟨j1, j2⟩ := bt_len n _ (Nat.le_trans hd hr)
    rw [bt_cons]
    split
    · exact ⟨Nat.le_succ_of_le i1, fun t ht => Nat.le_succ_of_le (i2 t ht)⟩
    · split
      · refine ⟨Nat.succ_le_succ i1, fun t ht => ?_⟩
        rcases List.mem_cons.mp ht with e | ht
        · rw [e]; simp
        · exact Nat.le_succ_of_le (i2 t ht)
      · refine ⟨Nat.succ_le_succ (Nat.le_trans j1 hd), fun t ht2 => ?_⟩
        rcases List.mem_cons.mp ht2 with e | ht2
        · rw [e]
          exact Nat.succ_le_succ ht
        · exact Nat.le_succ_of_le (Nat.le_trans (j2 t ht2) hd)
theorem bareL_len (l : List Nat) : (bareL l).length ≤ l.length ∧ ∀ t ∈ bareL l, t.length ≤ l.length := by
  have h2 := split_sum l
  have go : ∀ ps : List (List Nat), (ps.flatMap fun p => bt (nc p)).length ≤ (ps.map List.length).sum ∧ ∀ t ∈ (ps.flatMap fun p => bt (nc p)), t.length ≤ (ps.map List.length).sum := by
    intro ps
    induction ps with
    | nil => exact ⟨Nat.le_refl _, fun t h => by cases h⟩
    | cons p ps ih =>
      obtain ⟨b1, b2⟩ := bt_len _ (nc p) (Nat.le_refl _)
      have h := nc_len p
      obtain ⟨i1, i2⟩ := ih
      rw [List.flatMap_cons]
      refine ⟨?_, fun t ht => ?_⟩
      · simp at i1 ⊢
        omega
      · simp only [List.map_cons, List.sum_cons]
        rcases List.mem_append.mp ht with ht | ht
        · have := b2 t ht
          omega
        · have := i2 t ht
          omega
  obtain ⟨p, ps, e⟩ := splitL_ne l
  have hl : 1 ≤ (splitL l).length := by rw [e]; simp
  obtain ⟨g1, g2⟩ := go (splitL l)
  unfold bareL
  exact ⟨by omega, fun t ht => by have := g2 t ht; omega⟩
/-! what can be read -/
theorem sub_all {w s : Str} (h : subset w s = true) {p : Nat → Bool} (hp : ∀ c ∈ s.cps.toList, p c = true) : ∀ c ∈ sl w, p c = true := fun c hc => by
  have := List.all_eq_true.mp h c hc
  exact hp c (of_decide_eq_true this)
theorem only_sub {w s : Str} (h : hasOnly w s = true) : subset w s = true := by
  unfold hasOnly at h
  simp only [Bool.and_eq_true] at h
  exact h.2
theorem int_signs {x : Str} (h : isInt x = true) : ∀ c ∈ sl x, isS c = true := by
  obtain ⟨_, h2⟩ := isInt_figures h
  have hd : ∀ c, 48 ≤ c → c ≤ 57 → isS c = true := fun c h1 h2 => by
    have all : ∀ k, k < 10 → isS (48 + k) = true := by decide +kernel
    have e : 48 + (c - 48) = c := by omega
    rw [← e]
    exact all _ (by omega)
  have h3 : ∀ c ∈ sl (Txt.removeprefix x ("-" : Str)), isS c = true := fun c hc => by
    have := h2 c hc
    exact hd c this.1 this.2
  rcases minus_cases x with ⟨_, e⟩ | ⟨_, e⟩
  · intro c hc
    have hc' : c ∈ x.cps.toList := hc
    rw [e] at hc'
    rcases List.mem_cons.mp hc' with z | z
    · rw [z]
      decide +kernel
    · exact h3 c z
  · intro c hc
    have hc' : c ∈ x.cps.toList := hc
    rw [← e] at hc'
    exact h3 c hc'
theorem name_signs {x : Str} (h : isName x = true) : ∀ c ∈ sl x, isS c = true := by
  unfold isName at h
  simp only [Bool.and_eq_true] at h
  exact sub_all (only_sub h.2.1) fun c hc => decide_eq_true hc
theorem take_ok {S S2 : RS} {x : Str} (h : takeS S x = some S2) : (∀ c ∈ sl x, isS c = true) ∨ ∃ c, sl x = [c] ∧ brk c = true := by
  unfold takeS at h
  split at h
  · rename_i e
    exact .inr ⟨40, by rw [e]; decide +kernel, rfl⟩
  split at h
  · rename_i e
    exact .inr ⟨39, by rw [e]; decide +kernel, rfl⟩
  split at h
  · rename_i e
    refine .inl fun c hc => ?_
    rw [e] at hc
    have : sl "." = [46] := by decide +kernel
    rw [this] at hc
    rw [List.mem_singleton.mp hc]
    decide +kernel
  split at h
  · rename_i e
    exact .inr ⟨41, by rw [e]; decide +kernel, rfl⟩
  unfold singleS at h
  split at h
  · cases h
  split at h
  · rename_i e
    exact .inl (int_signs e)
  split at h
  · rename_i e
    exact .inl (name_signs e)
  · cases h
theorem runV_ok : ∀ {ws : List (Str × V)} {S S2 : RS}, runV S ws = .inl S2 → ∀ p ∈ ws, (∀ c ∈ sl p.1, isS c = true) ∨ ∃ c, sl p.1 = [c] ∧ brk c = true
  | [], _, _, _, p, hp => by cases hp
  | q :: ws, S, S2, h, p, hp => by
    unfold runV at h
    cases e : takeS S q.1 with
    | none => rw [e] at h; cases h
    | some S3 =>
      rw [e] at h
      rcases List.mem_cons.mp hp with z | hp
      · rw [z]
        exact take_ok e
      · exact runV_ok h p hp
theorem runW_ok : ∀ {ws : List (Str × V)} {S S2 : RS}, runW S ws = .inl S2 → ∀ p ∈ ws, (∀ c ∈ sl p.1, isS c = true) ∨ ∃ c, sl p.1 = [c] ∧ brk c = true
  | [], _, _, _, p, hp => by cases hp
  | q :: ws, S, S2, h, p, hp => by
    unfold runW at h
    split at h
    · cases h
    cases e : takeS S q.1 with
    | none => rw [e] at h; cases h
    | some S3 =>
      rw [e] at h
      rcases List.mem_cons.mp hp with z | hp
      · rw [z]
        exact take_ok e
      · exact runW_ok h p hp
theorem flat_eq {α β : Type} {f g : α → List β} {P : β → Prop} : ∀ {l : List α}, (∀ a ∈ l, (∀ b ∈ f a, P b) → f a = g a) → (∀ b ∈ l.flatMap f, P b) → l.flatMap f = l.flatMap g
  | [], _, _ => rfl
  | a :: l, h, k => by
    rw [List.flatMap_cons] at k ⊢
    rw [List.flatMap_cons, h a List.mem_cons_self fun b hb => k b (List.mem_append_left _ hb), flat_eq (fun a ha => h a (List.mem_cons_of_mem _ ha)) fun b hb => k b (List.mem_append_right _ hb)]
/-- if the words without places can be read, they are the words -/
theorem bare_words {x : Str} (h : ∀ w ∈ bareOf x, (∀ c ∈ sl w, isS c = true) ∨ ∃ c, sl w = [c] ∧ brk c = true) : (textWords x).map (·.1) = bareOf x := by
  have h1 : (textWords x).map (fun p => sl p.1) = bareL (sl x) := by
    rw [words_W]
    unfold WL bareL
    refine (flat_eq (P := fun t => (∀ c ∈ t, isS c = true) ∨ ∃ c, t = [c] ∧ brk c = true) (fun p _ k => bt_eq _ _ (Nat.le_refl _) k) fun t ht => ?_).symm
    have hb : t ∈ bareL (sl x) := ht
    rw [← bare_sl] at hb
    obtain ⟨w, hw, rfl⟩ := List.mem_map.mp hb
    exact h w hw
  rw [← bare_sl] at h1
  have e : (textWords x).map (fun p => sl p.1) = ((textWords x).map (·.1)).map sl := by rw [List.map_map]; rfl
  rw [e] at h1
  have inj : ∀ (l m : List Str), l.map sl = m.map sl → l = m := by
    intro l
    induction l with
    | nil => intro m hm; exact (List.map_eq_nil_iff.mp hm.symm).symm
    | cons a l ih =>
      intro m hm
      cases m with
      | nil => cases hm
      | cons b m =>
        have h3 := List.cons.inj hm
        rw [sl_inj h3.1, ih m h3.2]
  exact inj _ _ h1
/-- a word without place that is all of signs stands among the words -/
theorem bare_in {x w : Str} (hw : w ∈ bareOf x) (h : ∀ c ∈ sl w, isS c = true) : ∃ p ∈ textWords x, p.1 = w := by
  have hb : sl w ∈ bareL (sl x) := by rw [← bare_sl]; exact List.mem_map.mpr ⟨w, hw, rfl⟩
  unfold bareL at hb
  obtain ⟨p, hp, hb⟩ := List.mem_flatMap.mp hb
  have h2 : sl w ∈ WL (sl x) := List.mem_flatMap.mpr ⟨p, hp, bt_mem _ _ (Nat.le_refl _) _ hb h⟩
  rw [← words_W] at h2
  obtain ⟨q, hq, e⟩ := List.mem_map.mp h2
  exact ⟨q, hq, sl_inj e⟩
/-- the words without places, none telling its place -/
def bareV (x : Str) : List (Str × V) := (bareOf x).map fun w => (w, .non)
theorem bare_ws {x : Str} (fx : Fits x) (wl : ∀ p ∈ textWords x, p.1.length ≤ 10000) : WsOk (bareV x) := by
  have hl := bareL_len (sl x)
  rw [← bare_sl, List.length_map, sl_len] at hl
  refine ⟨?_, fun p hp => ?_⟩
  · unfold bareV
    rw [List.length_map]
    exact Nat.le_trans hl.1 fx.len
  · obtain ⟨w, hw, rfl⟩ := List.mem_map.mp hp
    refine ⟨?_, fun hi => ?_⟩
    · have := hl.2 (sl w) (List.mem_map.mpr ⟨w, hw, rfl⟩)
      rw [sl_len] at this
      exact Nat.le_trans this fx.len
    · obtain ⟨q, hq, e⟩ := bare_in hw (int_signs hi)
      have := wl q hq
      rw [e] at this
      exact this
end Kg
namespace Kg
open PySem PySem.Spec PyProof.Rows L2
theorem FnOk.imp {P : Program} {w : World} {K : PySem.W.Frag} {mg : Str → Option Value} {base : Heap} {CX : CXT} {k : Nat} {f : Addr} {fd : FuncData} {ps : List Str} {sp sp' : Sp} (F : FnOk P w K mg base CX k f fd ps sp) (i : ∀ vs H Q E, sp' vs H Q E → sp vs H Q E) : FnOk P w K mg base CX k f fd ps sp' :=
  ⟨fun vs H Q E h => F.len vs H Q E (i _ _ _ _ h), fun A outer s H args us vs Q E h1 h2 h3 h4 h5 => F.run A outer s H args us vs Q E h1 h2 h3 h4 (i _ _ _ _ h5)⟩
/-- what is made of words, with all that tells their places -/
def spLk (CB : Addr) (run : List (Str × V) → RS ⊕ V) (fine : RS → Prop) (ans : RS → Hp → V → Prop) : Sp := fun vs H Q E => ∃ (l : Addr) (us : List V) (ws : List (Str × V)) (en : V), vs = [.ref l, en] ∧ H l = some (.lst us) ∧ Paired (PW H) us ws ∧ WsOk ws ∧
  (∀ S, run ws = .inl S → fine S → ∀ H' u, Same H H' → ans S H' u → Q u H') ∧ (∀ S, run ws = .inl S → ¬ fine S → ∀ H', Same H H' → ErrW CB H' en E) ∧ (∀ pl, run ws = .inr pl → ∀ H', Same H H' → ErrW CB H' pl E)
def fineA (S : RS) : Prop := S.stack = []
def fineL (S : RS) : Prop := S.data ≠ []
def ansA (CP : Addr) (S : RS) (H : Hp) (u : V) : Prop := ∃ l us, u = .ref l ∧ H l = some (.lst us) ∧ Paired (DR CP H) us S.data
def ansL (CP : Addr) (S : RS) (H : Hp) (u : V) : Prop := ∃ d r, S.data = d :: r ∧ DR CP H u d
theorem all_lk {CB CP : Addr} : ∀ vs H Q E, spLk CB (runV S0) fineA (ansA CP) vs H Q E → spAll CB CP vs H Q E := by
  rintro vs H Q E ⟨l, us, ws, en, h1, h2, h3, h4, k1, k2, k3⟩
  exact ⟨l, us, ws, en, h1, h2, h3, h4, fun S r f H' l' us' s1 h5 h6 => k1 S r f H' _ s1 ⟨l', us', rfl, h5, h6⟩, fun S r f => k2 S r f, k3⟩
theorem lone_lk {CB CP : Addr} : ∀ vs H Q E, spLk CB (runW S0) fineL (ansL CP) vs H Q E → spLone CB CP vs H Q E := by
  rintro vs H Q E ⟨l, us, ws, en, h1, h2, h3, h4, k1, k2, k3⟩
  exact ⟨l, us, ws, en, h1, h2, h3, h4, fun S d r q e H' u s1 h5 => k1 S q (by unfold fineL; rw [e]; simp) H' u s1 ⟨d, r, e, h5⟩, fun S r f => k2 S r (fun z => z f), k3⟩
/-- words read up to one datum: the end; or the place of the first that can't stand -/
def runD (S : RS) : List (Str × Nat × Nat) → RS ⊕ (Nat × Nat)
  | [] => .inl S
  | p :: r => if S.data ≠ [] then .inr p.2 else match takeS S p.1 with
    | some S2 => runD S2 r
    | none => .inr p.2
structure RunsOk (run : List (Str × V) → RS ⊕ V) (runP : List (Str × Nat × Nat) → RS ⊕ (Nat × Nat)) : Prop where
  words : ∀ ws S, run ws = .inl S → ∀ p ∈ ws, (∀ c ∈ sl p.1, isS c = true) ∨ ∃ c, sl p.1 = [c] ∧ brk c = true
  inl : ∀ ws wp S, ws.map (·.1) = wp.map (·.1) → run ws = .inl S → runP wp = .inl S
  inr : ∀ (R : Str × V → Str × Nat × Nat → Prop) ws wp v, (∀ a p, R a p → a.1 = p.1) → Paired R ws wp → run ws = .inr v → ∃ a p, R a p ∧ v = a.2 ∧ runP wp = .inr p.2
theorem runsA : RunsOk (runV S0) (runE S0) := by
  refine ⟨fun ws S h => runV_ok h, ?_, ?_⟩
  · intro ws
    generalize S0 = T
    induction ws generalizing T with
    | nil =>
      intro wp S e h
      cases wp with
      | nil => exact congrArg Sum.inl (Sum.inl.inj h)
      | cons p r => cases e
    | cons q ws ih =>
      intro wp S e h
      cases wp with
      | nil => cases e
      | cons p r =>
        obtain ⟨e1, e2⟩ := List.cons.inj e
        have e1' : q.1 = p.1 := e1
        unfold runV at h
        unfold runE
        rw [← e1']
        cases z : takeS T q.1 with
        | none => rw [z] at h; cases h
        | some S3 =>
          rw [z] at h
          exact ih S3 r S e2 h
  · intro R ws
    generalize S0 = T
    induction ws generalizing T with
    | nil => intro wp v _ hp h; cases h
    | cons q ws ih =>
      intro wp v hR hp h
      cases hp with
      | @cons _ p _ r hq hr =>
        have e1 := hR _ _ hq
        unfold runV at h
        unfold runE
        rw [← e1]
        cases z : takeS T q.1 with
        | none =>
          rw [z] at h
          cases h
          exact ⟨q, p, hq, rfl, rfl⟩
        | some S3 =>
          rw [z] at h
          exact ih S3 r v hR hr h
theorem runsL : RunsOk (runW S0) (runD S0) := by
  refine ⟨fun ws S h => runW_ok h, ?_, ?_⟩
  · intro ws
    generalize S0 = T
    induction ws generalizing T with
    | nil =>
      intro wp S e h
      cases wp with
      | nil => exact congrArg Sum.inl (Sum.inl.inj h)
      | cons p r => cases e
    | cons q ws ih =>
      intro wp S e h
      cases wp with
      | nil => cases e
      | cons p r =>
        obtain ⟨e1, e2⟩ := List.cons.inj e
        have e1' : q.1 = p.1 := e1
        unfold runW at h
        unfold runD
        rw [← e1']
        by_cases hd : T.data ≠ []
        · rw [if_pos hd] at h; cases h
        rw [if_neg hd] at h ⊢
        cases z : takeS T q.1 with
        | none => rw [z] at h; cases h
        | some S3 =>
          rw [z] at h
          exact ih S3 r S e2 h
  · intro R ws
    generalize S0 = T
    induction ws generalizing T with
    | nil => intro wp v _ hp h; cases h
    | cons q ws ih =>
      intro wp v hR hp h
      cases hp with
      | @cons _ p _ r hq hr =>
        have e1 := hR _ _ hq
        unfold runW at h
        unfold runD
        rw [← e1]
        by_cases hd : T.data ≠ []
        · rw [if_pos hd] at h ⊢
          cases h
          exact ⟨q, p, hq, rfl, rfl⟩
        rw [if_neg hd] at h ⊢
        cases z : takeS T q.1 with
        | none =>
          rw [z] at h
          cases h
          exact ⟨q, p, hq, rfl, rfl⟩
        | some S3 =>
          rw [z] at h
          exact ih S3 r v hR hr h
/-- what is made of any text, or the error with its place -/
def spBy (K : PySem.W.Frag) (CB : Addr) (runP : List (Str × Nat × Nat) → RS ⊕ (Nat × Nat)) (fine : RS → Prop) (ans : RS → Hp → V → Prop) (v : V) (H : Hp) (Q : VK) (E : XK) : Prop :=
  (∃ x, v = .str x ∧ Fits x ∧ (∀ p ∈ textWords x, p.1.length ≤ 10000) ∧ (∀ S, runP (textWords x) = .inl S → fine S → ∀ H' u, Same H H' → ans S H' u → Q u H') ∧
    (∀ S, runP (textWords x) = .inl S → ¬ fine S → ∀ H1 T, Same H H1 → EndR H1 T x → ErrW CB H1 (.ref T) E) ∧
    (∀ pl, runP (textWords x) = .inr pl → ∀ H1 T, Same H H1 → H1 T = some (.tup [.int (pl.1 : Nat), .int (pl.2 : Nat)]) → ErrW CB H1 (.ref T) E)) ∨
  (NotStr K H v ∧ ∀ H1 T, Same H H1 → H1 T = some (.tup [.int 0, .int 0]) → ErrW CB H1 (.ref T) E)
def spReadBy (K : PySem.W.Frag) (CB fL : Addr) (runP : List (Str × Nat × Nat) → RS ⊕ (Nat × Nat)) (fine : RS → Prop) (ans : RS → Hp → V → Prop) : Sp := fun vs H Q E => ∃ v : V, vs = [.ref fL, v] ∧ spBy K CB runP fine ans v H Q E
theorem scReadBy : FnScope ["look", "text", "word", "words", "end"] ["look", "text"] (defScope sReadBy) := ⟨rfl, rfl, rfl, by decide +kernel, rfl, by decide +kernel, by decide +kernel⟩
theorem paired_split2 {H : Hp} : ∀ {us : List V} {wp : List (Str × Nat × Nat)}, Paired (PR H) us wp → ∃ ws : List (Str × V), Paired (PW H) us ws ∧ Paired (fun a p => a.1 = p.1 ∧ ∃ T, a.2 = .ref T ∧ H T = some (.tup [.int (p.2.1 : Nat), .int (p.2.2 : Nat)])) ws wp
  | _, _, .nil => ⟨[], .nil, .nil⟩
  | _, _, .cons r t => by
    obtain ⟨ws, h1, h2⟩ := paired_split2 t
    obtain ⟨T, T2, e1, e2, e3⟩ := r
    exact ⟨(_, .ref T2) :: ws, .cons ⟨T, e1, e2⟩ h1, .cons ⟨rfl, T2, rfl, e3⟩ h2⟩
theorem paired_map {α β γ : Type} {R : α → β → Prop} {f : α → γ} {g : β → γ} (h : ∀ a b, R a b → f a = g b) : ∀ {l : List α} {m : List β}, Paired R l m → l.map f = m.map g
  | _, _, .nil => rfl
  | _, _, .cons r t => by rw [List.map_cons, List.map_cons, h _ _ r, paired_map h t]
end Kg
namespace Kg
open PySem PySem.Spec PyProof.Rows L2
section
variable {P : Program} {w : World} {K : PySem.W.Frag} {mg : Str → Option Value} {base : Heap} {f CB fE fB fWo fL fWe fK fH fI fN : Addr} {fd fdE fdB fdWo fdL fdWe fdK : FuncData}
theorem ok_by {run : List (Str × V) → RS ⊕ V} {runP : List (Str × Nat × Nat) → RS ⊕ (Nat × Nat)} {fine : RS → Prop} {ans : RS → Hp → V → Prop} (RO : RunsOk run runP) (F : FnP K "read_by" "read_by" sReadBy f fd) (T : ET K mg CB fE) (eX : PySem.W.exmOne K (.ref CB) (.ref CB) = some true) (FE : FnP K "__init__" "KeptError.__init__" sEInit fE fdE)
    (FB : FnP K "bare_words" "bare_words" sBare fB fdB) (gB : mg "bare_words" = some (.ref fB))
    (FWo : FnP K "words_in" "words_in" sWordsIn fWo fdWo) (FL : FnP K "line_words" "line_words" sLineWords fL fdL) (FWe : FnP K "word_end" "word_end" sWordEnd fWe fdWe) (W : WT K mg fH fI fN) (gWo : mg "words_in" = some (.ref fWo)) (gL : mg "line_words" = some (.ref fL)) (gWe : mg "word_end" = some (.ref fWe))
    (GK : FnOk P w K mg base (L2.CX P w) 7 fK fdK ["words", "end"] (spLk CB run fine ans)) (bK : Binds K fdK ["words", "end"] []) (kK : PySem.W.keepIn K (.ref fK) = true) :
    FnOk P w K mg base (L2.CX P w) 8 f fd ["look", "text"] (spReadBy K CB fK runP fine ans) := by
  have GE : FnOk P w K mg base CX0 1 fE fdE ["self", "value"] (spEInit CB) := ok_einit FE T
  obtain ⟨t2, g2⟩ := W.signs
  have GW : FnOk P w K mg base CX0 3 fWo fdWo ["text"] spWords := ok_words FWo FL FWe gL gWe W.len W.enum g2
  have GB : FnOk P w K mg base CX0 1 fB fdB ["text"] spBare := ok_bare FB
  have bE : Binds K fdE ["self", "value"] [] := FE.bindsN fun _ _ _ _ _ _ us hl => match us, hl with | [_, _], _ => rfl
  have bW : Binds K fdWo ["text"] [] := FWo.bindsN fun _ _ _ _ _ _ us hl => match us, hl with | [_], _ => rfl
  have bB : Binds K fdB ["text"] [] := FB.bindsN fun _ _ _ _ _ _ us hl => match us, hl with | [_], _ => rfl
  refine F.ok scReadBy (fun vs H Q E h => ?_) (fun cdv A outer s H vs Q E hr h => ?_)
  · obtain ⟨v, rfl, _⟩ := h
    rfl
  · obtain ⟨v, rfl, h⟩ := h
    have hr3 : Room 3 _ := hr.mono (by decide)
    have hr2 : Room 2 _ := hr.mono (by decide)
    have hr1 : Room 1 _ := hr.mono (by decide)
    refine ⟨_, pss_cons (ps_if (pt_not (pt_val (pe_callB call_isi (by rfl) T.isi (by decide +kernel) (pa_cons (pv 1) (pa_cons (pe_bltn (v := .ty "str") rfl T.str (by decide +kernel) rfl) pa_nil)))))
        (pss_one (ps_raise rfl (takes_of rfl rfl rfl rfl) (pmk_oex T.x T.iC T.tI GE hr2 bE .nil pass0 rfl T.gB (pa_cons (pe_tup (pa_cons pe_int (pa_cons pe_int pa_nil))) pa_nil)))) pss_nil)
      (pss_cons (ps_try_only (c := .ref CB) (ts := fun _ _ _ => tNext) (tb := fun W => tRet (tCallLS 0 fK (spLk CB run fine ans) (WE W) (tCons (tLc (iList K (tCall spBare [] (fun _ _ _ => False) (tCons (tVar 1) tNil))) (gName 2) tYes (tTup (tCons (tVar 2) (tCons (tC .non) tNil))) [2]) (tCons (tC .non) tNil)))) rfl rfl ⟨rfl, by decide, .inl T.gB⟩ (takes_of rfl rfl rfl rfl)
        (fun W pn xe tk _ => pss_one (ps_ret (pe_callLS (i := 0) (E := WE W) GK hr rfl (Or.inl rfl) kK bK (fun σ => passAt tk σ)
          (pa_cons (pe_lc (own := [("word", 2)]) (g := gName 2) (tt := tYes) rfl scReadBy.nd (pi_list (pe_call (E := fun _ _ _ => False) GB hr1 rfl gB FB.kp bB .nil pass0 (pa_cons (pv 1) pa_nil))) (blkOk_by (N := ["look", "text", "word", "words", "end"]) (sc := defScope sReadBy) (by decide +kernel)) (fun _ _ _ _ _ => pg_name (i := 2) scReadBy.nd rfl (Or.inl rfl)) (fun _ _ _ _ _ => pts_nil)
            (fun _ _ _ _ _ => pe_tup (pa_cons (pv 2) (pa_cons pe_non pa_nil)))) (pa_cons pe_non pa_nil)))))
        (fun a oe cls d pn hz hf => pss_one ps_pass))
      (pss_cons (ps_asg (pe_call GW hr3 rfl gWo FWo.kp bW .nil pass0 (pa_cons (pv 1) pa_nil)) (pg_tup rfl (pgs_cons (pg_name (i := 3) scReadBy.nd rfl (Or.inl rfl)) (pgs_cons (pg_name (i := 4) scReadBy.nd rfl (Or.inl rfl)) pgs_nil))))
      (pss_one (ps_ret (pe_callL (i := 0) (E := E) GK hr rfl (Or.inl rfl) kK bK .nil (passes_call (takes_of rfl rfl rfl rfl) (fun _ _ _ _ h => h)) (pa_cons (pv 3) (pa_cons (pv 4) pa_nil))))))), ?_⟩
    rcases h with ⟨x, rfl, fx, wl, k1, k2, k3⟩ | ⟨⟨t, ty, e⟩, k⟩
    · refine ⟨_, rfl, .str x, .ty "str", .type "str", .type "str", true, rfl, .ty _, .base (.str x), kit_ty (by decide +kernel), _, rfl, ?_⟩
      refine iteF ?_
      have rest : ∀ (H1 : Hp) (v2 : Option V), Same H H1 → (tSeq (tAsg (tCall spWords [] (fun _ _ _ => False) (tCons (tVar 1) tNil)) (gTup K 2 (gCons (gName 3) (gCons (gName 4) gNil)))) (tRet (tCallL 0 fK (spLk CB run fine ans) [] E (tCons (tVar 3) (tCons (tVar 4) tNil))))) { nx := fun _ H' => Q .non H', rt := Q } [some (.ref fK), some (.str x), v2, none, none] H1 := by
        intro H1 v2 s1
        refine ⟨_, rfl, x, rfl, fx, fun H2 a s2 ⟨l, T2, us, ha, hl, hp, hT⟩ => ?_⟩
        refine ⟨a, _, rfl, SqT.of ha, rfl, _, _, rfl, _, _, rfl, rfl, ?_⟩
        obtain ⟨ws, hw, hpl⟩ := paired_split2 hp
        have s12 := s1.trans s2
        have em : ws.map (·.1) = (textWords x).map (·.1) := paired_map (fun a b q => q.1) hpl
        refine ⟨rfl, _, rfl, _, rfl, l, us, ws, .ref T2, rfl, hl, hw, ⟨?_, fun p hp2 => ?_⟩, fun S r fi H3 u s3 an => k1 S (RO.inl _ _ _ em r) fi H3 u (s12.trans s3) an, fun S r fi H3 s3 => k2 S (RO.inl _ _ _ em r) fi H3 T2 (s12.trans s3) (s3 _ _ hT), fun pl r H3 s3 => ?_⟩
        · rw [Paired.length hpl]
          exact fx.word
        · obtain ⟨i, hi⟩ := List.mem_iff_getElem?.mp hp2
          obtain ⟨q, hq, e1, _⟩ := paired_get hpl hi
          have := wl q (List.mem_of_getElem? hq)
          rw [e1]
          exact ⟨Nat.le_trans this (by decide), fun _ => this⟩
        · obtain ⟨a1, p1, ⟨_, T3, e3, h3⟩, rfl, rp⟩ := RO.inr _ _ _ _ (fun _ _ q => q.1) hpl r
          rw [e3]
          exact k3 _ rp H3 T3 (s12.trans s3) (s3 _ _ h3)
      have c1 : (code0 x).length ≤ 1000000 := Nat.le_trans (code0_len x) fx.len
      have c2 : ((linesOf x).map codeOfLine |>.map (·.length)).sum + (linesOf x).length ≤ 16777216 := Nat.le_trans (codes_sum x) (Nat.le_trans (Nat.succ_le_succ fx.len) (by decide))
      have c3 : ∀ n, (padAll (code0 x) (SEPS.cps.toList.take n)).length ≤ 4000000 := fun n => Nat.le_trans (padAll_len _ n) (by omega)
      refine ⟨rfl, _, rfl, x, rfl, fx, c1, c2, c3, fun H1 p s1 hp => ⟨p, rfl, ⟨_, SqL.of hp⟩, fun A nA => lc_list (K := K) (a := p) (xs := (bareOf x).map V.str) (fun i G => Same H1 G ∧ ∃ us, G A = some (.lst us) ∧ Paired (PW G) us ((bareV x).take i)) ⟨same_upd nA, [], upd_same, .nil⟩ (fun i G _ q => SqL.of (q.1 _ _ hp)) ?_ ?_⟩⟩
      · rintro i v G hi ⟨s2, us, hA, hP⟩
        rw [List.getElem?_map] at hi
        cases el : (bareOf x)[i]? with
        | none => rw [el] at hi; cases hi
        | some ln =>
          rw [el] at hi
          cases hi
          have hil : i < (bareOf x).length := (List.getElem?_eq_some_iff.mp el).1
          have hv : (bareV x)[i]? = some (ln, .non) := by
            unfold bareV
            rw [List.getElem?_map, el]
            rfl
          refine ⟨rfl, ?_⟩
          refine yesI ?_
          refine ⟨_, rfl, (by show 2 ≤ sizeLine; decide), fun T1 nT => ?_⟩
          have nAT : A ≠ T1 := ne_of_none hA nT
          have s3 := same_upd (o := .tup [.str ln, .non]) nT
          refine ⟨us, by rw [upd_ne nAT]; exact hA, ?_, ?_, us ++ [.ref T1], upd_same, ?_⟩
          · have hm := (bare_ws fx wl).many
            have e1 : us.length = ((bareV x).take i).length := Paired.length hP
            rw [List.length_take] at e1
            have : us.length ≤ 1000000 := by omega
            exact Nat.lt_of_le_of_lt this (by decide)
          · exact fun b o e => by
              rw [upd_ne (ne_of_none e nA)]
              exact s3 _ _ (s2 b o e)
          · have kp : ∀ b xs, b ≠ A → upd G T1 (.tup [.str ln, .non]) b = some (.tup xs) → upd (upd G T1 (.tup [.str ln, .non])) A (.lst (us ++ [.ref T1])) b = some (.tup xs) := fun b xs n e => by rw [upd_ne n]; exact e
            rw [take_more hv]
            refine paired_snoc ⟨T1, rfl, kp _ _ (Ne.symm nAT) upd_same⟩ (paired_imp (fun a b q => ?_) hP)
            obtain ⟨T3, e3, h3⟩ := q
            exact ⟨T3, e3, kp _ _ (ne_of h3 hA (fun z => by cases z)) (s3 _ _ h3)⟩
      · rintro G ⟨s2, us, hA, hP⟩
        have e1 : (bareV x).take ((bareOf x).map V.str).length = bareV x := List.take_of_length_le (by unfold bareV; rw [List.length_map, List.length_map]; exact Nat.le_refl _)
        rw [e1] at hP
        have s12 := s1.trans s2
        have after : ∀ (v : V) (H3 : Hp), Same G H3 → ErrW CB H3 v (WE (wOnly K (.ref CB) (fun _ _ _ => tNext) (fun cls d _ H => E cls d H) { nx := (tSeq (tAsg (tCall spWords [] (fun _ _ _ => False) (tCons (tVar 1) tNil)) (gTup K 2 (gCons (gName 3) (gCons (gName 4) gNil)))) (tRet (tCallL 0 fK (spLk CB run fine ans) [] E (tCons (tVar 3) (tCons (tVar 4) tNil))))) { nx := fun _ H' => Q .non H', rt := Q }, rt := Q }) [some (.ref fK), some (.str x), none, none, none]) := by
          intro v H3 s3 d H4 s4 nd hd
          exact ⟨true, eX, fun _ a na => rest H4 none (s12.trans (s3.trans s4)), fun q => nomatch q⟩
        refine ⟨A, us, bareV x, .non, rfl, hA, hP, bare_ws fx wl, fun S r fi H3 u s3 an => ?_, fun S r fi H3 s3 => after _ H3 s3, fun pl r H3 s3 => after _ H3 s3⟩
        have ok := RO.words _ _ r
        have e2 : (textWords x).map (·.1) = bareOf x := bare_words fun w hw => ok (w, .non) (List.mem_map.mpr ⟨w, hw, rfl⟩)
        have e3 : (bareV x).map (·.1) = (textWords x).map (·.1) := by
          rw [e2]
          unfold bareV
          rw [List.map_map]
          exact List.map_id _
        exact k1 S (RO.inl _ _ _ e3 r) fi H3 u (s12.trans s3) an
    · refine ⟨_, rfl, v, .ty "str", t, .type "str", false, rfl, .ty _, ty, e, _, rfl, ?_⟩
      refine iteT ?_
      refine ⟨(by show 2 ≤ sizeLine; decide), fun T1 nT => ⟨(by show 1 ≤ 1000; decide), fun a na => ?_⟩⟩
      exact err_made na (k _ T1 (same_upd nT) upd_same)
end
end Kg
namespace Kg
open PySem PySem.Spec PyProof.Rows L2
/-- the data of any text, in a list; or the error with its place -/
def spDataE (K : PySem.W.Frag) (CB CP : Addr) : Sp := fun vs H Q E => ∃ v : V, vs = [v] ∧ spBy K CB (runE S0) fineA (ansA CP) v H Q E
/-- the one datum of any text; or the error with its place -/
def spDatumE (K : PySem.W.Frag) (CB CP : Addr) : Sp := fun vs H Q E => ∃ v : V, vs = [v] ∧ spBy K CB (runD S0) fineL (ansL CP) v H Q E
theorem scDataIn : FnScope ["text"] ["text"] (defScope sDataIn) := ⟨rfl, rfl, rfl, by decide +kernel, rfl, by decide +kernel, by decide +kernel⟩
theorem scDatumIn : FnScope ["text"] ["text"] (defScope sDatumIn) := ⟨rfl, rfl, rfl, by decide +kernel, rfl, by decide +kernel, by decide +kernel⟩
section
variable {P : Program} {w : World} {K : PySem.W.Frag} {mg : Str → Option Value} {base : Heap} {f CB CP fY fA : Addr} {fd fdY : FuncData}
theorem ok_dataE (F : FnP K "data_in" "data_in" sDataIn f fd) (GY : FnOk P w K mg base (L2.CX P w) 8 fY fdY ["look", "text"] (spReadBy K CB fA (runE S0) fineA (ansA CP))) (bY : Binds K fdY ["look", "text"] []) (gY : mg "read_by" = some (.ref fY)) (kY : PySem.W.keepIn K (.ref fY) = true) (gA : mg "all_data" = some (.ref fA)) :
    FnOk P w K mg base (L2.CX P w) 9 f fd ["text"] (spDataE K CB CP) := by
  refine F.ok scDataIn (fun vs H Q E h => ?_) (fun cdv A outer s H vs Q E hr h => ?_)
  · obtain ⟨v, rfl, _⟩ := h
    rfl
  · obtain ⟨v, rfl, h⟩ := h
    refine ⟨_, pss_one (ps_ret (pe_call (E := E) GY hr rfl gY kY bY .nil (passes_call (takes_of rfl rfl rfl rfl) (fun _ _ _ _ h => h)) (pa_cons (pe_glob (v := .ref fA) rfl gA rfl) (pa_cons (pv 0) pa_nil)))), ?_⟩
    exact ⟨_, rfl, v, rfl, h⟩
theorem ok_datumE (F : FnP K "datum_in" "datum_in" sDatumIn f fd) (GY : FnOk P w K mg base (L2.CX P w) 8 fY fdY ["look", "text"] (spReadBy K CB fA (runD S0) fineL (ansL CP))) (bY : Binds K fdY ["look", "text"] []) (gY : mg "read_by" = some (.ref fY)) (kY : PySem.W.keepIn K (.ref fY) = true) (gA : mg "lone_datum" = some (.ref fA)) :
    FnOk P w K mg base (L2.CX P w) 9 f fd ["text"] (spDatumE K CB CP) := by
  refine F.ok scDatumIn (fun vs H Q E h => ?_) (fun cdv A outer s H vs Q E hr h => ?_)
  · obtain ⟨v, rfl, _⟩ := h
    rfl
  · obtain ⟨v, rfl, h⟩ := h
    refine ⟨_, pss_one (ps_ret (pe_call (E := E) GY hr rfl gY kY bY .nil (passes_call (takes_of rfl rfl rfl rfl) (fun _ _ _ _ h => h)) (pa_cons (pe_glob (v := .ref fA) rfl gA rfl) (pa_cons (pv 0) pa_nil)))), ?_⟩
    exact ⟨_, rfl, v, rfl, h⟩
end
end Kg
namespace Kg
open PySem PySem.Spec PyProof.Rows L2
/-! ### data printed -/
abbrev sTextBehind : Stmt := top 33
abbrev sSingleText : Stmt := top 34
abbrev sNumText : Stmt := top 35
abbrev sChunks : Stmt := top 36
abbrev sTextWithin : Stmt := top 32
abbrev sDatumText : Stmt := top 31
def LP : List Nat := [40]
def RP : List Nat := [41]
def BL : List Nat := [32]
def DT : List Nat := [32, 46, 32]
/-- an integer's text -/
def numS (i : Int) : Str := toString i
def singleS' : D → Str
  | .int i => numS i
  | .str s => s
  | .pair _ _ => ""
/-- a datum's text; of a tail: what follows the last thing -/
def txt : Bool → D → List Nat
  | false, .int i => sl (numS i)
  | false, .str s => sl s
  | false, .pair h t => LP ++ (txt false h ++ txt true t)
  | true, .int i => DT ++ (sl (numS i) ++ RP)
  | true, .str s => if s = ("()" : Str) then RP else DT ++ (sl s ++ RP)
  | true, .pair h t => BL ++ (txt false h ++ txt true t)
def rest : List D → List Nat
  | [] => []
  | t :: ts => txt true t ++ rest ts
def EMP : D := .str "()"
/-- what stands behind a datum, the next one, and the tails then -/
def behind : List D → Str × Option D × List D
  | [] => (("" : Str), none, [])
  | .pair h t :: ts => ((" " : Str), some h, t :: ts)
  | .int i :: ts => ((" . " : Str), some (D.int i), EMP :: ts)
  | .str s :: ts => if s = ("()" : Str) then ((")" : Str) ++ (behind ts).1, (behind ts).2) else ((" . " : Str), some (D.str s), EMP :: ts)
def afterL : Option D → List Nat
  | none => []
  | some d => txt false d
theorem sl_bl : sl " " = BL := by decide +kernel
theorem sl_dt : sl " . " = DT := by decide +kernel
theorem sl_rp : sl ")" = RP := by decide +kernel
theorem sl_lp : sl "(" = LP := by decide +kernel
theorem behind_ok : ∀ ts : List D, rest ts = sl (behind ts).1 ++ (afterL (behind ts).2.1 ++ rest (behind ts).2.2) ∧ ((behind ts).2.1 = none → (behind ts).2.2 = [])
  | [] => by
    refine ⟨?_, fun _ => rfl⟩
    show [] = sl "" ++ ([] ++ [])
    rw [sl_empty]
    rfl
  | .pair h t :: ts => by
    refine ⟨?_, fun z => by cases z⟩
    show (BL ++ (txt false h ++ txt true t)) ++ rest ts = sl " " ++ (txt false h ++ (txt true t ++ rest ts))
    rw [sl_bl]
    simp [List.append_assoc]
  | .int i :: ts => by
    refine ⟨?_, fun z => by cases z⟩
    show (DT ++ (sl (numS i) ++ RP)) ++ rest ts = sl " . " ++ (sl (numS i) ++ (txt true EMP ++ rest ts))
    rw [sl_dt]
    simp [List.append_assoc, EMP, txt]
  | .str s :: ts => by
    have ih := behind_ok ts
    by_cases h : s = ("()" : Str)
    · have e : behind (.str s :: ts) = ((")" : Str) ++ (behind ts).1, (behind ts).2) := by
        conv => lhs; unfold behind
        rw [if_pos h]
      rw [e]
      refine ⟨?_, ih.2⟩
      show txt true (.str s) ++ rest ts = sl (")" ++ (behind ts).1) ++ _
      rw [sl_app, sl_rp, ih.1]
      simp [txt, h, List.append_assoc]
    · have e : behind (.str s :: ts) = ((" . " : Str), some (D.str s), EMP :: ts) := by
        conv => lhs; unfold behind
        rw [if_neg h]
      rw [e]
      refine ⟨?_, fun z => by cases z⟩
      show txt true (.str s) ++ rest ts = sl " . " ++ (sl s ++ (txt true EMP ++ rest ts))
      rw [sl_dt]
      simp [txt, h, EMP, List.append_assoc]
/-- what isinstance(x, Pair) wants -/
structure PrT (K : PySem.W.Frag) (mg : Str → Option Value) (CP : Addr) : Prop where
  gP : mg "Pair" = some (.ref CP)
  isi : mg "isinstance" = none
  str : mg "str" = none
  int : mg "int" = none
  cl : Cls K CP
  ha : PySem.W.findIn K (.ref CP) "__class__" = some (some (.builtin "object.__class__"))
  hn : PySem.W.specialIn K (.builtin "object.__class__") "__get__" = some (some (.builtin "getset_descriptor.__get__"))
  htk : PySem.W.takesIn K (.builtin "object.__class__") = some true
  hm : PySem.W.mroIn K CP (.type "object") = some true
  kI : PySem.W.kitOne K (.type "int") (.ref CP) = some false
  kS : PySem.W.kitOne K (.type "str") (.ref CP) = some false
  kP : PySem.W.kitOne K (.ref CP) (.ref CP) = some true
  nH : NoAttr K CP "head"
  nT : NoAttr K CP "tail"
  gE : ∃ t, mg "EMPTY" = some (.str "()" t)
  gM : ∃ t, mg "MOST_SIGNS" = some (.int 2000 t)
  gL : ∃ t, mg "LONG" = some (.str "#long" t)
  gW : ∃ t, mg "WRITTEN_BITS" = some (.int 2000 t)
  gC : ∃ t, mg "CHUNK" = some (.int 64 t)
  gS : ∃ t, mg "CHUNK_SCALE" = some (.int (10 ^ 64) t)
  len : mg "len" = none
  rev : mg "reversed" = none
  abs : mg "abs" = none
  div : mg "divmod" = none
def isPair : D → Bool
  | .pair _ _ => true
  | _ => false
theorem isi_pair {K : PySem.W.Frag} {mg : Str → Option Value} {CP : Addr} (T : PrT K mg CP) {H : Hp} {v : V} {d : D} (r : DR CP H v d) {Q : VK} (h : Q (.bl (isPair d)) H) : rIsi K [v, .ref CP] H Q := by
  cases r with
  | int i => exact ⟨_, _, _, _, false, rfl, .own CP, .base (.int i), T.kI, h⟩
  | str s => exact ⟨_, _, _, _, false, rfl, .own CP, .base (.str s), T.kS, h⟩
  | pair e _ _ => exact ⟨_, _, _, _, true, rfl, .own CP, .base (.ins e T.cl T.ha T.hn T.htk T.hm), T.kP, h⟩
theorem pgP {K : PySem.W.Frag} {mg : Str → Option Value} {CP : Addr} (T : PrT K mg CP) {X : Cx} {pos : Pos} (e : X.mg = mg) (hg : Gl X "Pair" := by rfl) : PE X (.Name "Pair" pos) (tC (.ref CP)) := pe_glob (v := .ref CP) hg (e ▸ T.gP) rfl (by decide)
def tIsP (CP : Addr) (i : Nat) : TT := fun σ H Q => ∃ v d, σ[i]? = some (some v) ∧ DR CP H v d ∧ Q (isPair d) H
theorem PT.imp {X : Cx} {e : Expr} {t t' : TT} (h : L2.PT X e t) (i : ∀ σ H Q, t' σ H Q → t σ H Q) : L2.PT X e t' := ⟨fun pins s σ H Q I hw => h.run pins s σ H Q I (i _ _ _ hw)⟩
theorem pt_isPair {X : Cx} {CP : Addr} {mg : Str → Option Value} (T : PrT X.K mg CP) (e : X.mg = mg) {i : Nat} {x : Str} {p p1 p2 pos : Pos} (hv : PE X (.Name x p1) (tVar i)) (hg : Gl X "isinstance" := by rfl) (hg2 : Gl X "Pair" := by rfl)
    (he : starEach [.Name x p1, .Name "Pair" p2] X.env = (false, eval (.Name x p1) X.env) :: (false, eval (.Name "Pair" p2) X.env) :: starEach [] X.env := by rfl) :
    L2.PT X (.Call (.Name "isinstance" p) [.Name x p1, .Name "Pair" p2] [] pos) (tIsP CP i) :=
  PT.imp (pt_val (pe_callB call_isi hg (e ▸ T.isi) (by decide +kernel) (pa_cons hv (pa_cons (pgP T e hg2) pa_nil)))) fun σ H Q ⟨v, d, e1, r, q⟩ => ⟨v, e1, show rIsi X.K [v, .ref CP] H (fun x H1 => ∃ c, x = .bl c ∧ Q c H1) from isi_pair T r ⟨_, rfl, q⟩⟩
section
variable {P : Program} {w : World} {K : PySem.W.Frag} {mg : Str → Option Value} {base : Heap} {f CP : Addr} {fd : FuncData}
/-- a constant, told by an equation: the goal behind it is opened by ⟨_, rfl, ?_⟩ -/
def tX (v : V) : TE := fun _ H Q => ∃ u, u = v ∧ Q u H
theorem PE.x {X : Cx} {e : Expr} {v : V} (h : PE X e (tC v)) : PE X e (tX v) := PE.imp h fun _ _ _ ⟨_, e, q⟩ => e ▸ q
def tTru (K : PySem.W.Frag) (ta : TE) : TT := fun σ H Q => ta σ H fun x H' => ∃ k, TruV K x H' k ∧ Q k H'
theorem pt_tru {X : Cx} {a : Expr} {ta : TE} (ha : PE X a ta) (he : ∀ whole, isTrue a X.env whole = (do let v ← whole; standAt a.pos; holding [v] (truthy v))) : PT X a (tTru X.K ta) := pt_truth ha he
def OptR (CP : Addr) (H : Hp) (v : V) : Option D → Prop
  | none => v = .non
  | some d => DR CP H v d
/-- text_behind: the tails stand in a list, the innermost one last -/
def spBehind (CP : Addr) : Sp := fun vs H Q _ => ∃ (l : Addr) (us : List V) (ts : List D), vs = [.ref l] ∧ H l = some (.lst us.reverse) ∧ Paired (DR CP H) us ts ∧ us.length ≤ 1000000 ∧
  ∀ H' T us' v, (∀ b o, b ≠ l → H b = some o → H' b = some o) → H' l = some (.lst us'.reverse) → Paired (DR CP H') us' (behind ts).2.2 → us'.length ≤ us.length + 1 → H T = none → H' T = some (.tup [.str (behind ts).1, v]) →
    OptR CP H' v (behind ts).2.1 → Q (.ref T) H'
theorem keep_l {CP l : Addr} {H H' : Hp} {xs : List V} (h : H l = some (.lst xs)) (k : ∀ b o, b ≠ l → H b = some o → H' b = some o) : KeepP CP H H' := fun a dx x t q => k a _ (ne_of q h (Ne.symm lst_ins)) q
theorem ixN_last (n : Nat) : ixN (n + 1) (-1) = some n := by
  unfold ixN
  have : ¬ (0 : Int) ≤ -1 := by decide
  rw [if_neg this, if_pos (by omega)]
  exact congrArg some (by omega)
theorem set_last {α : Type} (xs : List α) (v u : α) : (xs ++ [v]).set xs.length u = xs ++ [u] := by simp
theorem scBehind : FnScope ["tails", "text", "tail"] ["tails"] (defScope sTextBehind) := ⟨rfl, rfl, rfl, by decide +kernel, rfl, by decide +kernel, by decide +kernel⟩
theorem ok_behind (F : FnP K "text_behind" "text_behind" sTextBehind f fd) (T : PrT K mg CP) : FnOk P w K mg base CX0 1 f fd ["tails"] (spBehind CP) := by
  obtain ⟨te, gE⟩ := T.gE
  refine F.ok scBehind (fun vs H Q E h => ?_) (fun cdv A outer s H vs Q E hr h => ?_)
  · obtain ⟨l, us, ts, rfl, _⟩ := h
    rfl
  · obtain ⟨l, us, ts, rfl, hl, hp, hn, k⟩ := h
    refine ⟨_, PSs.nox (pss_cons (ps_set (i := 1) scBehind.nd rfl (Or.inl rfl) (PE.x pe_str))
      (pss_cons (ps_while PassesOwn.never (pt_tru (pv 0) (by intro _; rfl))
        (pss_cons (ps_set (i := 2) scBehind.nd rfl (Or.inl rfl) (pe_ix ix_list (pv 0) (pe_un un_neg pe_int) (fun _ _ => rfl)))
        (pss_cons (ps_if (pt_isPair T rfl (pv 2))
          (pss_cons (ps_asg (pe_fld (pv 2) rfl) (pg_sub (pv 0) (pe_un un_neg pe_int) set_list))
            (pss_one (ps_ret (pe_tup (pa_cons (pe_op op_add_str (pv 1) pe_str) (pa_cons (pe_fld (pv 2) rfl) pa_nil)))))) pss_nil)
        (pss_cons (ps_if (pt_cmpR op_ne (pv 2) (pgS gE) (nomark _))
          (pss_cons (ps_asg (pgS gE) (pg_sub (pv 0) (pe_un un_neg pe_int) set_list))
            (pss_one (ps_ret (pe_tup (pa_cons (pe_op op_add_str (pv 1) pe_str) (pa_cons (pv 2) pa_nil)))))) pss_nil)
        (pss_cons (ps_expr (pe_bm0 PySem.F.plainAttrs_list PySem.F.slot_list_pop PySem.F.type_list_pop mt_pop (pv 0)))
        (pss_one (ps_aug (i := 1) scBehind.nd rfl (Or.inl rfl) pe_str iop_add_str)))))))
      (pss_one (ps_ret (pe_tup (pa_cons (pv 1) (pa_cons pe_non pa_nil))))))), ?_⟩
    refine ⟨_, rfl, ?_⟩
    refine while_by (fun σ H' => ∃ (x : Str) (us' : List V) (ts' : List D) (v2 : Option V), σ = [some (.ref l), some (.str x), v2] ∧ (∀ b o, b ≠ l → H b = some o → H' b = some o) ∧ H' l = some (.lst us'.reverse) ∧ Paired (DR CP H') us' ts' ∧ us'.length + x.length ≤ us.length ∧
        behind ts = (x ++ (behind ts').1, (behind ts').2)) (fun σ H' => match H' l with | some (.lst xs) => xs.length | _ => 0) ⟨"", us, ts, none, rfl, fun _ _ _ q => q, hl, hp, by show us.length + 0 ≤ us.length; omega, ?_⟩ ?_ ?_
    · have e : ("" : Str) ++ (behind ts).1 = (behind ts).1 := sl_inj (by rw [sl_app, sl_empty]; rfl)
      rw [e]
    · rintro σ H' ⟨x, us', ts', v2, rfl, s1, hl', hp', hn', hb⟩
      have nw : ∀ T1, H' T1 = none → H T1 = none := fun T1 nT => by
        cases q : H T1 with
        | none => rfl
        | some o =>
          have z : T1 ≠ l := fun z => by rw [z, hl'] at nT; cases nT
          rw [s1 _ _ z q] at nT
          cases nT
      refine ⟨_, rfl, !us'.reverse.isEmpty, Or.inl ⟨_, SqL.of hl', rfl⟩, ?_⟩
      cases hp' with
      | nil =>
        refine iteF ?_
        refine ⟨_, rfl, (by show 2 ≤ sizeLine; decide), fun T1 nT => ?_⟩
        have e : behind ts = (x, none, []) := by
          rw [hb]
          show (x ++ ("" : Str), none, []) = _
          have : x ++ ("" : Str) = x := sl_inj (by rw [sl_app, sl_empty, List.append_nil])
          rw [this]
        have sT := same_upd (o := .tup [.str x, .non]) nT
        refine k _ T1 [] .non (fun b o hb q => sT _ _ (s1 b o hb q)) (sT _ _ hl') ?_ (Nat.zero_le _) (nw _ nT) ?_ ?_
        · rw [e]
          exact .nil
        · rw [e]
          exact upd_same
        · rw [e]
          rfl
      | @cons v d us2 ts2 rv rr =>
        have hne : (!(v :: us2).reverse.isEmpty) = true := by simp
        rw [hne]
        refine iteT ?_
        rw [List.reverse_cons] at hl'
        rw [List.length_cons] at hn'
        have hix : ixN (us2.reverse ++ [v]).length (-1) = some us2.length := by
          rw [List.length_append, List.length_reverse]
          exact ixN_last _
        have hset : ∀ u : V, (us2.reverse ++ [v]).set us2.length u = us2.reverse ++ [u] := fun u => by
          rw [show us2.length = us2.reverse.length from (List.length_reverse).symm]
          exact set_last _ _ _
        refine ⟨_, rfl, 1, rfl, l, _, _, v, rfl, rfl, SqL.of hl', atI_last _ _, ?_⟩
        refine ⟨_, _, rfl, rv, ?_⟩
        have k1 : ∀ (u : V) b o, b ≠ l → H' b = some o → upd H' l (.lst ((us2.reverse ++ [v]).set us2.length u)) b = some o := fun u b o hb q => by rw [upd_ne hb]; exact q
        have l1 : ∀ u : V, upd H' l (.lst ((us2.reverse ++ [v]).set us2.length u)) l = some (.lst (us2.reverse ++ [u])) := fun u => by rw [upd_same, hset]
        cases rv with
        | @pair a dx vh vt dh dt ea rh rt =>
          refine iteT ?_
          refine ⟨_, rfl, a, CP, dx, _, _, rfl, ea, T.cl, T.nT, (look_tl (by decide +kernel)).trans look_hd, _, rfl, 1, rfl, l, _, _, us2.length, rfl, rfl, hl', hix, ?_⟩
          have kp1 := keep_l (CP := CP) hl' (k1 vt)
          have ea2 := kp1 _ _ _ _ ea
          refine ⟨_, rfl, x, " ", rfl, rfl, (by show x.length + 1 ≤ sizeLine; exact Nat.le_trans (show x.length + 1 ≤ 1000001 by omega) (by decide)), _, rfl, a, CP, dx, _, _, rfl, ea2, T.cl, T.nH, look_hd, (by show 2 ≤ sizeLine; decide), fun T1 nT => ?_⟩
          have e : behind ts = (x ++ (" " : Str), some dh, dt :: ts2) := hb
          have sT := same_upd (o := .tup [.str (x ++ (" " : Str)), vh]) nT
          have kpT : KeepP CP _ _ := Same.keepP sT
          have nT0 : H' T1 = none := free_of nT
          refine k _ T1 (vt :: us2) vh (fun b o hb q => sT _ _ (k1 vt b o hb (s1 b o hb q))) ?_ ?_ ?_ (nw _ nT0) ?_ ?_
          · rw [List.reverse_cons]
            exact sT _ _ (l1 vt)
          · rw [e]
            exact .cons ((rt.keep kp1).keep kpT) (paired_imp (fun a b q => (DR.keep kp1 q).keep kpT) rr)
          · rw [List.length_cons]
            omega
          · rw [e]
            exact upd_same
          · rw [e]
            exact (rh.keep kp1).keep kpT
        | int i =>
          refine iteF ?_
          refine ⟨_, rfl, rfl, _, rfl, ?_⟩
          refine iteT ?_
          refine ⟨_, rfl, 1, rfl, l, _, _, us2.length, rfl, rfl, hl', hix, ?_⟩
          have kp1 := keep_l (CP := CP) hl' (k1 (.str "()"))
          refine ⟨_, rfl, x, " . ", rfl, rfl, (by show x.length + 3 ≤ sizeLine; exact Nat.le_trans (show x.length + 3 ≤ 1000003 by omega) (by decide)), _, rfl, (by show 2 ≤ sizeLine; decide), fun T1 nT => ?_⟩
          have e : behind ts = (x ++ (" . " : Str), some (.int i), EMP :: ts2) := hb
          have sT := same_upd (o := .tup [.str (x ++ (" . " : Str)), .int i]) nT
          have kpT : KeepP CP _ _ := Same.keepP sT
          have nT0 : H' T1 = none := free_of nT
          refine k _ T1 (.str "()" :: us2) (.int i) (fun b o hb q => sT _ _ (k1 _ b o hb (s1 b o hb q))) ?_ ?_ ?_ (nw _ nT0) ?_ ?_
          · rw [List.reverse_cons]
            exact sT _ _ (l1 _)
          · rw [e]
            exact .cons (.str _) (paired_imp (fun a b q => (DR.keep kp1 q).keep kpT) rr)
          · rw [List.length_cons]
            omega
          · rw [e]
            exact upd_same
          · rw [e]
            exact .int i
        | str z =>
          refine iteF ?_
          refine ⟨_, rfl, rfl, _, rfl, ?_⟩
          by_cases hz : z = ("()" : Str)
          · have ez : (!decide (V.str z = V.str ("()" : Str))) = false := by rw [hz, decide_eq_true rfl]; rfl
            show if (!decide (V.str z = V.str ("()" : Str))) = true then _ else _
            rw [ez]
            refine iteF ?_
            refine ⟨_, rfl, .inl ⟨rfl, _, SqL.of hl'⟩, l, _, (.str z), rfl, rfl, hl', by simp, ?_⟩
            rw [List.dropLast_concat]
            have k0 : ∀ b o, b ≠ l → H' b = some o → upd H' l (.lst us2.reverse) b = some o := fun b o hb q => by rw [upd_ne hb]; exact q
            have kp := keep_l (CP := CP) hl' k0
            have rr2 := paired_imp (fun a b (q : DR CP H' a b) => q.keep kp) rr
            refine ⟨_, rfl, x, ")", rfl, rfl, (by show x.length + 1 ≤ sizeLine; exact Nat.le_trans (show x.length + 1 ≤ 1000001 by omega) (by decide)), ⟨x ++ (")" : Str), us2, ts2, _, rfl, fun b o hb q => k0 b o hb (s1 b o hb q), upd_same, rr2, ?_, ?_⟩, ?_⟩
            · have : (x ++ (")" : Str)).length = x.length + 1 := by rw [← sl_len, sl_app, List.length_append, sl_len, sl_rp]; rfl
              omega
            · rw [hb]
              have e : behind (.str z :: ts2) = ((")" : Str) ++ (behind ts2).1, (behind ts2).2) := by
                conv => lhs; unfold behind
                rw [if_pos hz]
              rw [e]
              have : x ++ ((")" : Str) ++ (behind ts2).1) = (x ++ (")" : Str)) ++ (behind ts2).1 := sl_inj (by simp only [sl_app, List.append_assoc])
              rw [← this]
            · show (match upd H' l (.lst us2.reverse) l with | some (.lst xs) => xs.length | _ => 0) < (match H' l with | some (.lst xs) => xs.length | _ => 0)
              rw [upd_same, hl']
              simp
          · have ez : (!decide (V.str z = V.str ("()" : Str))) = true := by rw [decide_eq_false fun q => hz (V.str.inj q)]; rfl
            show if (!decide (V.str z = V.str ("()" : Str))) = true then _ else _
            rw [ez]
            refine iteT ?_
            refine ⟨_, rfl, 1, rfl, l, _, _, us2.length, rfl, rfl, hl', hix, ?_⟩
            have kp1 := keep_l (CP := CP) hl' (k1 (.str "()"))
            refine ⟨_, rfl, x, " . ", rfl, rfl, (by show x.length + 3 ≤ sizeLine; exact Nat.le_trans (show x.length + 3 ≤ 1000003 by omega) (by decide)), _, rfl, (by show 2 ≤ sizeLine; decide), fun T1 nT => ?_⟩
            have e : behind ts = (x ++ (" . " : Str), some (.str z), EMP :: ts2) := by
              rw [hb]
              have e2 : behind (.str z :: ts2) = ((" . " : Str), some (D.str z), EMP :: ts2) := by
                conv => lhs; unfold behind
                rw [if_neg hz]
              rw [e2]
            have sT := same_upd (o := .tup [.str (x ++ (" . " : Str)), .str z]) nT
            have kpT : KeepP CP _ _ := Same.keepP sT
            have nT0 : H' T1 = none := free_of nT
            refine k _ T1 (.str "()" :: us2) (.str z) (fun b o hb q => sT _ _ (k1 _ b o hb (s1 b o hb q))) ?_ ?_ ?_ (nw _ nT0) ?_ ?_
            · rw [List.reverse_cons]
              exact sT _ _ (l1 _)
            · rw [e]
              exact .cons (.str _) (paired_imp (fun a b q => (DR.keep kp1 q).keep kpT) rr)
            · rw [List.length_cons]
              omega
            · rw [e]
              exact upd_same
            · rw [e]
              exact .str z
    · intro σ H' Q1 Q2 h12 ⟨v1, e1, b, h, h2⟩
      exact ⟨v1, e1, b, h, h12 _ _ h2⟩
end
end Kg
set_option exponentiation.threshold 100000
namespace Kg
open PySem PySem.Spec PyProof.Rows L2
/-! ### an integer's figures by chunks of 64 -/
def vBE (S : Nat) (l : List Nat) : Nat := l.foldl (fun a p => a * S + p) 0
theorem foldl_split (s : Nat) (hs : 0 < s) : ∀ (l : List Nat) (a : Nat), (l.flatMap fun p => [p / s, p % s]).foldl (fun a p => a * s + p) a = l.foldl (fun a p => a * (s * s) + p) a
  | [], _ => rfl
  | p :: l, a => by
    show (l.flatMap fun p => [p / s, p % s]).foldl (fun a p => a * s + p) ((a * s + p / s) * s + p % s) = l.foldl (fun a p => a * (s * s) + p) (a * (s * s) + p)
    rw [foldl_split s hs l]
    congr 1
    have := Nat.div_add_mod p s
    rw [Nat.add_mul, Nat.mul_assoc, Nat.add_assoc, Nat.mul_comm (p / s) s, this]
theorem vBE_split (s : Nat) (hs : 0 < s) (l : List Nat) : vBE s (l.flatMap fun p => [p / s, p % s]) = vBE (s * s) l := foldl_split s hs l 0
theorem split_lt {s : Nat} (hs : 0 < s) {l : List Nat} (h : ∀ p ∈ l, p < s * s) : ∀ q ∈ l.flatMap (fun p => [p / s, p % s]), q < s := by
  intro q hq
  obtain ⟨p, hp, hq⟩ := List.mem_flatMap.mp hq
  rcases List.mem_cons.mp hq with e | hq
  · rw [e]
    exact Nat.div_lt_of_lt_mul (h p hp)
  · rw [List.mem_singleton.mp hq]
    exact Nat.mod_lt _ hs
def BASE : Nat := 10 ^ 64
def sc (m : Nat) : Nat := BASE ^ (2 ^ m)
theorem sc_zero : sc 0 = BASE := Nat.pow_one _
theorem sc_succ (m : Nat) : sc (m + 1) = sc m * sc m := by
  unfold sc
  rw [Nat.pow_succ 2 m, Nat.mul_two, Nat.pow_add]
theorem sc_pos (m : Nat) : 0 < sc m := Nat.pow_pos (by unfold BASE; decide +kernel)
theorem base_big : 2 ^ 212 ≤ BASE := by unfold BASE; decide +kernel
theorem base_less : BASE < 2 ^ 213 := by unfold BASE; decide +kernel
theorem sc_small {m : Nat} (h : sc m < 2 ^ 8001) : m ≤ 5 := by
  refine Decidable.byContradiction fun z => ?_
  have h1 : 2 ^ 6 ≤ 2 ^ m := Nat.pow_le_pow_right (by decide) (by omega)
  have h2 : BASE ^ (2 ^ 6) ≤ sc m := Nat.pow_le_pow_right (by unfold BASE; decide +kernel) h1
  have h3 : (2 ^ 212) ^ (2 ^ 6) ≤ BASE ^ (2 ^ 6) := Nat.pow_le_pow_left base_big _
  have h4 : (2 : Nat) ^ 8001 ≤ (2 ^ 212) ^ (2 ^ 6) := by
    rw [← Nat.pow_mul]
    exact Nat.pow_le_pow_right (by decide) (by decide)
  omega
theorem sc_bits {m : Nat} (h : m ≤ 5) : sc m < 2 ^ 6816 := by
  have h1 : sc m ≤ (2 ^ 213) ^ (2 ^ m) := Nat.pow_le_pow_left (Nat.le_of_lt base_less) _
  have h2 : (2 ^ 213) ^ (2 ^ m) ≤ (2 ^ 213) ^ (2 ^ 5) := Nat.pow_le_pow_right (by decide +kernel) (Nat.pow_le_pow_right (by decide) h)
  have h3 : sc m < (2 ^ 213) ^ (2 ^ m) := Nat.pow_lt_pow_left base_less (by have := Nat.pow_pos (n := m) (show 0 < 2 by decide); omega)
  have e : (2 ^ 213) ^ (2 ^ 5) = 2 ^ 6816 := by rw [← Nat.pow_mul]
  omega
def scL (m : Nat) : List V := (List.range (m + 1)).map fun j => V.int ((sc j : Nat) : Int)
theorem scL_succ (m : Nat) : scL (m + 1) = scL m ++ [.int ((sc (m + 1) : Nat) : Int)] := by
  unfold scL
  rw [List.range_succ (n := m + 1), List.map_append]
  rfl
theorem scL_last (m : Nat) : atI (scL m) (-1) = some (.int ((sc m : Nat) : Int)) := by
  unfold scL
  rw [List.range_succ, List.map_append]
  exact atI_last _ _
theorem scL_length (m : Nat) : (scL m).length = m + 1 := by unfold scL; simp
def spChunks : Sp := fun vs H Q _ => ∃ n : Nat, vs = [.int (n : Nat)] ∧ n < 2 ^ 8001 ∧ ∀ H' p (ps : List Nat), Same H H' → H p = none → H' p = some (.lst (ps.map fun q => V.int (q : Nat))) → (∀ q ∈ ps, q < BASE) → vBE BASE ps = n → ps.length ≤ 100 → Q (.ref p) H'
theorem scChunks : FnScope ["number", "scales", "parts", "scale", "half", "part"] ["number"] (defScope sChunks) := ⟨rfl, rfl, rfl, by decide +kernel, rfl, by decide +kernel, by decide +kernel⟩
theorem not_pylong {i j : Int} (h : j.natAbs < 2 ^ 6816) (h2 : 0 < j) : CDivP i j := by
  refine ⟨h2, ?_⟩
  unfold Builtin.divisionGoesByPylong
  have hj : ¬ (j == 0) = true := fun z => by
    have := eq_of_beq z
    omega
  have hl : j.natAbs.log2 < 6816 := (Nat.log2_lt (by omega)).mpr h
  show (decide ((if (j == 0) = true then 0 else j.natAbs.log2 / 30 + 1) > 300) && _) = false
  rw [if_neg hj, decide_eq_false (by omega), Bool.false_and]
section
variable {P : Program} {w : World} {K : PySem.W.Frag} {mg : Str → Option Value} {base : Heap} {f CP : Addr} {fd : FuncData}
theorem ok_chunks (F : FnP K "chunks_of" "chunks_of" sChunks f fd) (T : PrT K mg CP) : FnOk P w K mg base CX0 1 f fd ["number"] spChunks := by
  obtain ⟨tc, gS⟩ := T.gS
  refine F.ok scChunks (fun vs H Q E h => ?_) (fun cdv A outer s H vs Q E hr h => ?_)
  · obtain ⟨n, rfl, _⟩ := h
    rfl
  · obtain ⟨n, rfl, hn, k⟩ := h
    refine ⟨_, PSs.nox (pss_cons (ps_set (i := 1) scChunks.nd rfl (Or.inl rfl) (pe_lst (pa_cons (pgI gS) pa_nil)))
      (pss_cons (ps_while PassesOwn.never (pt_cmpR op_le (pe_op op_mulW (pe_ix ix_list (pv 1) (pe_un un_neg pe_int) (fun _ _ => rfl)) (pe_ix ix_list (pv 1) (pe_un un_neg pe_int) (fun _ _ => rfl))) (pv 0) (nomark _))
        (pss_one (ps_expr (pe_bm PySem.F.plainAttrs_list PySem.F.slot_list_append PySem.F.type_list_append mt_append (pv 1) (pa_cons (pe_op op_mulW (pe_ix ix_list (pv 1) (pe_un un_neg pe_int) (fun _ _ => rfl)) (pe_ix ix_list (pv 1) (pe_un un_neg pe_int) (fun _ _ => rfl))) pa_nil)))))
      (pss_cons (ps_set (i := 2) scChunks.nd rfl (Or.inl rfl) (pe_lst (pa_cons (pv 0) pa_nil)))
      (pss_cons (ps_for PassesOwn.never rfl (pi_reversed (by rfl) T.rev (pa_cons (pv 1) pa_nil)) (pg_name (i := 3) scChunks.nd rfl (Or.inr rfl))
        (pss_one (ps_setLc2 (i := 2) (own := [("part", 5), ("half", 4)]) (vs1 := [4]) (g := gName 5) (tt := tYes) (g1 := gName 4) (tt1 := tYes) rfl scChunks.nd rfl rfl (sw_true rfl rfl rfl (by decide +kernel)) (pi_list (pv 2))
          (blkOk_by (own := [("part", 5), ("half", 4)]) (N := ["number", "scales", "parts", "scale", "half", "part"]) (sc := defScope sChunks) (by decide +kernel)) (by decide)
          (fun _ _ _ _ _ => pg_name (i := 5) scChunks.nd rfl (Or.inl rfl)) (fun _ _ _ _ _ => pts_nil)
          (fun _ _ _ _ _ => (show PI _ _ _ (iTup K _) from pi_tup (pe_callB call_divmodW (by rfl) T.div (by decide +kernel) (pa_cons (pv 5) (pa_cons (pv 3) pa_nil)))))
          (fun _ _ _ _ _ => pg_name (i := 4) scChunks.nd rfl (Or.inl rfl)) (fun _ _ _ _ _ => pts_nil) (fun _ _ _ _ _ => pv 4))))
      (pss_one (ps_ret (pv 2))))))), ?_⟩
    have hB : ((10 : Int) ^ 64) = ((BASE : Nat) : Int) := by unfold BASE; decide +kernel
    refine ⟨(by show 1 ≤ sizeLine; decide), fun D nD => ?_⟩
    refine while_by (fun σ G => ∃ m : Nat, m ≤ 5 ∧ σ = [some (.int (n : Nat)), some (.ref D), none, none, none, none] ∧ G = upd H D (.lst (scL m))) (fun σ G => match G D with | some (.lst xs) => 10 - xs.length | _ => 0) ?_ ?_ ?_
    · refine ⟨0, by decide, rfl, ?_⟩
      have e : scL 0 = [.int (10 ^ 64)] := by
        unfold scL
        rw [hB]
        show [V.int ((sc 0 : Nat) : Int)] = _
        rw [sc_zero]
      rw [e]
    · rintro σ G ⟨m, hm, rfl, rfl⟩
      have sqD : SqL K (upd H D (.lst (scL m))) D (scL m) := SqL.of upd_same
      have nb : ((sc m : Nat) : Int).natAbs < 2 ^ 6816 := by
        rw [Int.natAbs_natCast]
        exact sc_bits hm
      have em : ((sc m : Nat) : Int) * ((sc m : Nat) : Int) = ((sc (m + 1) : Nat) : Int) := by
        rw [sc_succ, Int.natCast_mul]
      refine ⟨_, rfl, 1, rfl, D, _, _, _, rfl, rfl, sqD, scL_last m, _, rfl, 1, rfl, D, _, _, _, rfl, rfl, sqD, scL_last m, _, _, rfl, rfl, wide_mul nb nb (by decide) (by decide) (by decide), _, rfl, _, _, rfl, rfl, _, rfl, ?_⟩
      rw [em]
      refine ifD (fun h1 => ?_) (fun h1 => ?_)
      · have h2 : sc (m + 1) ≤ n := by exact_mod_cast h1
        have h5 : m + 1 ≤ 5 := sc_small (Nat.lt_of_le_of_lt h2 hn)
        refine ⟨_, rfl, .inl ⟨rfl, _, sqD⟩, _, rfl, 1, rfl, D, _, _, _, rfl, rfl, sqD, scL_last m, _, rfl, 1, rfl, D, _, _, _, rfl, rfl, sqD, scL_last m, _, _, rfl, rfl, wide_mul nb nb (by decide) (by decide) (by decide), ?_⟩
        refine ⟨D, scL m, _, rfl, rfl, upd_same, ?_, ⟨m + 1, h5, rfl, ?_⟩, ?_⟩
        · rw [scL_length]
          exact Nat.lt_of_le_of_lt (show m + 1 ≤ 6 by omega) (by decide)
        · rw [scL_succ, ← em]
          funext b
          by_cases z : b = D
          · rw [z, upd_same, upd_same]
          · rw [upd_ne z, upd_ne z, upd_ne z]
        · rw [upd_same, upd_same]
          show 10 - (scL m ++ [_]).length < 10 - (scL m).length
          rw [List.length_append, scL_length]
          show 10 - (m + 1 + 1) < 10 - (m + 1)
          omega
      · have h2 : n < sc (m + 1) := by
          have : ¬ sc (m + 1) ≤ n := fun z => h1 (by exact_mod_cast z)
          omega
        refine ⟨_, rfl, (by show 1 ≤ sizeLine; decide), fun L nL => ?_⟩
        have nLD : L ≠ D := fun z => by rw [z, upd_same] at nL; cases nL
        have sD : Same H (upd H D (.lst (scL m))) := same_upd nD
        have sL : Same (upd H D (.lst (scL m))) (upd (upd H D (.lst (scL m))) L (.lst [.int (n : Nat)])) := same_upd nL
        have nL0 : H L = none := free_of nL
        refine ⟨_, rfl, D, scL m, rfl, SqL.of (sL _ _ upd_same), for_it (walk_rev (K := K) (a := D) (xs := scL m)) (fun i σ G => ∃ (p : Addr) (ps : List Nat) (v3 : Option V), σ = [some (.int (n : Nat)), some (.ref D), some (.ref p), v3, none, none] ∧ Same H G ∧ H p = none ∧ G D = some (.lst (scL m)) ∧ G p = some (.lst (ps.map fun q => V.int (q : Nat))) ∧ p ≠ D ∧
            (∀ q ∈ ps, q < sc (m + 1 - i)) ∧ vBE (sc (m + 1 - i)) ps = n ∧ ps.length = 2 ^ i) ?_ ?_ ?_ ?_⟩
        · refine ⟨L, [n], none, rfl, sD.trans sL, nL0, sL _ _ upd_same, upd_same, nLD, fun q hq => ?_, ?_, rfl⟩
          · rw [List.mem_singleton.mp hq]
            exact h2
          · show 0 * _ + n = n
            omega
        · rintro i σ G _ ⟨_, _, _, _, _, _, h, _⟩
          exact SqL.of h
        · rintro i v σ G G2 hi ⟨p, ps, v3, rfl, s1, np, hD, hp, npD, hlt, hv, hl⟩ ⟨rfl, hs⟩
          have hi2 : i < m + 1 := by rw [scL_length] at hi; exact hi
          have ei : m + 1 - i = (m + 1 - (i + 1)) + 1 := by omega
          generalize hj : m + 1 - (i + 1) = j at ei
          have hj5 : j ≤ 5 := by omega
          have hsv : v = .int ((sc j : Nat) : Int) := by
            rw [scL_length] at hs
            have e : m + 1 - 1 - i = j := by omega
            rw [e] at hs
            unfold scL at hs
            rw [List.getElem?_map, List.getElem?_range (by omega)] at hs
            exact (Option.some.inj hs).symm
          subst hsv
          rw [ei, sc_succ] at hlt hv
          have h64 : ps.length ≤ 64 := by
            rw [hl]
            exact Nat.le_trans (Nat.pow_le_pow_right (by decide) (show i ≤ 5 by omega)) (by decide)
          refine ⟨_, rfl, p, rfl, ⟨_, SqL.of hp⟩, fun D2 nD2 => ?_⟩
          have pD2 : p ≠ D2 := ne_of_none hp nD2
          have DD2 : D ≠ D2 := ne_of_none hD nD2
          let out := fun i => ((ps.take i).flatMap fun q => [q / sc j, q % sc j])
          refine ⟨fun i' m' G' => m' = ps.length - i' ∧ i' ≤ ps.length ∧ Same G2 G' ∧ G' D2 = some (.lst ((out i').map fun q => V.int (q : Nat))), ⟨ps.length, by omega, Nat.zero_le _, same_upd nD2, upd_same⟩, ?_⟩
          rintro i' m' G3 ⟨rfl, hi', s3, d3⟩
          have lenO : ∀ t, (out t).length ≤ 128 := fun t => by
            have : ∀ l : List Nat, (l.flatMap fun q => [q / sc j, q % sc j]).length = 2 * l.length := fun l => by
              induction l with
              | nil => rfl
              | cons a l ih => rw [List.flatMap_cons, List.length_append, ih, List.length_cons]; simp; omega
            show ((ps.take t).flatMap _).length ≤ 128
            rw [this, List.length_take]
            omega
          by_cases hlt' : i' < ps.length
          · have epi : ps[i']? = some ps[i'] := by simp [hlt']
            generalize ps[i'] = q at epi
            have e0 : (ps.map fun q => V.int (q : Nat))[i']? = some (.int (q : Nat)) := by rw [List.getElem?_map, epi]; rfl
            have eo : out (i' + 1) = out i' ++ [q / sc j, q % sc j] := by
              show (ps.take (i' + 1)).flatMap _ = (ps.take i').flatMap _ ++ _
              rw [take_more epi, List.flatMap_append]
              simp
            refine .inr ⟨⟨_, _, SqL.of (s3 _ _ hp), e0⟩, fun G' => i' + 1 ≤ ps.length ∧ Same G2 G' ∧ G' D2 = some (.lst ((out (i' + 1)).map fun q => V.int (q : Nat))), fun G' h => ⟨ps.length - (i' + 1), by omega, rfl, h.1, h.2.1, h.2.2⟩, ?_⟩
            rintro x G4 ⟨rfl, hx⟩
            have ex : x = .int (q : Nat) := by
              have := hx _ (SqL.of (s3 _ _ hp))
              rw [e0] at this
              exact (Option.some.inj this).symm
            subst ex
            refine ⟨rfl, ?_⟩
            refine yesI ?_
            refine ⟨_, rfl, _, rfl, (q : Nat), ((sc j : Nat) : Int), rfl, not_pylong (by rw [Int.natAbs_natCast]; exact sc_bits hj5) (by have := sc_pos j; omega), fun T1 nT => ?_⟩
            have eq1 : ((q : Nat) : Int) / ((sc j : Nat) : Int) = ((q / sc j : Nat) : Int) := rfl
            have eq2 : ((q : Nat) : Int) % ((sc j : Nat) : Int) = ((q % sc j : Nat) : Int) := rfl
            rw [eq1, eq2]
            have hT : upd G4 T1 (.tup [.int ((q / sc j : Nat) : Int), .int ((q % sc j : Nat) : Int)]) T1 = some (.tup [.int ((q / sc j : Nat) : Int), .int ((q % sc j : Nat) : Int)]) := upd_same
            have sT : Same G4 (upd G4 T1 (.tup [.int ((q / sc j : Nat) : Int), .int ((q % sc j : Nat) : Int)])) := same_upd nT
            have nTD : T1 ≠ D2 := fun z => by rw [z] at nT; rw [d3] at nT; cases nT
            generalize upd G4 T1 (.tup [.int ((q / sc j : Nat) : Int), .int ((q % sc j : Nat) : Int)]) = G5 at hT sT
            refine ⟨T1, rfl, ⟨_, SqT.of hT⟩, fun j' k' G6 => k' = 2 - j' ∧ j' ≤ 2 ∧ Same G2 G6 ∧ G6 T1 = some (.tup [.int ((q / sc j : Nat) : Int), .int ((q % sc j : Nat) : Int)]) ∧ G6 D2 = some (.lst ((out i' ++ [q / sc j, q % sc j].take j').map fun q => V.int (q : Nat))), ⟨2, rfl, by decide, s3.trans sT, hT, ?_⟩, ?_⟩
            · rw [sT _ _ d3]
              simp
            rintro j' k' G6 ⟨rfl, hj', s6, hT6, d6⟩
            by_cases h2' : j' < 2
            · have ey : ∃ y, [q / sc j, q % sc j][j']? = some y := ⟨_, List.getElem?_eq_getElem h2'⟩
              obtain ⟨y, ey⟩ := ey
              have ey2 : ([.int ((q / sc j : Nat) : Int), .int ((q % sc j : Nat) : Int)] : List V)[j']? = some (.int (y : Nat)) := by
                have : ([.int ((q / sc j : Nat) : Int), .int ((q % sc j : Nat) : Int)] : List V) = [q / sc j, q % sc j].map fun q => V.int (q : Nat) := rfl
                rw [this, List.getElem?_map, ey]
                rfl
              refine .inr ⟨⟨_, _, SqT.of hT6, ey2⟩, fun G' => j' + 1 ≤ 2 ∧ Same G2 G' ∧ G' T1 = some (.tup [.int ((q / sc j : Nat) : Int), .int ((q % sc j : Nat) : Int)]) ∧ G' D2 = some (.lst ((out i' ++ [q / sc j, q % sc j].take (j' + 1)).map fun q => V.int (q : Nat))), fun G' h => ⟨2 - (j' + 1), by omega, rfl, h.1, h.2.1, h.2.2.1, h.2.2.2⟩, ?_⟩
              rintro x2 G7 ⟨rfl, hx2⟩
              have ex2 : x2 = .int (y : Nat) := by
                have := hx2 _ (SqT.of hT6)
                rw [ey2] at this
                exact (Option.some.inj this).symm
              subst ex2
              refine ⟨rfl, ?_⟩
              refine yesI ?_
              refine ⟨_, rfl, _, d6, ?_, h2', fun b o hb => ?_, ?_, ?_⟩
              · have l1 := lenO i'
                rw [List.length_map, List.length_append, List.length_take]
                exact Nat.lt_of_le_of_lt (show _ ≤ 200 by simp; omega) (by decide)
              · have : b ≠ D2 := ne_of_none hb nD2
                rw [upd_ne this]
                exact s6 b o hb
              · rw [upd_ne nTD]
                exact hT6
              · rw [upd_same, take_more ey]
                simp
            · have e2 : j' = 2 := by omega
              subst e2
              refine .inl ⟨⟨_, SqT.of hT6, Nat.le_refl _⟩, hlt', s6, ?_⟩
              rw [d6, eo]
              rfl
          · have ei2 : i' = ps.length := by omega
            subst ei2
            refine .inl ⟨⟨_, SqL.of (s3 _ _ hp), by simp⟩, ?_⟩
            have eo : out ps.length = ps.flatMap fun q => [q / sc j, q % sc j] := by
              show (ps.take ps.length).flatMap _ = _
              rw [List.take_length]
            rw [eo] at d3
            have ll : (ps.flatMap fun q => [q / sc j, q % sc j]).length = 2 * ps.length := by
              have : ∀ l : List Nat, (l.flatMap fun q => [q / sc j, q % sc j]).length = 2 * l.length := fun l => by
                induction l with
                | nil => rfl
                | cons a l ih => rw [List.flatMap_cons, List.length_append, ih, List.length_cons]; simp; omega
              exact this ps
            refine ⟨D2, _, _, rfl, s1.trans s3, ?_, s3 _ _ hD, d3, Ne.symm DD2, ?_, ?_, ?_⟩
            · exact s1.free nD2
            · exact split_lt (sc_pos j) hlt
            · rw [vBE_split _ (sc_pos j)]
              exact hv
            · rw [ll, hl, Nat.pow_succ]
              omega
        · rintro σ G ⟨p, ps, v3, rfl, s1, np, hD, hp, npD, hlt, hv, hl⟩
          rw [scL_length, Nat.sub_self, sc_zero] at hlt hv
          refine ⟨_, rfl, k _ p ps s1 np hp hlt hv ?_⟩
          rw [hl, scL_length]
          exact Nat.le_trans (Nat.pow_le_pow_right (by decide) (show m + 1 ≤ 6 by omega)) (by decide)
    · intro σ G Q1 Q2 h12 ⟨a1, b1, a2, b2, p1, x1, i1, v1, c1, c2, c3, c4, a3, b3, a4, b4, p2, x2, i2, v2, d1, d2, d3, d4, e1, e2, e3, e4, e5, f1, g1, h1, h2, h3, h4, k1, l1, h⟩
      exact ⟨a1, b1, a2, b2, p1, x1, i1, v1, c1, c2, c3, c4, a3, b3, a4, b4, p2, x2, i2, v2, d1, d2, d3, d4, e1, e2, e3, e4, e5, f1, g1, h1, h2, h3, h4, k1, l1, h12 _ _ h⟩
end
end Kg
set_option exponentiation.threshold 100000
namespace Kg
open PySem PySem.Spec PyProof.Rows L2
def digs (m : Nat) : List Nat := (Nat.toDigits 10 m).map Char.toNat
theorem sl_nat (m : Nat) : sl (numS (m : Nat)) = digs m := PySem.W.KIN.signs_num m
theorem digs_val (m : Nat) : dv (digs m) = m := PySem.W.KIN.val_back m
theorem digs_all (m : Nat) : NumText.AllDigits (digs m) := by
  intro c hc
  obtain ⟨ch, hch, e⟩ := List.mem_map.mp hc
  have r := digit_range (Nat.isDigit_of_mem_toDigits (by decide) (by decide) hch)
  rw [← e]
  exact r
theorem digs_ne (m : Nat) : digs m ≠ [] := by
  intro e
  have h := toDigits_len_ge 10 m
  rw [List.map_eq_nil_iff.mp e] at h
  exact absurd h (by decide)
theorem digs_len {k m : Nat} (hk : 1 ≤ k) (h : m < 10 ^ k) : (digs m).length ≤ k := by
  unfold digs
  rw [List.length_map]
  exact digits10_le hk h
theorem sl_neg (m : Nat) : sl (numS (Int.negSucc m)) = 45 :: digs (m + 1) := by
  have e : numS (Int.negSucc m) = Str.ofString ("-" ++ Nat.repr (m + 1)) := rfl
  rw [e]
  show (Str.ofString ("-" ++ Nat.repr (m + 1))).cps.toList = _
  rw [signs_ofString, String.toList_append, List.map_append, Nat.toList_repr]
  rfl
/-- without zeros ahead -/
theorem digs_of {cs : List Nat} (h : NumText.AllDigits cs) (hp : 0 < dv cs) : cs.dropWhile (· == 48) = digs (dv cs) := by
  have e := NumText.toDigits_all cs h
  unfold digs
  show _ = (Nat.toDigits 10 (NumText.digitsVal cs)).map Char.toNat
  rw [e]
  have hmem : ∀ c ∈ cs.dropWhile (· == 48), 48 ≤ c ∧ c ≤ 57 := fun c hc => h c ((List.dropWhile_sublist _).subset hc)
  have hz : cs.dropWhile (· == 48) = [] → dv cs = 0 := fun z => by
    have hv : dv cs = NumText.digitsVal ((Nat.toDigits 10 (NumText.digitsVal cs)).map Char.toNat) := (digs_val _).symm
    rw [e, z] at hv
    exact hv
  generalize cs.dropWhile (· == 48) = l at hmem hz
  cases l with
  | nil => 
    have := hz rfl
    omega
  | cons c r =>
    show c :: r = ((c :: r).map Char.ofNat).map Char.toNat
    rw [List.map_map]
    have : ∀ l : List Nat, (∀ c ∈ l, 48 ≤ c ∧ c ≤ 57) → l = l.map (Char.toNat ∘ Char.ofNat) := fun l => by
      induction l with
      | nil => intro _; rfl
      | cons a l ih =>
        intro hl
        rw [List.map_cons, ← ih fun c hc => hl c (List.mem_cons_of_mem _ hc)]
        congr 1
        obtain ⟨h1, h2⟩ := hl a List.mem_cons_self
        have h3 : ∀ a : Nat, 48 ≤ a → a ≤ 57 → a = (Char.ofNat a).toNat := by
          intro a h1 h2
          have : a = 48 ∨ a = 49 ∨ a = 50 ∨ a = 51 ∨ a = 52 ∨ a = 53 ∨ a = 54 ∨ a = 55 ∨ a = 56 ∨ a = 57 := by omega
          rcases this with e | e | e | e | e | e | e | e | e | e <;> subst e <;> decide
        exact h3 a h1 h2
    exact this _ hmem
/-- a part, filled up to 64 figures -/
theorem zf (p : Nat) (h : p < BASE) : NumText.AllDigits (sl (Txt.zfill (numS (p : Nat)) 64)) ∧ (sl (Txt.zfill (numS (p : Nat)) 64)).length = 64 ∧ dv (sl (Txt.zfill (numS (p : Nat)) 64)) = p := by
  have hl : (numS (p : Nat)).length = (digs p).length := by rw [← sl_len, sl_nat]
  have hle : (digs p).length ≤ 64 := digs_len (by decide) h
  unfold Txt.zfill
  by_cases h64 : (64 : Int) ≤ (numS (p : Nat)).length
  · rw [if_pos h64, sl_nat]
    refine ⟨digs_all p, ?_, digs_val p⟩
    rw [hl] at h64
    omega
  · rw [if_neg h64]
    have hh : sl (numS (p : Nat)) = digs p := sl_nat p
    have hz : zfilled (numS (p : Nat)) ((64 : Int).toNat - (numS (p : Nat)).length) = PySem.Builtin.Str.padded (numS (p : Nat)) ((64 : Int).toNat - (numS (p : Nat)).length) 0 48 := by
      unfold zfilled
      have h0 : (numS (p : Nat)).cps[0]? = (digs p)[0]? := by
        rw [← hh]
        show _ = (numS (p : Nat)).cps.toList[0]?
        rw [Array.getElem?_toList]
      rw [h0]
      have hd := digs_all p
      cases hq : digs p with
      | nil => exact absurd hq (digs_ne p)
      | cons c r =>
        rw [hq] at hd
        have hc := hd.head
        show (match some c with | some 43 | some 45 => _ | _ => _) = _
        split
        · rename_i e
          cases e
          omega
        · rename_i e
          cases e
          omega
        · rfl
    rw [hz, hl]
    have hs : sl (PySem.Builtin.Str.padded (numS (p : Nat)) ((64 : Int).toNat - (digs p).length) 0 48) = List.replicate (64 - (digs p).length) 48 ++ digs p := by
      unfold PySem.Builtin.Str.padded
      show (Array.replicate ((64 : Int).toNat - (digs p).length) 48 ++ (numS (p : Nat)).cps ++ Array.replicate 0 48).toList = _
      rw [Array.toList_append, Array.toList_append]
      show _ ++ sl (numS (p : Nat)) ++ _ = _
      rw [hh]
      simp
    rw [hs]
    refine ⟨fun c hc => ?_, ?_, ?_⟩
    · rcases List.mem_append.mp hc with hc | hc
      · rw [List.eq_of_mem_replicate hc]
        decide
      · exact digs_all p c hc
    · rw [List.length_append, List.length_replicate]
      omega
    · rw [dv_append, digs_val]
      have : ∀ n, dv (List.replicate n 48) = 0 := fun n => by
        induction n with
        | zero => rfl
        | succ n ih =>
          rw [List.replicate_succ, dv_cons, ih]
          omega
      rw [this]
      omega
/-- many parts, side by side -/
theorem parts_val : ∀ (ps : List Nat) (a : Nat), (∀ p ∈ ps, p < BASE) → a * 10 ^ ((ps.map fun p => sl (Txt.zfill (numS (p : Nat)) 64)).flatten).length + dv ((ps.map fun p => sl (Txt.zfill (numS (p : Nat)) 64)).flatten) = ps.foldl (fun a p => a * BASE + p) a
  | [], a, _ => by
    show a * 10 ^ 0 + 0 = a
    omega
  | p :: ps, a, h => by
    obtain ⟨z1, z2, z3⟩ := zf p (h p List.mem_cons_self)
    have ih := parts_val ps (a * BASE + p) fun q hq => h q (List.mem_cons_of_mem _ hq)
    rw [List.map_cons, List.flatten_cons, List.foldl_cons, ← ih, List.length_append, dv_append, z2, z3, Nat.pow_add, Nat.add_mul, ← Nat.add_assoc, ← Nat.mul_assoc]
    rfl
theorem parts_digits (ps : List Nat) (h : ∀ p ∈ ps, p < BASE) : NumText.AllDigits ((ps.map fun p => sl (Txt.zfill (numS (p : Nat)) 64)).flatten) := by
  intro c hc
  obtain ⟨l, hl, hc⟩ := List.mem_flatten.mp hc
  obtain ⟨p, hp, e⟩ := List.mem_map.mp hl
  rw [← e] at hc
  exact (zf p (h p hp)).1 c hc
theorem join_eq (sep : Str) (l : List Str) : Txt.join sep l = Str.join sep l := eq_of_beq (join_plain_closes sep l)
theorem sl_join : ∀ ys : List Str, sl (Txt.join "" ys) = (ys.map sl).flatten
  | [] => by
    show sl (Str.join "" []) = []
    exact sl_empty
  | [y] => by
    show sl (Str.join "" [y]) = _
    simp [Str.join]
  | y :: z :: r => by
    have ih := sl_join (z :: r)
    rw [join_eq]
    have e : Str.join "" (y :: z :: r) = y ++ ("" : Str) ++ Str.join "" (z :: r) := rfl
    rw [e, sl_app, sl_app, sl_empty, List.append_nil]
    have ih2 : sl (Str.join "" (z :: r)) = ((z :: r).map sl).flatten := by rw [← join_eq]; exact ih
    rw [ih2]
    rfl
theorem sl_lstrip (x : Str) : sl (Txt.lstripChars x "0") = (sl x).dropWhile (· == 48) := by
  have hg : (fun c => ("0" : Str).cps.contains c) = (fun c => c == 48) := by
    funext c
    have : ("0" : Str).cps = #[48] := by decide +kernel
    rw [this, Bool.eq_iff_iff]
    simp
  have hc : Txt.lstripChars x ("0" : Str) = PySem.Builtin.Str.strSub x (stripLo (fun c => c == 48) true x) (stripHi (fun c => c == 48) false x (stripLo (fun c => c == 48) true x)) := by
    rw [← hg]
    exact stripBy_eq _ true false x
  rw [hc]
  show (PySem.Builtin.Str.strSub x _ _).cps.toList = _
  rw [PySem.StrLaws.strSub_toList]
  have h1 : stripLo (fun c => c == 48) true x = (x.cps.toList.takeWhile (fun c => c == 48)).length := rfl
  have h2 : stripHi (fun c => c == 48) false x (stripLo (fun c => c == 48) true x) = x.length := rfl
  rw [h2, h1]
  have hl : x.length = x.cps.toList.length := Array.length_toList.symm
  show (x.cps.toList.drop _).take _ = x.cps.toList.dropWhile _
  rw [hl]
  generalize x.cps.toList = l
  have e : l.drop (l.takeWhile (fun c => c == 48)).length = l.dropWhile (fun c => c == 48) := by
    conv => lhs; arg 2; rw [← List.takeWhile_append_dropWhile (p := fun c => c == 48) (l := l)]
    rw [List.drop_left']
    rfl
  rw [e, List.take_of_length_le]
  have e2 := congrArg List.length (List.takeWhile_append_dropWhile (p := fun c => c == 48) (l := l))
  rw [List.length_append] at e2
  omega
end Kg
set_option exponentiation.threshold 100000
namespace Kg
open PySem PySem.Spec PyProof.Rows L2
/-- an integer that is printed without ado, or one that goes by chunks -/
def IntOk (n : Int) : Prop := (n.natAbs.log2 < 1920 ∨ 2000 < Builtin.Int.intBits n) ∧ n.natAbs < 2 ^ 40000
theorem intBits_le {n : Int} {m : Nat} (h : n.natAbs < 2 ^ m) : Builtin.Int.intBits n ≤ m := intBits_le_iff.mpr h
theorem intBits_log {n : Int} (h : ¬ 2000 < Builtin.Int.intBits n) (k : IntOk n) : n.natAbs.log2 < 1920 := k.1.resolve_right h
def spNumText : Sp := fun vs H Q _ => ∃ n : Int, vs = [.int n] ∧ IntOk n ∧ n.natAbs < 2 ^ 8001 ∧ ∀ H', Same H H' → Q (.str (numS n)) H'
theorem scNumText : FnScope ["number", "figures", "part"] ["number"] (defScope sNumText) := ⟨rfl, rfl, rfl, by decide +kernel, rfl, by decide +kernel, by decide +kernel⟩
theorem figures_of {n : Int} (ps : List Nat) (h0 : 0 < n.natAbs) (hp : ∀ p ∈ ps, p < BASE) (hv : vBE BASE ps = n.natAbs) :
    sl (Txt.lstripChars (Txt.join "" (ps.map fun p => Txt.zfill (numS (p : Nat)) 64)) "0") = digs n.natAbs := by
  rw [sl_lstrip, sl_join, List.map_map]
  have e := parts_val ps 0 hp
  rw [Nat.zero_mul, Nat.zero_add] at e
  have e2 : dv ((ps.map fun p => sl (Txt.zfill (numS (p : Nat)) 64)).flatten) = n.natAbs := e.trans hv
  have r := digs_of (parts_digits ps hp) (by rw [e2]; exact h0)
  rw [e2] at r
  exact r
section
variable {P : Program} {w : World} {K : PySem.W.Frag} {mg : Str → Option Value} {base : Heap} {f fC CP : Addr} {fd fdC : FuncData}
theorem ok_numtext (F : FnP K "number_text" "number_text" sNumText f fd) (T : PrT K mg CP) (FC : FnP K "chunks_of" "chunks_of" sChunks fC fdC) (gC : mg "chunks_of" = some (.ref fC)) : FnOk P w K mg base CX0 2 f fd ["number"] spNumText := by
  have GC : FnOk P w K mg base CX0 1 fC fdC ["number"] spChunks := ok_chunks FC T
  have bC : Binds K fdC ["number"] [] := FC.bindsN fun _ _ _ _ _ _ us hl => match us, hl with | [_], _ => rfl
  obtain ⟨t1, gW⟩ := T.gW
  obtain ⟨t2, gK⟩ := T.gC
  refine F.ok scNumText (fun vs H Q E h => ?_) (fun cdv A outer s H vs Q E hr h => ?_)
  · obtain ⟨n, rfl, _⟩ := h
    rfl
  · obtain ⟨n, rfl, hk, hb, k⟩ := h
    refine ⟨_, PSs.nox (pss_cons (ps_if (pt_cmpR op_le (pe_bits (pv 0)) (pgI gW) (nomark _)) (pss_one (ps_ret (pe_callTy call_str_int (by rfl) T.str (by decide +kernel) (pa_cons (pv 0) pa_nil)))) pss_nil)
      (pss_cons (ps_set (i := 1) scNumText.nd rfl (Or.inl rfl) (pe_m1 PySem.F.slot_str_lstrip PySem.F.type_str_lstrip mt_lstripChars (pe_join pe_str
        (pe_lc (own := [("part", 2)]) (g := gName 2) (tt := tYes) rfl scNumText.nd (pi_list (pe_call GC hr rfl gC FC.kp bC .nil pass0 (pa_cons (pe_callB call_abs (by rfl) T.abs (by decide +kernel) (pa_cons (pv 0) pa_nil)) pa_nil)))
          (blkOk_by (own := [("part", 2)]) (N := ["number", "figures", "part"]) (sc := defScope sNumText) (by decide +kernel)) (fun _ _ _ _ _ => pg_name (i := 2) scNumText.nd rfl (Or.inl rfl)) (fun _ _ _ _ _ => pts_nil)
          (fun _ _ _ _ _ => pe_m1 PySem.F.slot_str_zfill PySem.F.type_str_zfill mt_zfill (pe_callTy call_str_int (by rfl) T.str (by decide +kernel) (pa_cons (pv 2) pa_nil)) (pgI gK)))) pe_str))
      (pss_one (ps_ret (pe_ifExp (pt_cmpR op_lt (pv 0) pe_int (nomark _)) (pe_op op_add_str pe_str (pv 1)) (pv 1)))))), ?_⟩
    refine ⟨_, rfl, n, rfl, _, _, rfl, rfl, _, rfl, ?_⟩
    refine ifD (fun h1 => ?_) (fun h1 => ?_)
    · have h2 : ¬ 2000 < Builtin.Int.intBits n := by
        have : Builtin.Int.intBits n ≤ 2000 := by exact_mod_cast h1
        omega
      exact ⟨_, rfl, n, rfl, intBits_log h2 hk, k _ (Same.refl _)⟩
    have n0 : 0 < n.natAbs := by
      refine Nat.pos_of_ne_zero fun z => h1 ?_
      have : n = 0 := Int.natAbs_eq_zero.mp z
      subst this
      decide
    have eabs : (if n < 0 then -n else n) = ((n.natAbs : Nat) : Int) := by split <;> omega
    have small : ∀ q : Nat, q < BASE → ((q : Nat) : Int).natAbs.log2 < 1920 := fun q hq => by
      rw [Int.natAbs_natCast]
      by_cases z : q = 0
      · rw [z]
        decide
      · exact Nat.lt_of_lt_of_le ((Nat.log2_lt z).mpr (Nat.lt_trans hq base_less)) (by decide)
    refine ⟨⟨_, rfl⟩, _, rfl, n, rfl, n.natAbs, by rw [eabs]; rfl, hb, fun H' p ps s1 np hp hlt hv hl => ⟨p, rfl, ⟨_, SqL.of hp⟩, fun D nD => lc_it (walk_list (K := K) (a := p) (xs := ps.map fun q => V.int (q : Nat)))
      (fun i G => Same H' G ∧ G D = some (.lst ((ps.take i).map fun q => V.str (Txt.zfill (numS (q : Nat)) 64)))) ⟨same_upd nD, upd_same⟩ (fun i G _ h => SqL.of (h.1 _ _ hp)) ?_ ?_⟩⟩
    · rintro i v G G2 hi ⟨s2, d2⟩ ⟨rfl, hx⟩
      rw [List.length_map] at hi
      have epi : ps[i]? = some ps[i] := by simp [hi]
      generalize ps[i] = q at epi
      rw [List.getElem?_map, epi] at hx
      cases hx
      refine ⟨rfl, ?_⟩
      refine yesI ?_
      refine ⟨_, rfl, (q : Nat), rfl, small q (hlt q (List.mem_of_getElem? epi)), ⟨_, rfl⟩, _, 64, rfl, rfl, by decide, _, d2, ?_, fun b o hb => ?_, ?_⟩
      · rw [List.length_map, List.length_take]
        exact Nat.lt_of_le_of_lt (show _ ≤ 100 by omega) (by decide)
      · rw [upd_ne (ne_of_none hb nD)]
        exact s2 b o hb
      · rw [upd_same, take_more epi, List.map_append]
        rfl
    · rintro G ⟨s2, d2⟩
      rw [List.length_map, List.take_length] at d2
      have d3 : G D = some (.lst ((ps.map fun q => Txt.zfill (numS (q : Nat)) 64).map V.str)) := by rw [d2, List.map_map]; rfl
      have hfig := figures_of ps n0 hlt hv
      have hlens : ∀ l : List Nat, (∀ q ∈ l, q < BASE) → ((l.map fun q => Txt.zfill (numS (q : Nat)) 64).map (·.length)).sum = 64 * l.length := fun l => by
        induction l with
        | nil => intro _; rfl
        | cons a l ih =>
          intro hq
          have e1 : (Txt.zfill (numS (a : Nat)) 64).length = 64 := by rw [← sl_len]; exact (zf a (hq a List.mem_cons_self)).2.1
          rw [List.map_cons, List.map_cons, List.sum_cons, ih fun q h => hq q (List.mem_cons_of_mem _ h), e1, List.length_cons]
          omega
      have hjl : (Txt.join "" (ps.map fun q => Txt.zfill (numS (q : Nat)) 64)).length = 64 * ps.length := by
        rw [← sl_len, sl_join, List.length_flatten, List.map_map, ← hlens ps hlt, List.map_map, List.map_map]
        congr 1
      generalize hJ : Txt.join "" (ps.map fun q => Txt.zfill (numS (q : Nat)) 64) = J at hfig hjl
      refine ⟨"", D, ps.map fun q => Txt.zfill (numS (q : Nat)) 64, rfl, rfl, .inl (SqL.of d3), ?_, ⟨_, rfl⟩, J, "0", by rw [hJ], rfl, ?_, ?_⟩
      · rw [hlens ps hlt]
        show 64 * ps.length + _ * 0 ≤ _
        omega
      · exact Nat.le_trans (show J.length ≤ 6400 by omega) (by decide)
      have sG : Same H G := s1.trans s2
      have lenF : (Txt.lstripChars J "0").length ≤ 6400 := by
        rw [← sl_len, sl_lstrip]
        exact Nat.le_trans (List.dropWhile_sublist _).length_le (by rw [sl_len]; omega)
      refine ⟨_, rfl, _, _, rfl, rfl, _, rfl, ?_⟩
      refine ifD (fun hneg => ?_) (fun hneg => ?_)
      · obtain ⟨m, rfl⟩ : ∃ m, n = Int.negSucc m := by
          cases n with
          | ofNat m => exact absurd hneg (by show ¬ ((m : Nat) : Int) < 0; omega)
          | negSucc m => exact ⟨m, rfl⟩
        refine ⟨_, rfl, "-", _, rfl, rfl, (by show 1 + (Txt.lstripChars J "0").length ≤ sizeLine; exact Nat.le_trans (show _ ≤ 6401 by omega) (by decide)), ?_⟩
        have e : ("-" : Str) ++ Txt.lstripChars J "0" = numS (Int.negSucc m) := sl_inj (by
          rw [sl_app, hfig, sl_neg]
          have : sl "-" = [45] := by decide +kernel
          rw [this]
          rfl)
        rw [e]
        exact k _ sG
      · obtain ⟨m, rfl⟩ : ∃ m : Nat, n = (m : Int) := by
          cases n with
          | ofNat m => exact ⟨m, rfl⟩
          | negSucc m => exact absurd (Int.negSucc_lt_zero m) hneg
        refine ⟨_, rfl, ?_⟩
        have e : Txt.lstripChars J "0" = numS (m : Nat) := sl_inj (by
          rw [hfig, sl_nat, Int.natAbs_natCast])
        rw [e]
        exact k _ sG
end
end Kg
set_option exponentiation.threshold 100000
namespace Kg
open PySem PySem.Spec PyProof.Rows L2
def mV (mo : Bool) : V := if mo then .int 2000 else .non
def spOneText : Sp := fun vs H Q _ => (∃ s mo, vs = [.str s, mV mo] ∧ Q (.str s) H) ∨ (∃ n mo, vs = [.int n, mV mo] ∧ IntOk n ∧ (mo = false → n.natAbs < 2 ^ 8001) ∧ ∀ H', Same H H' → Q (if (mo && decide (8000 < Builtin.Int.intBits n)) = true then .non else .str (numS n)) H')
theorem scSingle : FnScope ["thing", "most"] ["thing", "most"] (defScope sSingleText) := ⟨rfl, rfl, rfl, by decide +kernel, rfl, by decide +kernel, by decide +kernel⟩
theorem scWithin : FnScope ["datum", "most", "texts", "signs", "tails", "thing", "text", "single", "behind"] ["datum", "most"] (defScope sTextWithin) := ⟨rfl, rfl, rfl, by decide +kernel, rfl, by decide +kernel, by decide +kernel⟩
/-- a datum that can be printed -/
def OkD (mo : Bool) : D → Prop
  | .int n => IntOk n ∧ (mo = false → n.natAbs < 2 ^ 8001)
  | .str s => 1 ≤ s.length ∧ s.length ≤ 10000
  | .pair a b => OkD mo a ∧ OkD mo b
def OkO (mo : Bool) : Option D → Prop
  | none => True
  | some d => OkD mo d
theorem ok_emp (mo : Bool) : OkD mo EMP := ⟨by decide, by decide⟩
def isEmp : D → Bool
  | .str s => decide (s = ("()" : Str))
  | _ => false
def sz : Bool → D → Nat
  | false, .int _ => 1
  | false, .str _ => 1
  | false, .pair a b => 1 + (sz false a + sz true b)
  | true, .int _ => 3
  | true, .str s => if s = ("()" : Str) then 1 else 3
  | true, .pair a b => 1 + (sz false a + sz true b)
def szL : List D → Nat
  | [] => 0
  | t :: ts => sz true t + szL ts
def szO : Option D → Nat
  | none => 0
  | some d => sz false d
theorem behind_sz : ∀ ts : List D, szO (behind ts).2.1 + szL (behind ts).2.2 ≤ szL ts
  | [] => Nat.le_refl _
  | .pair h t :: ts => by
    show sz false h + (sz true t + szL ts) ≤ 1 + (sz false h + sz true t) + szL ts
    omega
  | .int i :: ts => by
    show 1 + (sz true EMP + szL ts) ≤ 3 + szL ts
    have : sz true EMP = 1 := rfl
    omega
  | .str s :: ts => by
    have ih := behind_sz ts
    by_cases h : s = ("()" : Str)
    · have e : behind (.str s :: ts) = ((")" : Str) ++ (behind ts).1, (behind ts).2) := by
        conv => lhs; unfold behind
        rw [if_pos h]
      rw [e]
      show szO (behind ts).2.1 + szL (behind ts).2.2 ≤ sz true (.str s) + szL ts
      omega
    · have e : behind (.str s :: ts) = ((" . " : Str), some (D.str s), EMP :: ts) := by
        conv => lhs; unfold behind
        rw [if_neg h]
      rw [e]
      show 1 + (sz true EMP + szL ts) ≤ sz true (.str s) + szL ts
      have h1 : sz true EMP = 1 := rfl
      have h2 : sz true (.str s) = 3 := if_neg h
      omega
theorem behind_okD (mo : Bool) : ∀ ts : List D, (∀ t ∈ ts, OkD mo t) → OkO mo (behind ts).2.1 ∧ ∀ t ∈ (behind ts).2.2, OkD mo t
  | [], _ => ⟨True.intro, fun t h => by cases h⟩
  | .pair h t :: ts, q => by
    have q0 := q _ List.mem_cons_self
    exact ⟨q0.1, fun u hu => by
      rcases List.mem_cons.mp hu with e | hu
      · rw [e]
        exact q0.2
      · exact q u (List.mem_cons_of_mem _ hu)⟩
  | .int i :: ts, q => ⟨q (.int i) List.mem_cons_self, fun u hu => by
      rcases List.mem_cons.mp hu with e | hu
      · rw [e]
        exact ok_emp mo
      · exact q u (List.mem_cons_of_mem _ hu)⟩
  | .str s :: ts, q => by
    have ih := behind_okD mo ts fun u hu => q u (List.mem_cons_of_mem _ hu)
    by_cases h : s = ("()" : Str)
    · have e : behind (.str s :: ts) = ((")" : Str) ++ (behind ts).1, (behind ts).2) := by
        conv => lhs; unfold behind
        rw [if_pos h]
      rw [e]
      exact ih
    · have e : behind (.str s :: ts) = ((" . " : Str), some (D.str s), EMP :: ts) := by
        conv => lhs; unfold behind
        rw [if_neg h]
      rw [e]
      exact ⟨q (.str s) List.mem_cons_self, fun u hu => by
        rcases List.mem_cons.mp hu with e | hu
        · rw [e]
          exact ok_emp mo
        · exact q u (List.mem_cons_of_mem _ hu)⟩
theorem behind_len : ∀ ts : List D, (behind ts).1.length ≤ ts.length + 3
  | [] => Nat.zero_le _
  | .pair h t :: ts => by
    show 1 ≤ _
    omega
  | .int i :: ts => by
    show 3 ≤ _
    omega
  | .str s :: ts => by
    have ih := behind_len ts
    by_cases h : s = ("()" : Str)
    · have e : behind (.str s :: ts) = ((")" : Str) ++ (behind ts).1, (behind ts).2) := by
        conv => lhs; unfold behind
        rw [if_pos h]
      rw [e]
      show ((")" : Str) ++ (behind ts).1).length ≤ _
      rw [← sl_len, sl_app, List.length_append, sl_rp, sl_len, List.length_cons]
      show 1 + _ ≤ _
      omega
    · have e : behind (.str s :: ts) = ((" . " : Str), some (D.str s), EMP :: ts) := by
        conv => lhs; unfold behind
        rw [if_neg h]
      rw [e]
      show 3 ≤ _
      omega
theorem numS_len {n : Int} {k : Nat} (hk : 1 ≤ k) (h : n.natAbs < 10 ^ k) : (numS n).length ≤ k + 1 := by
  rw [← sl_len]
  cases n with
  | ofNat m =>
    have := digs_len hk (show m < 10 ^ k from h)
    show (sl (numS (m : Nat))).length ≤ _
    rw [sl_nat]
    omega
  | negSucc m =>
    have := digs_len hk (show m + 1 < 10 ^ k from h)
    rw [sl_neg, List.length_cons]
    omega
theorem numS_pos (n : Int) : 1 ≤ (numS n).length := by
  rw [← sl_len]
  cases n with
  | ofNat m =>
    show 1 ≤ (sl (numS (m : Nat))).length
    rw [sl_nat]
    exact List.length_pos_iff.mpr (digs_ne m)
  | negSucc m =>
    rw [sl_neg, List.length_cons]
    omega
theorem numS_great {n : Int} (h : 8000 < Builtin.Int.intBits n) : 2000 < (numS n).length := by
  have h1 : ¬ n.natAbs < 2 ^ 8000 := fun z => by
    have := intBits_le z
    omega
  have h2 : (10 : Nat) ^ 2001 ≤ 2 ^ 8000 := by decide +kernel
  have h3 : 10 ^ 2001 ≤ n.natAbs := by omega
  have h4 : ∀ m : Nat, 10 ^ 2001 ≤ m → 2002 ≤ (digs m).length := fun m hm => by
    unfold digs
    rw [List.length_map]
    exact digits10_ge hm
  rw [← sl_len]
  cases n with
  | ofNat m =>
    show _ < (sl (numS (m : Nat))).length
    rw [sl_nat]
    exact Nat.lt_of_lt_of_le (by decide) (h4 m h3)
  | negSucc m =>
    rw [sl_neg, List.length_cons]
    have := h4 (m + 1) h3
    omega
theorem PSs.imp {X : Cx} {l : List Stmt} {t t' : TS} (h : PSs X l t) (i : ∀ D σ H, t' D σ H → t D σ H) : PSs X l t' := ⟨fun pins s σ H D I hw => h.run pins s σ H D I (i _ _ _ hw)⟩
/-- the end of a turn: the text is counted and laid to the others -/
def tAcc (mo : Bool) : TS := fun D σ H => ∃ (v tv : V) (lt ll : Addr) (ys : List Str) (n : Nat) (x : Str) (b c : Option V), σ = [some v, some (mV mo), some (.ref lt), some (.int (n : Nat)), some (.ref ll), some tv, some (.str x), b, c] ∧ H lt = some (.lst (ys.map V.str)) ∧ ys.length ≤ 3000000 ∧ x.length ≤ 3000000 ∧
  (mo = true → 2000 < n + x.length → D.rt .non H) ∧ (¬ (mo = true ∧ 2000 < n + x.length) → D.nx [some v, some (mV mo), some (.ref lt), some (.int ((n + x.length : Nat) : Int)), some (.ref ll), some tv, some (.str x), b, c] (upd H lt (.lst ((ys ++ [x]).map V.str))))
/-- what is printed; none if it is too long -/
def outV (mo : Bool) (d : D) : V := if mo = true ∧ 2000 < (txt false d).length then .non else .str ⟨(txt false d).toArray⟩
def spWithin (CP : Addr) : Sp := fun vs H Q _ => ∃ (v : V) (d : D) (mo : Bool), vs = [v, mV mo] ∧ DR CP H v d ∧ OkD mo d ∧ (mo = false → (txt false d).length ≤ 900000) ∧ ∀ H', Same H H' → Q (outV mo d) H'
theorem OptR.keep {CP : Addr} {H H' : Hp} (k : KeepP CP H H') {v : V} : ∀ {o : Option D}, OptR CP H v o → OptR CP H' v o
  | none, h => h
  | some _, h => DR.keep k h
structure WI (CP lt ll : Addr) (H : Hp) (d : D) (mo : Bool) (G : Hp) (ys : List Str) (us : List V) (ts : List D) (od : Option D) (tv : V) : Prop where
  same : Same H G
  hlt : G lt = some (.lst (ys.map V.str))
  hll : G ll = some (.lst us.reverse)
  ne : lt ≠ ll
  nlt : H lt = none
  nll : H ll = none
  tv : OptR CP G tv od
  tails : Paired (DR CP G) us ts
  ok : OkO mo od
  oks : ∀ t ∈ ts, OkD mo t
  txt : (ys.map sl).flatten ++ (afterL od ++ rest ts) = txt false d
  fin : od = none → ts = []
  ly : ys.length ≤ ((ys.map sl).flatten).length
  lu : us.length ≤ ((ys.map sl).flatten).length
  lim : mo = true → ((ys.map sl).flatten).length ≤ 2000
theorem WI.turn {CP lt ll : Addr} {H G G3 : Hp} {d : D} {mo : Bool} {ys : List Str} {us us2 : List V} {ts ts2 : List D} {od od2 : Option D} {tv tv2 : V} {x : Str} (I : WI CP lt ll H d mo G ys us ts od tv)
    (hx : 1 ≤ x.length) (s3 : Same H G3) (h1 : G3 lt = some (.lst (ys.map V.str))) (h2 : G3 ll = some (.lst us2.reverse)) (h3 : OptR CP G3 tv2 od2) (h4 : Paired (DR CP G3) us2 ts2) (h5 : OkO mo od2) (h6 : ∀ t ∈ ts2, OkD mo t)
    (h7 : afterL od ++ rest ts = sl x ++ (afterL od2 ++ rest ts2)) (h8 : od2 = none → ts2 = []) (h9 : us2.length ≤ us.length + 1) :
    (mo = true → 2000 < ((ys.map sl).flatten).length + x.length → outV mo d = .non) ∧
    (¬ (mo = true ∧ 2000 < ((ys.map sl).flatten).length + x.length) → WI CP lt ll H d mo (upd G3 lt (.lst ((ys ++ [x]).map V.str))) (ys ++ [x]) us2 ts2 od2 tv2 ∧ (((ys ++ [x]).map sl).flatten).length = ((ys.map sl).flatten).length + x.length) := by
  have ht := I.txt
  rw [h7, ← List.append_assoc] at ht
  have el : (((ys ++ [x]).map sl).flatten) = (ys.map sl).flatten ++ sl x := by simp
  have el2 : (((ys ++ [x]).map sl).flatten).length = ((ys.map sl).flatten).length + x.length := by rw [el, List.length_append, sl_len]
  refine ⟨fun hm hl => ?_, fun hn => ⟨?_, el2⟩⟩
  · unfold outV
    refine if_pos ⟨hm, ?_⟩
    rw [← ht, List.length_append, List.length_append, sl_len]
    omega
  · have k := keep_l (CP := CP) h1 (H' := upd G3 lt (.lst ((ys ++ [x]).map V.str))) fun b o hb q => by rw [upd_ne hb]; exact q
    refine ⟨fun b o q => ?_, upd_same, ?_, I.ne, I.nlt, I.nll, h3.keep k, paired_imp (fun a b q => q.keep k) h4, h5, h6, ?_, h8, ?_, ?_, fun hm => ?_⟩
    · rw [upd_ne (ne_of_none q I.nlt)]
      exact s3 b o q
    · rw [upd_ne (Ne.symm I.ne)]
      exact h2
    · rw [el]
      exact ht
    · rw [el2, List.length_append]
      have := I.ly
      show _ + 1 ≤ _
      omega
    · rw [el2]
      have := I.lu
      omega
    · rw [el2]
      refine Decidable.byContradiction fun z => hn ⟨hm, by omega⟩
theorem WI.len {CP lt ll : Addr} {H G : Hp} {d : D} {mo : Bool} {ys : List Str} {us : List V} {ts : List D} {od : Option D} {tv : V} (I : WI CP lt ll H d mo G ys us ts od tv) (hlim : mo = false → (Kg.txt false d).length ≤ 900000) : ((ys.map sl).flatten).length ≤ 900000 := by
  cases mo with
  | true =>
    have := I.lim rfl
    omega
  | false =>
    have h := hlim rfl
    rw [← I.txt, List.length_append] at h
    omega
section
variable {P : Program} {w : World} {K : PySem.W.Frag} {mg : Str → Option Value} {base : Heap} {f fC fN fS fB CP : Addr} {fd fdC fdN fdS fdB : FuncData}
theorem ok_single_text (F : FnP K "single_text" "single_text" sSingleText f fd) (T : PrT K mg CP) (FN : FnP K "number_text" "number_text" sNumText fN fdN) (gN : mg "number_text" = some (.ref fN)) (FC : FnP K "chunks_of" "chunks_of" sChunks fC fdC) (gC : mg "chunks_of" = some (.ref fC)) :
    FnOk P w K mg base CX0 3 f fd ["thing", "most"] spOneText := by
  have GN : FnOk P w K mg base CX0 2 fN fdN ["number"] spNumText := ok_numtext FN T FC gC
  have bN : Binds K fdN ["number"] [] := FN.bindsN fun _ _ _ _ _ _ us hl => match us, hl with | [_], _ => rfl
  refine F.ok scSingle (fun vs H Q E h => ?_) (fun cdv A outer s H vs Q E hr h => ?_)
  · rcases h with ⟨s, mo, rfl, _⟩ | ⟨n, mo, rfl, _⟩ <;> rfl
  · refine ⟨_, PSs.nox (pss_cons (ps_if (pt_val (pe_callB call_isi (by rfl) T.isi (by decide +kernel) (pa_cons (pv 0) (pa_cons (pe_bltn (v := .ty "str") rfl T.str (by decide +kernel) rfl) pa_nil)))) (pss_one (ps_ret (pv 0))) pss_nil)
      (pss_cons (ps_if (pt_not (pt_val (pe_callB call_isi (by rfl) T.isi (by decide +kernel) (pa_cons (pv 0) (pa_cons (pe_bltn (v := .ty "int") rfl T.int (by decide +kernel) rfl) pa_nil))))) (pss_one ps_never) pss_nil)
      (pss_cons (ps_if (PW.pt (pw_and (pt_cmpR op_notN (pv 1) pe_non (nomark _)) (pw_and1 (pt_cmpR op_gt (pe_bits (pv 0)) (pe_op op_mul pe_int (pv 1)) (nomark _))))) (pss_one (ps_ret pe_non)) pss_nil)
      (pss_one (ps_ret (pe_call GN hr rfl gN FN.kp bN .nil pass0 (pa_cons (pv 0) pa_nil))))))), ?_⟩
    rcases h with ⟨x, mo, rfl, k⟩ | ⟨n, mo, rfl, h1, h2, k⟩
    · refine ⟨_, rfl, .str x, .ty "str", .type "str", .type "str", true, rfl, .ty _, .base (.str x), kit_ty (by decide +kernel), _, rfl, ?_⟩
      exact iteT ⟨_, rfl, k⟩
    · refine ⟨_, rfl, .int n, .ty "str", .type "int", .type "str", false, rfl, .ty _, .base (.int n), kit_ty (by decide +kernel), _, rfl, ?_⟩
      refine iteF ?_
      refine ⟨_, rfl, .int n, .ty "int", .type "int", .type "int", true, rfl, .ty _, .base (.int n), kit_ty (by decide +kernel), _, rfl, ?_⟩
      refine iteF ?_
      cases mo with
      | false =>
        refine ⟨_, rfl, rfl, _, rfl, ?_⟩
        refine iteF ?_
        exact ⟨_, rfl, n, rfl, h1, h2 rfl, k⟩
      | true =>
        refine ⟨_, rfl, rfl, _, rfl, ?_⟩
        refine iteT ?_
        refine ⟨_, rfl, n, rfl, _, rfl, _, _, rfl, rfl, .inl ⟨by decide, by decide⟩, _, _, rfl, rfl, _, rfl, ?_⟩
        refine ifD (fun z => ?_) (fun z => ?_)
        · have z2 : ((Builtin.Int.intBits n : Nat) : Int) > 4 * 2000 := z
          have e : (true && decide (8000 < Builtin.Int.intBits n)) = true := by rw [Bool.true_and, decide_eq_true (by omega)]
          have kk := k H (Same.refl _)
          rw [if_pos e] at kk
          exact kk
        · have z2 : ¬ ((Builtin.Int.intBits n : Nat) : Int) > 4 * 2000 := z
          have e : ¬ (true && decide (8000 < Builtin.Int.intBits n)) = true := by
            rw [Bool.true_and, decide_eq_false (by omega)]
            decide
          have h3 : n.natAbs < 2 ^ 8000 := intBits_le_iff.mp (by omega)
          refine ⟨_, rfl, n, rfl, h1, Nat.lt_of_lt_of_le h3 (Nat.pow_le_pow_right (by decide) (by decide)), fun H' s1 => ?_⟩
          have kk := k H' s1
          rw [if_neg e] at kk
          exact kk
theorem ok_within (F : FnP K "text_within" "text_within" sTextWithin f fd) (T : PrT K mg CP) (FN : FnP K "number_text" "number_text" sNumText fN fdN) (gN : mg "number_text" = some (.ref fN)) (FC : FnP K "chunks_of" "chunks_of" sChunks fC fdC) (gC : mg "chunks_of" = some (.ref fC))
    (FS : FnP K "single_text" "single_text" sSingleText fS fdS) (gS : mg "single_text" = some (.ref fS)) (FB : FnP K "text_behind" "text_behind" sTextBehind fB fdB) (gB : mg "text_behind" = some (.ref fB)) :
    FnOk P w K mg base CX0 4 f fd ["datum", "most"] (spWithin CP) := by
  have GS : FnOk P w K mg base CX0 3 fS fdS ["thing", "most"] spOneText := ok_single_text FS T FN gN FC gC
  have GB : FnOk P w K mg base CX0 1 fB fdB ["tails"] (spBehind CP) := ok_behind FB T
  have bS : Binds K fdS ["thing", "most"] [] := FS.bindsN fun _ _ _ _ _ _ us hl => match us, hl with | [_, _], _ => rfl
  have bB : Binds K fdB ["tails"] [] := FB.bindsN fun _ _ _ _ _ _ us hl => match us, hl with | [_], _ => rfl
  refine F.ok scWithin (fun vs H Q E h => ?_) (fun cdv A outer s H vs Q E hr h => ?_)
  · obtain ⟨v, d, mo, rfl, _⟩ := h
    rfl
  · obtain ⟨v, d, mo, rfl, rd, okd, hlim, k⟩ := h
    have hr1 : Room 1 _ := hr.mono (by decide)
    refine ⟨_, PSs.nox (pss_cons (ps_set (i := 2) scWithin.nd rfl (Or.inl rfl) (pe_lst pa_nil))
      (pss_cons (ps_set (i := 3) scWithin.nd rfl (Or.inl rfl) pe_int)
      (pss_cons (ps_set (i := 4) scWithin.nd rfl (Or.inl rfl) (pe_lst pa_nil))
      (pss_cons (ps_set (i := 5) scWithin.nd rfl (Or.inl rfl) (pv 0))
      (pss_cons (ps_while PassesOwn.never (pt_cmpR op_notN (pv 5) pe_non (nomark _))
        (pss_cons (ps_if (pt_isPair T rfl (pv 5))
            (pss_cons (ps_set (i := 6) scWithin.nd rfl (Or.inl rfl) pe_str)
            (pss_cons (ps_expr (pe_bm PySem.F.plainAttrs_list PySem.F.slot_list_append PySem.F.type_list_append mt_append (pv 4) (pa_cons (pe_fld (pv 5) rfl) pa_nil)))
            (pss_one (ps_set (i := 5) scWithin.nd rfl (Or.inl rfl) (pe_fld (pv 5) rfl)))))
            (pss_cons (ps_set (i := 7) scWithin.nd rfl (Or.inl rfl) (pe_call GS hr rfl gS FS.kp bS .nil pass0 (pa_cons (pv 5) (pa_cons (pv 1) pa_nil))))
              (pss_cons (ps_if (pt_cmpR op_isN (pv 7) pe_non (nomark _)) (pss_one (ps_ret pe_non)) pss_nil)
              (pss_cons (ps_asg (pe_call GB hr1 rfl gB FB.kp bB .nil pass0 (pa_cons (pv 4) pa_nil)) (pg_tup rfl (pgs_cons (pg_name (i := 8) scWithin.nd rfl (Or.inl rfl)) (pgs_cons (pg_name (i := 5) scWithin.nd rfl (Or.inl rfl)) pgs_nil))))
              (pss_one (ps_set (i := 6) scWithin.nd rfl (Or.inl rfl) (pe_op op_add_str (pv 7) (pv 8))))))))
          (PSs.imp (t' := tAcc mo) (pss_cons (ps_aug (i := 3) scWithin.nd rfl (Or.inl rfl) (pe_callB call_len_str (by rfl) T.len PySem.boot_len (pa_cons (pv 6) pa_nil)) ip_add)
            (pss_cons (ps_if (PW.pt (pw_and (pt_cmpR op_notN (pv 1) pe_non (nomark _)) (pw_and1 (pt_cmpR op_gt (pv 3) (pv 1) (nomark _))))) (pss_one (ps_ret pe_non)) pss_nil)
            (pss_one (ps_expr (pe_bm PySem.F.plainAttrs_list PySem.F.slot_list_append PySem.F.type_list_append mt_append (pv 2) (pa_cons (pv 6) pa_nil)))))) (by
              intro D σ H ⟨v, tv, lt, ll, ys, n, x, b, c, e, h1, h2, h3, h4, h5⟩
              subst e
              refine ⟨_, rfl, _, rfl, _, rfl, Nat.le_trans h3 (by decide), _, _, rfl, rfl, ?_⟩
              have en : ((n : Nat) : Int) + ((x.length : Nat) : Int) = ((n + x.length : Nat) : Int) := rfl
              have last : ¬ (mo = true ∧ 2000 < n + x.length) → tDrop (tBM K "list" rAppend (tVar 2) (tCons (tVar 6) tNil)) D [some v, some (mV mo), some (.ref lt), some (.int (((n : Nat) : Int) + ((x.length : Nat) : Int))), some (.ref ll), some tv, some (.str x), b, c] H := fun z => by
                refine ⟨_, rfl, .inl ⟨rfl, _, SqL.of h1⟩, _, rfl, lt, _, _, rfl, rfl, h1, ?_, ?_⟩
                · rw [List.length_map]
                  exact Nat.lt_of_le_of_lt h2 (by decide)
                · have := h5 z
                  rw [List.map_append] at this
                  exact this
              cases mo with
              | false =>
                refine ⟨_, rfl, rfl, _, rfl, ?_⟩
                refine iteF ?_
                exact last fun z => by cases z.1
              | true =>
                refine ⟨_, rfl, rfl, _, rfl, ?_⟩
                refine iteT ?_
                refine ⟨_, rfl, _, rfl, _, _, rfl, rfl, _, rfl, ?_⟩
                refine ifD (fun z => ?_) (fun z => ?_)
                · have z2 : ((n : Nat) : Int) + ((x.length : Nat) : Int) > 2000 := z
                  exact h4 rfl (by omega)
                · exact last fun q => z (show ((n : Nat) : Int) + ((x.length : Nat) : Int) > 2000 by have := q.2; omega)))))
      (pss_one (ps_ret (pe_join pe_str (pv 2))))))))), ?_⟩
    refine ⟨Nat.zero_le _, fun lt nlt => ?_⟩
    refine ⟨Nat.zero_le _, fun ll nll => ?_⟩
    have nll0 : H ll = none := free_of nll
    have ne : lt ≠ ll := fun z => by rw [z, upd_same] at nll; cases nll
    refine ⟨_, rfl, ?_⟩
    have s0 : Same H (upd (upd H lt (.lst [])) ll (.lst [])) := (same_upd nlt).trans (same_upd nll)
    have I0 : WI CP lt ll H d mo (upd (upd H lt (.lst [])) ll (.lst [])) [] [] [] (some d) v :=
      ⟨s0, by rw [upd_ne ne]; exact upd_same, upd_same, ne, nlt, nll0, DR.keep (Same.keepP s0) rd, .nil, okd, fun t h => (by cases h), by simp [afterL, rest], fun z => (by cases z), Nat.le_refl _, Nat.le_refl _, fun _ => Nat.zero_le _⟩
    refine ⟨fun m σ G => ∃ ys us ts od tv a b c, σ = [some v, some (mV mo), some (.ref lt), some (.int (((ys.map sl).flatten).length : Nat)), some (.ref ll), some tv, a, b, c] ∧ WI CP lt ll H d mo G ys us ts od tv ∧ m = szO od + szL ts, ⟨_, [], [], [], some d, v, none, none, none, rfl, I0, rfl⟩, ?_⟩
    rintro m σ G ⟨ys, us, ts, od, tv, a, b, c, rfl, I, rfl⟩
    have hlen := I.len hlim
    have hly := I.ly
    have hlu := I.lu
    refine ⟨_, rfl, rfl, _, rfl, ?_⟩
    cases od with
    | none =>
      have etv : tv = .non := I.tv
      subst etv
      refine iteF ?_
      have ets := I.fin rfl
      subst ets
      have ht := I.txt
      have ht2 : (ys.map sl).flatten = txt false d := by
        rw [← ht]
        simp [afterL, rest]
      refine ⟨⟨_, rfl⟩, _, rfl, "", lt, ys, rfl, rfl, .inl (SqL.of I.hlt), ?_, ?_⟩
      · have e : (ys.map (·.length)).sum = ((ys.map sl).flatten).length := by
          rw [List.length_flatten, List.map_map]
          congr 1
        rw [e]
        show _ + _ * 0 ≤ _
        omega
      · have e : outV mo d = .str (Txt.join "" ys) := by
          unfold outV
          rw [if_neg (fun z => by have := I.lim z.1; rw [ht2] at this; omega)]
          congr 1
          refine sl_inj ?_
          rw [sl_join, ht2]
          rfl
        have := k G I.same
        rw [e] at this
        exact this
    | some d1 =>
      have rd1 : DR CP G tv d1 := I.tv
      have ok1 : OkD mo d1 := I.ok
      have atom : ∀ (x : Str), 1 ≤ x.length → x.length ≤ 20000 → sl x = txt false d1 → szO (some d1) = 1 → ∀ (G1 G2 : Hp) (us2 : List V) (vf : V) (T1 : Addr), Same G G1 → (∀ b o, b ≠ ll → G1 b = some o → G2 b = some o) → G2 ll = some (.lst us2.reverse) → Paired (DR CP G2) us2 (behind ts).2.2 → us2.length ≤ us.length + 1 → OptR CP G2 vf (behind ts).2.1 →
          tAcc mo { nx := fun σ' G' => ∃ m', m' < szO (some d1) + szL ts ∧ ∃ ys us ts od tv a b c, σ' = [some v, some (mV mo), some (.ref lt), some (.int (((ys.map sl).flatten).length : Nat)), some (.ref ll), some tv, a, b, c] ∧ WI CP lt ll H d mo G' ys us ts od tv ∧ m' = szO od + szL ts, rt := Q }
            [some v, some (mV mo), some (.ref lt), some (.int (((ys.map sl).flatten).length : Nat)), some (.ref ll), some vf, some (.str (x ++ (behind ts).1)), some (.str x), some (.str (behind ts).1)] G2 := by
        intro x hx hx2 ex e1 G1 G2 us2 vf T1 s3 kp0 h1 h2 h3 h4
        have kp : ∀ b o, b ≠ ll → G b = some o → G2 b = some o := fun b o hb q => kp0 b o hb (s3 b o q)
        have nl2 : G2 lt = some (.lst (ys.map V.str)) := kp _ _ I.ne I.hlt
        have hb := behind_ok ts
        have hlb := behind_len ts
        have hts := Paired.length I.tails
        have xl : (x ++ (behind ts).1).length = x.length + (behind ts).1.length := by rw [← sl_len, sl_app, List.length_append, sl_len, sl_len]
        have ok2 := behind_okD mo ts I.oks
        obtain ⟨t1, t2⟩ := I.turn (x := x ++ (behind ts).1) (by omega) (fun b o q => kp b o (ne_of_none q nll0) (I.same b o q)) nl2 h1 h4 h2 ok2.1 ok2.2 (by
          show txt false d1 ++ rest ts = _
          rw [sl_app, ex, hb.1]
          simp [List.append_assoc]) hb.2 h3
        refine ⟨v, vf, lt, ll, ys, _, x ++ (behind ts).1, _, _, rfl, nl2, by omega, by omega, fun hm hl => ?_, fun hn => ?_⟩
        · have := t1 hm hl
          have kq := k G2 (fun b o q => kp b o (ne_of_none q nll0) (I.same b o q))
          rw [this] at kq
          exact kq
        · obtain ⟨w1, w2⟩ := t2 hn
          have hz := behind_sz ts
          refine ⟨_, ?_, ys ++ [x ++ (behind ts).1], us2, _, _, vf, _, _, _, by rw [w2], w1, rfl⟩
          rw [e1]
          omega
      have etv : (!decide (tv = V.non)) = true := by cases rd1 <;> rfl
      rw [etv]
      refine iteT ⟨fun σ' G' => ∃ m', m' < szO (some d1) + szL ts ∧ ∃ ys us ts od tv a b c, σ' = [some v, some (mV mo), some (.ref lt), some (.int (((ys.map sl).flatten).length : Nat)), some (.ref ll), some tv, a, b, c] ∧ WI CP lt ll H d mo G' ys us ts od tv ∧ m' = szO od + szL ts, fun _ _ h => h, ?_⟩
      refine ⟨_, _, rfl, rd1, ?_⟩
      cases rd1 with
      | str z =>
        refine iteF ?_
        refine ⟨_, rfl, _, rfl, .inl ⟨z, mo, rfl, ?_⟩⟩
        refine ⟨_, rfl, rfl, _, rfl, ?_⟩
        refine iteF ?_
        refine ⟨_, rfl, ll, us, ts, rfl, I.hll, I.tails, by omega, fun G2 T1 us2 vf kp hl2 hp2 hln nT hT ho => ?_⟩
        refine ⟨T1, _, rfl, SqT.of hT, rfl, _, _, rfl, _, _, rfl, rfl, ?_⟩
        have hlb := behind_len ts
        have hts := Paired.length I.tails
        refine ⟨_, rfl, _, rfl, z, _, rfl, rfl, Nat.le_trans (show _ ≤ 1000000 by have := ok1.2; omega) (by decide), ?_⟩
        exact atom z ok1.1 (by have := ok1.2; omega) rfl rfl G G2 us2 vf T1 (Same.refl _) kp hl2 hp2 hln ho
      | int n =>
        refine iteF ?_
        refine ⟨_, rfl, _, rfl, .inr ⟨n, mo, rfl, ok1.1, ok1.2, fun G1 s1 => ?_⟩⟩
        by_cases hg : mo = true ∧ 8000 < Builtin.Int.intBits n
        · have eg : (mo && decide (8000 < Builtin.Int.intBits n)) = true := by rw [hg.1, decide_eq_true hg.2]; rfl
          rw [if_pos eg]
          refine ⟨_, rfl, rfl, _, rfl, ?_⟩
          refine iteT ?_
          have e : outV mo d = .non := by
            unfold outV
            refine if_pos ⟨hg.1, ?_⟩
            have h1 := numS_great hg.2
            have h2 := I.txt
            rw [← h2]
            show 2000 < (_ ++ (sl (numS n) ++ rest ts)).length
            rw [List.length_append, List.length_append, sl_len]
            omega
          have kq := k G1 (I.same.trans s1)
          rw [e] at kq
          exact kq
        · have eg : (mo && decide (8000 < Builtin.Int.intBits n)) = false := by
            cases mo with
            | false => rfl
            | true => rw [decide_eq_false fun z => hg ⟨rfl, z⟩]; rfl
          rw [if_neg (by rw [eg]; decide)]
          refine ⟨_, rfl, rfl, _, rfl, ?_⟩
          refine iteF ?_
          have hb : n.natAbs < 2 ^ 8001 := by
            cases mo with
            | false => exact ok1.2 rfl
            | true =>
              have : ¬ 8000 < Builtin.Int.intBits n := fun z => hg ⟨rfl, z⟩
              have h2 : n.natAbs < 2 ^ 8000 := intBits_le_iff.mp (by omega)
              exact Nat.lt_of_lt_of_le h2 (Nat.pow_le_pow_right (by decide) (by decide))
          have hnl : (numS n).length ≤ 2500 := by
            have : n.natAbs < 10 ^ 2450 := Nat.lt_of_lt_of_le hb (by decide +kernel)
            have := numS_len (by decide) this
            omega
          refine ⟨_, rfl, ll, us, ts, rfl, s1 _ _ I.hll, paired_imp (fun a b q => q.keep (Same.keepP s1)) I.tails, by omega, fun G2 T1 us2 vf kp hl2 hp2 hln nT hT ho => ?_⟩
          refine ⟨T1, _, rfl, SqT.of hT, rfl, _, _, rfl, _, _, rfl, rfl, ?_⟩
          have hlb := behind_len ts
          have hts := Paired.length I.tails
          refine ⟨_, rfl, _, rfl, numS n, _, rfl, rfl, Nat.le_trans (show _ ≤ 1000000 by omega) (by decide), ?_⟩
          exact atom (numS n) (numS_pos n) (by omega) rfl rfl G1 G2 us2 vf T1 s1 kp hl2 hp2 hln ho
      | @pair pa dx vh vt dh dt ea rh rt =>
        refine iteT ?_
        refine ⟨_, rfl, .inl ⟨rfl, _, SqL.of I.hll⟩, _, rfl, pa, CP, dx, _, _, rfl, ea, T.cl, T.nT, (look_tl (by decide +kernel)).trans look_hd, ll, us.reverse, vt, rfl, rfl, I.hll, ?_, ?_⟩
        · rw [List.length_reverse]
          exact Nat.lt_of_le_of_lt (show us.length ≤ 1000000 by omega) (by decide)
        have k1 : ∀ b o, b ≠ ll → G b = some o → upd G ll (.lst (us.reverse ++ [vt])) b = some o := fun b o hb q => by rw [upd_ne hb]; exact q
        have kp := keep_l (CP := CP) I.hll k1
        refine ⟨_, rfl, pa, CP, dx, _, _, rfl, kp _ _ _ _ ea, T.cl, T.nH, look_hd, ?_⟩
        obtain ⟨t1, t2⟩ := I.turn (x := "(") (us2 := vt :: us) (ts2 := dt :: ts) (od2 := some dh) (tv2 := vh) (G3 := upd G ll (.lst (us.reverse ++ [vt]))) (by decide) (fun b o q => k1 b o (ne_of_none q nll0) (I.same b o q)) (k1 _ _ I.ne I.hlt) (by rw [List.reverse_cons]; exact upd_same) (rh.keep kp)
          (.cons (rt.keep kp) (paired_imp (fun a b q => q.keep kp) I.tails)) ok1.1 (fun t ht => by
            rcases List.mem_cons.mp ht with e | ht
            · rw [e]
              exact ok1.2
            · exact I.oks t ht) (by
            show (LP ++ (txt false dh ++ txt true dt)) ++ rest ts = sl "(" ++ (txt false dh ++ (txt true dt ++ rest ts))
            rw [sl_lp]
            simp [List.append_assoc]) (fun z => by cases z) (by rw [List.length_cons]; omega)
        refine ⟨v, vh, lt, ll, ys, _, "(", _, _, rfl, k1 _ _ I.ne I.hlt, by omega, by decide, fun hm hl => ?_, fun hn => ?_⟩
        · have kq := k _ (fun b o q => k1 b o (ne_of_none q nll0) (I.same b o q))
          rw [t1 hm hl] at kq
          exact kq
        · obtain ⟨w1, w2⟩ := t2 hn
          refine ⟨_, ?_, ys ++ [("(" : Str)], vt :: us, _, _, vh, _, _, _, by rw [w2], w1, rfl⟩
          show sz false dh + (sz true dt + szL ts) < (1 + (sz false dh + sz true dt)) + szL ts
          omega
end
end Kg
set_option exponentiation.threshold 100000
namespace Kg
open PySem PySem.Spec PyProof.Rows L2
def printS (d : D) : Str := if 2000 < (txt false d).length then "#long" else ⟨(txt false d).toArray⟩
theorem outV_true (d : D) : outV true d = if 2000 < (txt false d).length then .non else .str (printS d) := by
  unfold outV printS
  by_cases h : 2000 < (txt false d).length
  · rw [if_pos ⟨rfl, h⟩, if_pos h]
  · rw [if_neg (fun z => h z.2), if_neg h, if_neg h]
def spText (CP : Addr) : Sp := fun vs H Q _ => ∃ (v : V) (d : D), vs = [v] ∧ DR CP H v d ∧ OkD true d ∧ ∀ H', Same H H' → Q (.str (printS d)) H'
theorem scRead : FnScope ["text", "datum"] ["text"] (defScope sRead) := ⟨rfl, rfl, rfl, by decide +kernel, rfl, by decide +kernel, by decide +kernel⟩
theorem scPrinted : FnScope ["text"] ["text"] (defScope sPrinted) := ⟨rfl, rfl, rfl, by decide +kernel, rfl, by decide +kernel, by decide +kernel⟩
theorem scText : FnScope ["datum", "text"] ["datum"] (defScope sDatumText) := ⟨rfl, rfl, rfl, by decide +kernel, rfl, by decide +kernel, by decide +kernel⟩
/-- the data of a text, printed; or the error -/
def spReadE (K : PySem.W.Frag) (CB : Addr) : Sp := fun vs H Q E => ∃ v : V, vs = [v] ∧ ((∃ x, v = .str x ∧ Fits x ∧ (∀ p ∈ textWords x, p.1.length ≤ 10000) ∧ (∀ S, runE S0 (textWords x) = .inl S → S.stack = [] → (∀ d ∈ S.data, OkD true d) ∧ S.data.length ≤ 1000000 ∧ ∀ H' t, Same H H' → H t = none → H' t = some (.tup (S.data.map fun d => V.str (printS d))) → Q (.ref t) H') ∧
    (∀ S, runE S0 (textWords x) = .inl S → S.stack ≠ [] → ∀ H1 T, Same H H1 → H1 T = some (.tup [.int ((textEnd x).1 : Nat), .int ((textEnd x).2 : Nat)]) → ErrW CB H1 (.ref T) E) ∧
    (∀ pl, runE S0 (textWords x) = .inr pl → ∀ H1 T, Same H H1 → H1 T = some (.tup [.int (pl.1 : Nat), .int (pl.2 : Nat)]) → ErrW CB H1 (.ref T) E)) ∨
  (NotStr K H v ∧ ∀ H1 T, Same H H1 → H1 T = some (.tup [.int 0, .int 0]) → ErrW CB H1 (.ref T) E))
def spPrintedE (K : PySem.W.Frag) (CB : Addr) : Sp := fun vs H Q E => ∃ v : V, vs = [v] ∧ ((∃ x, v = .str x ∧ Fits x ∧ (∀ p ∈ textWords x, p.1.length ≤ 10000) ∧ (∀ S d r, runD S0 (textWords x) = .inl S → S.data = d :: r → OkD true d ∧ ∀ H', Same H H' → Q (.str (printS d)) H') ∧
    (∀ S, runD S0 (textWords x) = .inl S → S.data = [] → ∀ H1 T, Same H H1 → H1 T = some (.tup [.int ((textEnd x).1 : Nat), .int ((textEnd x).2 : Nat)]) → ErrW CB H1 (.ref T) E) ∧
    (∀ pl, runD S0 (textWords x) = .inr pl → ∀ H1 T, Same H H1 → H1 T = some (.tup [.int (pl.1 : Nat), .int (pl.2 : Nat)]) → ErrW CB H1 (.ref T) E)) ∨
  (NotStr K H v ∧ ∀ H1 T, Same H H1 → H1 T = some (.tup [.int 0, .int 0]) → ErrW CB H1 (.ref T) E))
section
variable {P : Program} {w : World} {K : PySem.W.Frag} {mg : Str → Option Value} {base : Heap} {f fC fN fS fB fW fD fX CP CB : Addr} {fd fdC fdN fdS fdB fdW fdD fdX : FuncData}
theorem ok_text (F : FnP K "datum_text" "datum_text" sDatumText f fd) (T : PrT K mg CP) (FN : FnP K "number_text" "number_text" sNumText fN fdN) (gN : mg "number_text" = some (.ref fN)) (FC : FnP K "chunks_of" "chunks_of" sChunks fC fdC) (gC : mg "chunks_of" = some (.ref fC))
    (FS : FnP K "single_text" "single_text" sSingleText fS fdS) (gS : mg "single_text" = some (.ref fS)) (FB : FnP K "text_behind" "text_behind" sTextBehind fB fdB) (gB : mg "text_behind" = some (.ref fB))
    (FW : FnP K "text_within" "text_within" sTextWithin fW fdW) (gW : mg "text_within" = some (.ref fW)) : FnOk P w K mg base CX0 5 f fd ["datum"] (spText CP) := by
  have GW : FnOk P w K mg base CX0 4 fW fdW ["datum", "most"] (spWithin CP) := ok_within FW T FN gN FC gC FS gS FB gB
  have bW : Binds K fdW ["datum", "most"] [] := FW.bindsN fun _ _ _ _ _ _ us hl => match us, hl with | [_, _], _ => rfl
  obtain ⟨t1, gM⟩ := T.gM
  obtain ⟨t2, gL⟩ := T.gL
  refine F.ok scText (fun vs H Q E h => ?_) (fun cdv A outer s H vs Q E hr h => ?_)
  · obtain ⟨v, d, rfl, _⟩ := h
    rfl
  · obtain ⟨v, d, rfl, rd, ok, k⟩ := h
    refine ⟨_, PSs.nox (pss_cons (ps_set (i := 1) scText.nd rfl (Or.inl rfl) (pe_call GW hr rfl gW FW.kp bW .nil pass0 (pa_cons (pv 0) (pa_cons (pgI gM) pa_nil))))
      (pss_one (ps_ret (pe_ifExp (pt_cmpR op_isN (pv 1) pe_non (nomark _)) (pgS gL) (pv 1))))), ?_⟩
    refine ⟨_, rfl, v, d, true, rfl, rd, ok, (fun z => by cases z), fun H' s1 => ?_⟩
    rw [outV_true]
    have kk := k H' s1
    by_cases h : 2000 < (txt false d).length
    · have e : printS d = "#long" := if_pos h
      rw [e] at kk
      rw [if_pos h]
      exact ⟨_, rfl, rfl, _, rfl, iteT kk⟩
    · rw [if_neg h]
      exact ⟨_, rfl, rfl, _, rfl, iteF ⟨_, rfl, kk⟩⟩
theorem ok_readE (F : FnP K "read" "read" sRead f fd) (gTup : mg "tuple" = none) (gD : mg "data_in" = some (.ref fD)) (kD : PySem.W.keepIn K (.ref fD) = true) (GD : FnOk P w K mg base (L2.CX P w) 9 fD fdD ["text"] (spDataE K CB CP)) (bD : Binds K fdD ["text"] [])
    (gX : mg "datum_text" = some (.ref fX)) (kX : PySem.W.keepIn K (.ref fX) = true) (GX : FnOk P w K mg base CX0 5 fX fdX ["datum"] (spText CP)) (bX : Binds K fdX ["datum"] []) :
    FnOk P w K mg base (L2.CX P w) 10 f fd ["text"] (spReadE K CB) := by
  refine F.ok scRead (fun vs H Q E h => ?_) (fun cdv A outer s H vs Q E hr h => ?_)
  · obtain ⟨v, rfl, _⟩ := h
    rfl
  · obtain ⟨v, rfl, h⟩ := h
    have hr5 : Room 5 _ := hr.mono (by decide)
    refine ⟨_, pss_one (ps_ret (pe_callTy call_tuple_of (by rfl) gTup (by decide +kernel) (pa_cons (pe_lc (own := [("datum", 1)]) (g := gName 1) (tt := tYes) rfl scRead.nd
      (pi_list (pe_call (E := E) GD hr rfl gD kD bD .nil (passes_call (takes_of rfl rfl rfl rfl) (fun _ _ _ _ h => h)) (pa_cons (pv 0) pa_nil))) (blkOk_by (own := [("datum", 1)]) (N := ["text", "datum"]) (sc := defScope sRead) (by decide +kernel))
        (fun _ _ _ _ _ => pg_name (i := 1) scRead.nd rfl (Or.inl rfl)) (fun _ _ _ _ _ => pts_nil) (fun _ _ _ _ _ => pe_call GX hr5 rfl gX kX bX .nil pass0 (pa_cons (pv 1) pa_nil))) pa_nil))), ?_⟩
    refine ⟨_, rfl, v, rfl, ?_⟩
    rcases h with ⟨x, rfl, fx, wl, k1, k2, k3⟩ | ⟨nv, k⟩
    · refine .inl ⟨x, rfl, fx, wl, fun S run hst H1 u s1 ha => ?_, k2, k3⟩
      obtain ⟨l, us, rfl, hl, hp⟩ := ha
      obtain ⟨okd, hsz, kq⟩ := k1 S run hst
      have hlen := Paired.length hp
      refine ⟨l, rfl, ⟨_, SqL.of hl⟩, fun A nA => lc_it (walk_list (K := K) (a := l) (xs := us)) (fun i G => Same H1 G ∧ G A = some (.lst ((S.data.take i).map fun d => V.str (printS d)))) ⟨same_upd nA, upd_same⟩ (fun i G _ h => SqL.of (h.1 _ _ hl)) ?_ ?_⟩
      · rintro i v G G2 hi ⟨s2, d2⟩ ⟨rfl, hx⟩
        obtain ⟨d, hd, rd⟩ := paired_get hp hx
        refine ⟨rfl, ?_⟩
        refine yesI ?_
        refine ⟨_, rfl, v, d, rfl, rd.keep (Same.keepP s2), okd d (List.mem_of_getElem? hd), fun G3 s3 => ⟨_, s3 _ _ d2, ?_, fun b o hb => ?_, ?_⟩⟩
        · rw [List.length_map, List.length_take]
          exact Nat.lt_of_le_of_lt (show _ ≤ 1000000 by omega) (by decide)
        · rw [upd_ne (ne_of_none hb nA)]
          exact s3 _ _ (s2 b o hb)
        · rw [upd_same, take_more hd, List.map_append]
          rfl
      · rintro G ⟨s2, d2⟩
        rw [hlen, List.take_length] at d2
        refine ⟨A, _, rfl, .inl ⟨SqL.of d2, fun t nt => ?_⟩⟩
        have nt0 : H t = none := s1.free (s2.free nt)
        exact kq _ t (s1.trans (s2.trans (same_upd nt))) nt0 upd_same
    · exact .inr ⟨nv, k⟩
theorem ok_printedE (F : FnP K "printed" "printed" sPrinted f fd) (gD : mg "datum_in" = some (.ref fD)) (kD : PySem.W.keepIn K (.ref fD) = true) (GD : FnOk P w K mg base (L2.CX P w) 9 fD fdD ["text"] (spDatumE K CB CP)) (bD : Binds K fdD ["text"] [])
    (gX : mg "datum_text" = some (.ref fX)) (kX : PySem.W.keepIn K (.ref fX) = true) (GX : FnOk P w K mg base CX0 5 fX fdX ["datum"] (spText CP)) (bX : Binds K fdX ["datum"] []) :
    FnOk P w K mg base (L2.CX P w) 10 f fd ["text"] (spPrintedE K CB) := by
  refine F.ok scPrinted (fun vs H Q E h => ?_) (fun cdv A outer s H vs Q E hr h => ?_)
  · obtain ⟨v, rfl, _⟩ := h
    rfl
  · obtain ⟨v, rfl, h⟩ := h
    have hr5 : Room 5 _ := hr.mono (by decide)
    refine ⟨_, pss_one (ps_ret (pe_call GX hr5 rfl gX kX bX .nil pass0 (pa_cons (pe_call (E := E) GD hr rfl gD kD bD .nil (passes_call (takes_of rfl rfl rfl rfl) (fun _ _ _ _ h => h)) (pa_cons (pv 0) pa_nil)) pa_nil))), ?_⟩
    refine ⟨_, rfl, v, rfl, ?_⟩
    rcases h with ⟨x, rfl, fx, wl, k1, k2, k3⟩ | ⟨nv, k⟩
    · refine .inl ⟨x, rfl, fx, wl, fun S run _ H1 u s1 ha => ?_, fun S run hf => k2 S run (Decidable.of_not_not hf), k3⟩
      obtain ⟨d, r, hd, rd⟩ := ha
      obtain ⟨okd, kq⟩ := k1 S d r run hd
      exact ⟨u, d, rfl, rd, okd, fun H' s2 => kq H' (s1.trans s2)⟩
    · exact .inr ⟨nv, k⟩
end
end Kg
namespace Kg
open PySem PySem.Spec PyProof.Rows L2 LamX
/-! ### a part of a heap, of its size -/
def keepHeap (h : Heap) (p : Addr → Bool) : Heap := PySem.W.hideAll h ((List.range h.objs.size).filter fun b => !p b)
theorem keepHeap_size (h : Heap) (p : Addr → Bool) : (keepHeap h p).objs.size = h.objs.size := PySem.W.hideAll_size _ _
theorem keepHeap_get {h : Heap} {p : Addr → Bool} {b : Addr} {o : Obj} (e : h.get? b = some o) (hp : p b = true) : (keepHeap h p).get? b = some o :=
  PySem.W.hideAll_get _ e fun hm => by
    have q := (List.mem_filter.mp hm).2
    rw [hp] at q
    cases q
theorem of_keepHeap {h : Heap} {p : Addr → Bool} {b : Addr} {o : Obj} (e : (keepHeap h p).get? b = some o) : h.get? b = some o ∧ p b = true := by
  have e1 : h.get? b = some o := PySem.W.of_hideAll _ e
  refine ⟨e1, ?_⟩
  cases hp : p b with
  | true => rfl
  | false =>
    have hm : b ∈ (List.range h.objs.size).filter fun b => !p b := List.mem_filter.mpr ⟨List.mem_range.mpr (Heap.lt_size e1), by simp [hp]⟩
    have z : (keepHeap h p).get? b = none := PySem.W.hideAll_none _ hm
    rw [z] at e
    cases e
/-- what stands at f may be called without worths: what it does is told by sp -/
def Thunk (P : Program) (w : World) (K : PySem.W.Frag) (mg : Str → Option Value) (base : Heap) (k : Nat) (f : Addr) (sp : Hp → VK → XK → Prop) : Prop :=
  ∀ (A : Around) (outer : List Env) (u1 : Shared) (H1 : Hp) (Q : VK) (E : XK), Room k A → Env0 P w K mg base A outer u1 H1 → sp H1 Q E → codeAny (model P w) A (.call (.ref f) ⟨[], []⟩) (CR (L2.CX P w) outer P w H1 u1 Q E) u1
section
variable {X : Cx} {pins : List (Addr × Obj)} {σ : L2.St} {H : Hp} {s : Shared}
/-- the lambda's own frame, entered at u1 -/
theorem lam_enter {A : Around} {outer : List Env} {E : XK} {scope : Scope} {f c' : Addr} {h1 : Heap} {tk : Nat} {B : Heap} {u1 : Shared} {HZ : Hp} (I : Inv X pins σ H s) (L : LamS X.env.scope scope) (e0 : Env0 X.prog X.w X.K X.mg B A outer u1 HZ) (hd : A.handled = none)
    (hc : ∀ x c, X.env.cells.lookup x = some c → B.get? c = s.heap.get? c) (hle : ∀ b o, X.base.get? b = some o → B.get? b = some o) (hsz : X.base.objs.size ≤ B.objs.size)
    (hns : h1.Ns u1.heap.objs.size fun y => ([] : List (Str × Value)).reverse.lookup y) (kp : ∀ b o, u1.heap.get? b = some o → h1.get? b = some o) :
    Inv (lamCx X A outer u1 HZ E scope f c') [] σ HZ { u1 with heap := h1, toks := tk } := by
  have hfree := L.has I.ok
  have cm : ∀ {y c}, (cloFrom X.env.cells scope.names []).lookup y = some c → X.env.cells.lookup y = some c := fun {y c} e => by
    rcases cloFrom_mem (PySem.mem_of_lookup e) with hm | ⟨q1, q2⟩
    · cases hm
    · obtain ⟨c1, q3⟩ := hfree _ q1 rfl
      have q3' : X.env.cells.lookup y = some c1 := q3
      have q4 : c = c1 := by rw [q2, q3'] <;> rfl
      rw [q4]
      exact q3'
  have look : ∀ {y}, scope.names.lookup y = some .free → ∃ c, (cloFrom X.env.cells scope.names []).lookup y = some c := fun {y} hl => by
    have hy : (y, NameKind.free) ∈ scope.names := PySem.mem_of_lookup hl
    exact mem_lookup (cloFrom_has (cells := X.env.cells) (acc := []) hy)
  have cellB : ∀ {x c v}, X.env.cells.lookup x = some c → s.heap.IsCell c v → h1.IsCell c v ∧ HZ c = none := fun {x c v} q ⟨o, ho, hdv⟩ => by
    have z : B.get? c = some o := (hc _ _ q).trans ho
    obtain ⟨z1, z2⟩ := e0.bs c o z
    exact ⟨⟨o, kp _ _ z1, hdv⟩, z2⟩
  have noA : ∀ b : Addr, b ∉ (lamCx X A outer u1 HZ E scope f c').ex := fun b z => absurd (show b ∈ ([] : List Addr) from z) (by simp)
  have hfun : ∀ l : List Env, u1.heap.FunFrames B l → u1.heap.FunFrames X.base l := by
    intro l
    induction l with
    | nil => intro _; trivial
    | cons env r ih =>
      intro ⟨hk, ⟨L1, o, q1, q2, q3, q4⟩, hr⟩
      refine ⟨hk, ⟨L1, o, q1, ?_, q3, q4⟩, ih hr⟩
      cases q : X.base.get? L1 with
      | none => rfl
      | some o2 =>
        have z := hle _ _ q
        rw [q2] at z
        cases z
  have hmod : L2.Mod X.K X.mg X.base := I.ok.mod
  refine ⟨⟨hmod, L.kind, rfl, rfl, Nat.le_refl _, fun y z c e1 e2 => I.ok.inj y z c (cm e1) (cm e2), fun y hy => ?_, fun y c z _ => ?_, fun _ => hd, Around.frames_deeper e0.frames, .inr ⟨rfl, rfl⟩, fun b z => absurd z (noA b), fun b o q => e0.bs b o (hle b o q),
      Nat.le_trans hsz e0.bsz, fun b _ _ => noA b, fun b z => absurd z (noA b), hfun _ e0.funs, e0.frf⟩,
    rfl, e0.bare, Un.kept kp, ⟨_, hns, fun i y v e1 e2 e3 => ?_⟩, fun y c e => ?_, e0.hok.fresh (Nat.le_refl _), fun y c e => ?_, fun q hq => absurd (show q ∈ ([] : List (Addr × Obj)) ++ [] from hq) (by simp), e0.hok.kept kp, I.len⟩
  · rcases (show scope.names.lookup y = some .cell ∨ scope.names.lookup y = some .free from hy) with hy | hy
    · exact absurd rfl (L.own _ (PySem.mem_of_lookup hy)).2
    · exact look hy
  · exact absurd (show false = true from z) Bool.false_ne_true
  · rcases (show Vis scope y from e3) with k | k | k
    · exact absurd rfl (L.own _ (PySem.mem_of_lookup k)).1
    · exact absurd rfl (L.own _ (PySem.mem_of_lookup k)).2
    · obtain ⟨m, hn, hl⟩ := I.loc
      have hvis : Vis X.env.scope y := (L.free _ (PySem.mem_of_lookup k) rfl).elim (fun q => .inr (.inl q)) (fun q => .inr (.inr q))
      obtain ⟨w1, r, q⟩ := hl i y v e1 e2 hvis
      obtain ⟨c2, h2⟩ := look k
      refine ⟨w1, r, .inr ⟨.inr k, c2, h2, ?_⟩⟩
      have c1 := cm h2
      rcases q with ⟨k1, _⟩ | ⟨_, c3, q1, z⟩
      · have k2 : X.env.scope.names.lookup y = some .local := k1
        rcases L.free _ (PySem.mem_of_lookup k) rfl with k3 | k3 <;> rw [show X.env.scope.names.lookup y = _ from k3] at k2 <;> cases k2
      · rw [c1] at q1
        cases q1
        exact (cellB c1 z).1
  · obtain ⟨w1, z⟩ := I.cell y c (cm e)
    exact ⟨w1, (cellB (cm e) z).1⟩
  · obtain ⟨w1, z⟩ := I.cell y c (cm e)
    exact (cellB (cm e) z).2
/-- a lambda that was made is a thunk -/
theorem thunk_of {B : Heap} {scope : Scope} {params : Arguments} {body : Expr} {f c' : Addr} {pm ctv : Value} {k : Nat} {tb : XK → TE} (I : Inv X pins σ H s) (L : LamS X.env.scope scope)
    (hf : B.get? f = some (PySem.W.kla_obj "<lambda>" (X.env.qual ++ "<lambda>") params body scope (cloFrom X.env.cells scope.names []) pm c' ctv))
    (hc : ∀ x c, X.env.cells.lookup x = some c → B.get? c = s.heap.get? c) (hle : ∀ b o, X.base.get? b = some o → B.get? b = some o) (hsz : X.base.objs.size ≤ B.objs.size)
    (hbind : bindArgs (PySem.W.kla_fn "<lambda>" (X.env.qual ++ "<lambda>") params body scope (cloFrom X.env.cells scope.names []) pm (.ref c') ctv) ⟨[], []⟩ = pure [])
    (hbody : ∀ (A : Around) (outer : List Env) (u1 : Shared) (H1 : Hp) (E : XK), Room k (A.deeper (lamEnv X scope u1.heap.objs.size f c')) → PE (lamCx X A outer u1 H1 E scope f c') body (tb E)) :
    Thunk X.prog X.w X.K X.mg B (k + 1) f (fun H1 Q E => H1 c' = some (CodeO c' (X.env.qual ++ "<lambda>")) ∧ tb E σ H1 Q) := by
  intro A outer u1 H1 Q E hr e0 ⟨hco, ht⟩
  have of1 := (e0.bs _ _ hf).1
  obtain ⟨⟨oc, vs, t, hoc, hdc, hvc⟩, _, _⟩ := e0.hok c' _ hco
  have lim : u1.heap.NoLimit := e0.mod.nolimit.keeps fun b o e => (e0.bs b o e).1
  refine PySem.W.kla_callFunE hr.depth of1 rfl L.co L.gen rfl ⟨c', oc, vs, t, rfl, hoc, hdc, hvc⟩ ?_
  rw [hbind]
  refine wpAny_pure (wpAny_newFunctionEnv (fun y hy => (L.own y hy).2) (fun y hy => absurd hy (by simp)) (fun h1 hns hsb => ⟨lim.fresh _ hsb, ?_⟩) L.kind)
  show codeAny _ _ (.expr body (lamEnv X scope u1.heap.objs.size f c')) _ _
  have kp : ∀ b o, u1.heap.get? b = some o → h1.get? b = some o := fun b o e => hsb.extBut b o (Nat.ne_of_lt (Heap.lt_size e)) (Heap.get?_push_of_some _ e)
  have J : Inv (lamCx X A outer u1 H1 E scope f c') [] σ H1 { u1 with heap := h1, toks := u1.toks + ([] : List (Str × Value)).length } := lam_enter I L e0 hr.hd hc hle hsz hns kp
  refine PySem.W.kla_codeExpr (wpAny_mono ((hbody _ _ u1 H1 _ (hr.deeper _)).run [] _ _ H1 Q J ht) (fun v u2 hq => ?_) fun e u2 hq => hq)
  obtain ⟨w1, H2, J2, rv, q⟩ := hq
  exact ⟨w1, H2, J2.os, J2.bare, J2.base, J2.hok, rv, q⟩
/-- a name's thunk, called -/
theorem pe_thunk {i k : Nat} {a : Str} {E : XK} {p1 p2 : Pos} (hN : X.N[i]? = some a) (hv : Vis X.env.scope a) (hr : Room k X.A) (hx : Passes (L2.CX X.prog X.w) X E) (hd : (a == ("__debug__" : Str)) = false := by decide) (hcd : (a == ("__classdict__" : Str)) = false := by decide) :
    PE X (.Call (.Name a p1) [] [] p2) (fun σ H Q => ∃ (f : Addr) (sp : Hp → VK → XK → Prop), σ[i]? = some (some (.ref f)) ∧ (∃ oc od fd sl, X.base.get? f = some ⟨oc, od, .func fd, sl⟩) ∧ Thunk X.prog X.w X.K X.mg X.base k f sp ∧ sp H Q E) := by
  refine ⟨fun pins s σ H Q I h => ?_⟩
  obtain ⟨f, sp, hs, ⟨oc, od, fd, sl, hf⟩, ht, hsp⟩ := h
  refine wpAny_Call_Name_kw (thn ((pe_var (pos := p1) (i := i) hN hv hd hcd).run pins s σ H (fun v H1 => v = .ref f ∧ H1 = H) I ⟨.ref f, hs, rfl, rfl⟩) fun u s1 ⟨v, H1, I1, r1, ev, eH⟩ => ?_)
  subst ev eH
  obtain rfl : u = Value.ref f := r1
  refine PySem.W.callWith_F0 ⟨_, _, _, _, I1.bk _ _ hf⟩ ?_
  refine wpAny_call (codeAny_mono (ht X.A X.stack s1 H1 Q E hr I1.env0 hsp) fun r u2 hq => ?_)
  cases r with
  | error e => exact hx pins σ H1 s1 e u2 I1 hq
  | ok fl =>
    cases fl with
    | ret u => exact I1.after hq
    | next => exact False.elim hq
    | brk => exact False.elim hq
    | cont => exact False.elim hq
end
end Kg
namespace Kg
open PySem PySem.Spec PyProof.Rows L2 LamX
section
variable {X : Cx} {pins : List (Addr × Obj)} {σ : L2.St} {H : Hp} {s : Shared}
theorem locals_mem (hs : X.stack = X.env :: X.outer) (hf : X.env.frame = some X.env.locals) : X.env.locals ∈ frs X.stack := by
  unfold frs
  rw [hs, List.filterMap_cons, hf]
  exact List.mem_cons_self
theorem fs_mem (hs : X.stack = X.env :: X.outer) (hf : X.env.frame = some X.env.locals) {b : Addr} (hb : b ∈ X.fs) : b ∈ frs X.stack := by
  have hb' : b ∈ X.outer.filterMap (·.frame) := hb
  unfold frs
  rw [hs, List.filterMap_cons, hf]
  exact List.mem_cons_of_mem _ hb'
/-- the ground, and with it the object at f and the cells of the frame -/
def groundP (X : Cx) (f : Addr) : Addr → Bool := fun b => (X.base.get? b).isSome || (decide (b = f) || X.env.cells.any fun q => q.2 == b)
theorem lookup_any {x : Str} {c : Addr} {l : List (Str × Addr)} (h : l.lookup x = some c) : (l.any fun q => q.2 == c) = true :=
  List.any_eq_true.mpr ⟨(x, c), PySem.mem_of_lookup h, by simp⟩
/-- the state at a call, over a greater ground -/
theorem env0_more {f : Addr} {o : Obj} (I : Inv X ((f, o) :: pins) σ H s) (hs : X.stack = X.env :: X.outer) (hfm : X.env.frame = some X.env.locals) (hfn : ∀ x, X.fn x = true) (hcu : ∀ q ∈ X.env.cells, X.env.cells.lookup q.1 = some q.2) :
    Env0 X.prog X.w X.K X.mg (keepHeap s.heap (groundP X f)) X.A X.stack s H ∧ (keepHeap s.heap (groundP X f)).get? f = some o ∧ (∀ x c, X.env.cells.lookup x = some c → (keepHeap s.heap (groundP X f)).get? c = s.heap.get? c) ∧
      (∀ b u, X.base.get? b = some u → (keepHeap s.heap (groundP X f)).get? b = some u) ∧ X.base.objs.size ≤ (keepHeap s.heap (groundP X f)).objs.size := by
  obtain ⟨f1, f2, f3, f4, f5⟩ := I.pin (f, o) (List.mem_append_right _ List.mem_cons_self)
  have up : ∀ b u, X.base.get? b = some u → (keepHeap s.heap (groundP X f)).get? b = some u := fun b u e => keepHeap_get (I.bk b u e) (by unfold groundP; rw [e]; rfl)
  have cl : ∀ x c, X.env.cells.lookup x = some c → (keepHeap s.heap (groundP X f)).get? c = s.heap.get? c := fun x c e => by
    obtain ⟨v, o2, h1, _⟩ := I.cell x c e
    rw [h1]
    exact keepHeap_get h1 (by unfold groundP; rw [lookup_any e]; simp)
  have mo : L2.Mod X.K X.mg (keepHeap s.heap (groundP X f)) := by
    obtain ⟨m1, m2, ⟨mb, m3, m4⟩, m5⟩ := I.mod
    exact ⟨m1.keeps up, m2.keeps up, ⟨mb, m3.keeps up, m4⟩, m5.keeps up⟩
  have sz : X.base.objs.size ≤ s.heap.objs.size := Nat.le_trans I.ok.bsz I.sz
  have nfr : ∀ b ∈ frs X.stack, (keepHeap s.heap (groundP X f)).get? b = none := fun b hb => by
    cases e : (keepHeap s.heap (groundP X f)).get? b with
    | none => rfl
    | some u =>
      obtain ⟨e1, e2⟩ := of_keepHeap e
      exfalso
      obtain ⟨nb, o2, q1, q2⟩ := I.stack.mem hb
      unfold groundP at e2
      rw [nb] at e2
      rcases (show b = f ∨ (X.env.cells.any fun q => q.2 == b) = true by simpa using e2) with z | z
      · rcases List.mem_cons.mp (I.stkSub b hb) with z2 | z2
        · exact f3 (z.symm.trans z2)
        · exact f4 (by rw [← z]; exact z2)
      · obtain ⟨q, hq, hq2⟩ := List.any_eq_true.mp z
        have eq2 : q.2 = b := by simpa using hq2
        have hl := hcu q hq
        rw [eq2] at hl
        rcases List.mem_cons.mp (I.stkSub b hb) with z2 | z2
        · exact I.cne _ _ hl z2
        · obtain ⟨_, o3, q3, _⟩ := I.ok.funs.mem z2
          exact absurd (Nat.lt_of_lt_of_le (Heap.lt_size q3) (I.ok.cab _ _ (hfn _) hl)) (Nat.lt_irrefl _)
  have fr : ∀ l : List Env, (∀ b ∈ frs l, (keepHeap s.heap (groundP X f)).get? b = none) → s.heap.FunFrames X.base l → s.heap.FunFrames (keepHeap s.heap (groundP X f)) l := by
    intro l
    induction l with
    | nil => intro _ _; trivial
    | cons env r ih =>
      intro hn ⟨hk, ⟨L1, o1, q1, q2, q3, q4⟩, hr⟩
      refine ⟨hk, ⟨L1, o1, q1, hn L1 ?_, q3, q4⟩, ih (fun b hb => hn b ?_) hr⟩
      · unfold frs
        rw [List.filterMap_cons, q1]
        exact List.mem_cons_self
      · unfold frs
        rw [List.filterMap_cons, q1]
        exact List.mem_cons_of_mem _ hb
  refine ⟨⟨I.ok.frames, mo, fun b u e => ?_, by rw [keepHeap_size]; exact Nat.le_refl _, fr _ nfr I.stack, I.stkFree, I.hok, I.bare⟩, keepHeap_get f1 (by unfold groundP; simp), cl, up, by rw [keepHeap_size]; exact sz⟩
  obtain ⟨e1, e2⟩ := of_keepHeap e
  refine ⟨e1, ?_⟩
  unfold groundP at e2
  rcases (show (X.base.get? b).isSome = true ∨ b = f ∨ (X.env.cells.any fun q => q.2 == b) = true by simpa using e2) with z | z | z
  · obtain ⟨u2, hu⟩ := Option.isSome_iff_exists.mp z
    exact (I.bs b u2 hu).2
  · rw [z]
    exact f2
  · obtain ⟨q, hq, hq2⟩ := List.any_eq_true.mp z
    have eq2 : q.2 = b := by simpa using hq2
    have hl := hcu q hq
    rw [eq2] at hl
    exact I.freeC _ _ hl
/-- a def's promise, held where no repr is under way -/
structure FnG (P : Program) (w : World) (K : PySem.W.Frag) (mg : Str → Option Value) (base : Heap) (CX : CXT) (k : Nat) (f : Addr) (fd : FuncData) (ps : List Str) (sp : Sp) : Prop where
  many : ∀ vs H Q E, sp vs H Q E → vs.length = ps.length
  go : ∀ (A : Around) (outer : List Env) (s : Shared) (H : Hp) (args : Args) (us : List Value) (vs : List V) (Q : VK) (E : XK), Room k A → A.guards = some [] → Env0 P w K mg base A outer s H → BindsTo s fd args (ps.zip us) → Vals vs us → sp vs H Q E →
    codeAny (model P w) A (.call (.ref f) args) (L2.CR CX outer P w H s Q E) s
theorem FnG.of {P : Program} {w : World} {K : PySem.W.Frag} {mg : Str → Option Value} {base : Heap} {CX : CXT} {k : Nat} {f : Addr} {fd : FuncData} {ps : List Str} {sp : Sp} (F : FnOk P w K mg base CX k f fd ps sp) : FnG P w K mg base CX k f fd ps sp :=
  ⟨F.len, fun A outer s H args us vs Q E hr _ => F.run A outer s H args us vs Q E hr⟩
/-- what x(lambda: body, ..) asks: the def's promise, over any ground on which the lambda stands -/
def tLamArg (X : Cx) (T : List (Addr × Str)) (k : Nat) (sp : Heap → Sp) (E : XK) (tb : XK → TE) (ta : TA) : TE := fun σ H Q => Tabs T H ∧ ∀ (H1 : Hp) (f c' : Addr), ExtN H H1 → Tabs T H1 → H1 c' = some (CodeO c' (X.env.qual ++ "<lambda>")) → ta σ H1 fun vs H2 =>
  ∀ B : Heap, (∃ oc od fd sl, B.get? f = some ⟨oc, od, .func fd, sl⟩) → Thunk X.prog X.w X.K X.mg B (k + 1) f (fun H3 Q E => H3 c' = some (CodeO c' (X.env.qual ++ "<lambda>")) ∧ tb E σ H3 Q) → sp B (.ref f :: vs) H2 Q E
theorem pe_lamArg {T : List (Addr × Str)} {CX : CXT} {x : Str} {g c P : Addr} {k j : Nat} {fd : FuncData} {ps : List Str} {sp : Heap → Sp} {E : XK} {params : Arguments} {body : Expr} {scope : Scope} {es : List Expr} {tb : XK → TE} {ta : TA} {p lpos pos : Pos}
    (F : ∀ B : Heap, X.K.In B → B.Ns mainGlobals X.mg → FnG X.prog X.w X.K X.mg B CX j g fd ps (sp B)) (hr : Room j X.A) (hgu : X.A.guards = some []) (hg : Gl X x) (hm : X.mg x = some (.ref g)) (hk : PySem.W.keepIn X.K (.ref g) = true) (hb : L2.Binds X.K fd ps []) (hx : Passes CX X E)
    (TB : TabB X.base X.mg c P) (hcode : X.env.code = .ref c) (hmT : (P, X.env.qual ++ "<lambda>") ∈ T) (hu : ∀ p ∈ T, p.1 = P → p.2 = X.env.qual ++ "<lambda>") (L : LamS X.env.scope scope) (hdef : defaultsOf params X.env = ([], []))
    (hbind : ∀ (q : Str) (cl : List (Str × Addr)) (pm cv ctv : Value), bindArgs (PySem.W.kla_fn "<lambda>" q params body scope cl pm cv ctv) ⟨[], []⟩ = pure [])
    (hbody : ∀ (A : Around) (outer : List Env) (u1 : Shared) (H1 : Hp) (E : XK) (f c' : Addr), Room k (A.deeper (lamEnv X scope u1.heap.objs.size f c')) → PE (lamCx X A outer u1 H1 E scope f c') body (tb E))
    (ha : PA X es ta) (hs : X.stack = X.env :: X.outer) (hfm : X.env.frame = some X.env.locals) (hfn : ∀ x, X.fn x = true) (hcu : ∀ q ∈ X.env.cells, X.env.cells.lookup q.1 = some q.2)
    (hdb : (x == ("__debug__" : Str)) = false := by decide) (he : starEach (.Lambda params body scope lpos :: es) X.env = (false, eval (.Lambda params body scope lpos) X.env) :: starEach es X.env := by rfl) (hpl : (backTo pos (starEach es X.env)).any (·.1) = false := by rfl) :
    PE X (.Call (.Name x p) (.Lambda params body scope lpos :: es) [] pos) (tLamArg X T k sp E tb ta) := by
  refine ⟨fun pins s σ H Q I h => ?_⟩
  obtain ⟨hT, h⟩ := h
  refine wpAny_Call_Name_kw (ld_glob I hg hm ?_ hdb)
  refine PySem.W.callWith_K (h₀ := X.base) I.ok.mod.kin hk ?_ he hpl
  rw [he]
  show wpAny _ _ (spliced ((false, eval (.Lambda params body scope lpos) X.env) :: backTo pos (starEach es X.env))) _ _ s
  refine Calls.spliced_cons (lam_make2 I TB hcode hmT hu hT hdef (L.has I.ok) fun f c' pm' ctv H1 s1 I1 eN T1 hf hf0 hfr hco => ?_)
  have I1p : Inv X ((f, PySem.W.kla_obj "<lambda>" (X.env.qual ++ "<lambda>") params body scope (cloFrom X.env.cells scope.names []) pm' c' ctv) :: pins) σ H1 s1 := I1.pins_of fun q hq => by
    rcases List.mem_cons.mp hq with e | hq
    · rw [e]
      exact ⟨hf, hf0, fun z => hfr (by rw [show f = X.env.locals from z]; exact locals_mem hs hfm), fun z => hfr (fs_mem hs hfm z), fun v z => nomatch z⟩
    · exact I1.pin q (List.mem_append_right _ hq)
  refine thn (ha.run pos _ s1 σ H1 _ I1p (h H1 f c' eN T1 hco)) fun us s2 ⟨vs, H2, I2, r2, q⟩ => ⟨I2.kIn, ?_⟩
  obtain ⟨e0, bf, bc, bb, bz⟩ := env0_more I2 hs hfm hfn hcu
  have th := thunk_of (k := k) (tb := tb) I2 L bf bc bb bz (hbind _ _ _ _ _) (fun A outer u1 H1 E hr => hbody A outer u1 H1 E f c' hr)
  have hq := q _ ⟨_, _, _, _, bf⟩ th
  have Fb := F _ e0.mod.kin e0.mod.glob
  have rv : Vals (V.ref f :: vs) (Value.ref f :: us) := .cons rfl r2
  have hl : (Value.ref f :: us).length = ps.length := by
    rw [← rv.length]
    exact Fb.many _ _ _ _ hq
  have hb2 : BindsTo s2 fd ⟨Value.ref f :: us, []⟩ (ps.zip (Value.ref f :: us)) := by
    have z := hb s2 (Value.ref f :: us) I2.kIn (by rw [List.append_nil]; exact hl)
    rw [List.append_nil] at z
    exact z
  refine wpAny_call (codeAny_mono (Fb.go X.A X.stack s2 H2 ⟨Value.ref f :: us, []⟩ (Value.ref f :: us) (V.ref f :: vs) Q E hr hgu e0 hb2 rv hq) fun r u2 hq2 => ?_)
  cases r with
  | error e => exact hx _ σ H2 s2 e u2 I2 hq2
  | ok fl =>
    cases fl with
    | ret u =>
      obtain ⟨v, H3, I3, rv3, q3⟩ := I2.after hq2
      exact ⟨v, H3, I3.pins_of (fun q hq => I3.pin q (List.mem_append_right _ (List.mem_cons_of_mem _ hq))), rv3, q3⟩
    | next => exact False.elim hq2
    | brk => exact False.elim hq2
    | cont => exact False.elim hq2
end
end Kg
namespace Kg
open PySem PySem.Spec PyProof.Rows L2 LamX
/-- an exception that was caught, held as a worth: of the class cls, its own dict at d -/
def exv (a : Addr) (cls : Value) (d : Option Addr) : HO := .ext fun h => ∃ oe vs, h.get? a = some oe ∧ Zc cls d oe ∧ oe.data = .fields vs
theorem exv_ok {P : Program} {w : World} {H : Hp} {h : Heap} {a : Addr} {cls : Value} {d : Option Addr} {oe : Obj} {vs : Array Value} (e : h.get? a = some oe) (z : Zc cls d oe) (q : oe.data = .fields vs) : ObjOk P w H h a (exv a cls d) :=
  ⟨⟨oe, vs, e, z, q⟩, ⟨oe, e⟩, fun _ _ ⟨o, v, q, r⟩ k => ⟨o, v, k o q, r⟩⟩
section
variable {X : Cx} {pins : List (Addr × Obj)} {σ : L2.St} {H : Hp} {s : Shared}
theorem inv_trackX {a : Addr} {oe : Obj} {vs : Array Value} {cls : Value} {d : Option Addr} (I : Inv X ((a, oe) :: pins) σ H s) (n0 : X.s_0.heap.get? a = none) (hz : Zc cls d oe) (hdt : oe.data = .fields vs) (np : ∀ p ∈ X.pn ++ pins, p.1 ≠ a) :
    Inv X pins σ (upd H a (exv a cls d)) s := by
  obtain ⟨f1, f2, f3, f4, f5⟩ := I.pin (a, oe) (List.mem_append_right _ List.mem_cons_self)
  have f1' : s.heap.get? a = some oe := f1
  have nz : ∀ b u, X.s_0.heap.get? b = some u → b ≠ a := fun b u e z => by
    rw [z, n0] at e
    cases e
  refine ⟨I.ok, I.os, I.bare, ⟨I.base.keep, I.base.slot, fun b u e n hx => ?_, I.base.there, fun b xs e => ?_, fun b u v e => ?_, fun b ts e => ?_⟩, I.loc, I.cell, ?_, fun x c e => ?_, fun p hp => ?_, fun b u e => ?_, I.len⟩
  · rw [upd_ne (nz b u e)]
    exact I.base.free b u e n hx
  · have q := I.base.tups b xs e
    rw [upd_ne (ne_of_none q f2)]
    exact q
  · have q := I.base.frzs b u v e
    rw [upd_ne (ne_of_none q f2)]
    exact q
  · obtain ⟨m, q⟩ := I.base.tbls b ts e
    exact ⟨m, by rw [upd_ne (ne_of_none q f2)]; exact q⟩
  · rw [upd_ne (Ne.symm f3)]
    exact I.free
  · have nc : c ≠ a := fun z => by
      obtain ⟨v, o2, q1, q2⟩ := I.cell x c e
      rw [z, f1'] at q1
      cases q1
      rw [hdt] at q2
      cases q2
    rw [upd_ne nc]
    exact I.freeC x c e
  · have hp2 : p ∈ X.pn ++ (a, oe) :: pins := by
      rcases List.mem_append.mp hp with z | z
      · exact List.mem_append_left _ z
      · exact List.mem_append_right _ (List.mem_cons_of_mem _ z)
    obtain ⟨q1, q2, q3, q4, q5⟩ := I.pin p hp2
    exact ⟨q1, by rw [upd_ne (np p hp)]; exact q2, q3, q4, q5⟩
  · by_cases hb : b = a
    · rw [hb, upd_same] at e
      cases e
      rw [hb]
      exact exv_ok f1' hz hdt
    · rw [upd_ne hb] at e
      exact (I.hok b u e).stay (fun _ _ _ q => q) (fun c q => by rw [upd_ne (ne_of_none q f2)]; exact q) fun c xs q => by rw [upd_ne (ne_of_none q f2)]; exact q
end
/-- what 'except x as n: .. return ..' wishes of an exception of the body; the exception stays, as a worth -/
def wVal (K : PySem.W.Frag) (c : Value) (i : Nat) (ts : Addr → Value → Option Addr → TS) (Wout : WX) (D : Ends) : WX := fun cls d σ H =>
  ∃ b, PySem.W.exmOne K cls c = some b ∧ (b = true → ∀ a, H a = none → ts a cls d { nx := fun _ _ => False, rt := fun v H2 => H2 a = none → D.rt v (upd H2 a (exv a cls d)), bk := fun _ _ => False, ct := fun _ _ => False } (σ.set i (some (.ref a))) H) ∧ (b = false → Wout cls d σ H)
section
variable {X : Cx} {x n : Str} {c : Value} {i : Nat} {body suite : List Stmt} {b₀ : Stmt} {np pos pos' : Pos} {tb : WX → TS} {ts : Addr → Value → Option Addr → TS} {Wout : WX}
theorem ps_try_val (hs : X.stack = X.env :: X.outer) (hfr0 : X.env.frame = some X.env.locals) (hex : X.ex = []) (hN : X.N.Nodup) (hi : X.N[i]? = some n) (hln : X.env.kindOf n = some .local) (hc : Names X x c) (tk : Takes X Wout)
    (hb : ∀ (W : WX) (pn : List (Addr × Obj)) (xe : Value → Shared → Prop), Takes (X.tr pn xe) W → PassesOwn (model X.prog X.w) X.A X.env xe → PSs (X.tr pn xe) body (tb W))
    (hsu : ∀ (a : Addr) (oe : Obj) (cls : Value) (d : Option Addr) (pn : List (Addr × Obj)), Zc cls d oe → (∃ vs, oe.data = .fields vs) → PSs (X.suite a ((a, oe) :: pn)) (b₀ :: suite) (ts a cls d)) :
    PS X (.Try body [.ExceptHandler (some (.Name x np)) (some n) (b₀ :: suite) pos'] [] [] pos) (fun D σ H => tb (wVal X.K c i ts Wout D) D σ H) := by
  refine ⟨fun pins s σ H D I h => ?_⟩
  have ok := I.ok
  have hstk : X.A.frames = some (X.env :: X.outer) := by rw [ok.frames, hs]
  have hloc : Loc X.env.scope n := .inl hln
  refine wpAny_Try_except ?_
  refine wpAny_mono ((hb (wVal X.K c i ts Wout D) (X.pn ++ pins) (fun e u1 => wpAny (model X.prog X.w) X.A (noteFrame e X.env) (fun _ u2 => wpAny (model X.prog X.w) X.A (setFlight e none) (fun _ u3 =>
    wpAny (model X.prog X.w) X.A (handleBy e X.env [.ExceptHandler (some (.Name x np)) (some n) (b₀ :: suite) pos']) (SP X pins D) X.xe u3) X.xe u2) X.xe u1) (fun u u0 air => ?_) PassesOwn.looking).run [] s σ H D (I.toTry _) h) (fun f u1 hsp => ?_) (fun e u1 he => he)
  · obtain ⟨a, B, sI, pins', σ', H', cls, d, rfl, J', nb, up, sky, na, os, ag, b, hb1, hyes, hno⟩ := air
    have J : Inv X pins σ' H' sI := J'.ofTry ok
    have sky2 : Sky B (X.env :: X.outer) a (Zc cls d) X.env.locals u0.heap := by rw [← hs]; exact sky
    show wpAny (model X.prog X.w) X.A (noteFrame (.ref a) X.env) _ _ _
    refine Sky.land Zc.steady hstk hfr0 sky2 fun h3 fl3 up3 => ?_
    have J3 : Inv X pins σ' H' { u0 with heap := h3 } := J.landed nb fl3.1 (up.trans up3) os ag
    obtain ⟨oe3, vs3, he3, hz3, hd3⟩ := fl3.there
    have Bno : B.get? a = none := fl3.2.1
    have nfr : a ∉ frs (X.env :: X.outer) := fun hm => by
      obtain ⟨_, o2, e2, hnf⟩ := fl3.2.2.1.mem hm
      rw [he3] at e2
      cases e2
      exact hnf _ hd3
    have nL : a ≠ X.env.locals := fun z => nfr (List.mem_filterMap.mpr ⟨X.env, List.mem_cons_self, by rw [hfr0, z]⟩)
    have nF : a ∉ X.fs := fun hm => by
      obtain ⟨e, q1, q2⟩ := List.mem_filterMap.mp hm
      exact nfr (List.mem_filterMap.mpr ⟨e, List.mem_cons_of_mem _ q1, q2⟩)
    have notIn : ∀ b o, sI.heap.get? b = some o → b ∉ frs X.stack → b ≠ a := fun b o e1 e2 z => by
      have q := nb b o e1 e2
      rw [z, Bno] at q
      cases q
    have stkN : ∀ b, b ∉ frs X.stack ∨ b ∈ frs (X.env :: X.outer) := fun b => by
      by_cases q : b ∈ frs X.stack
      · exact .inr (by rw [← hs]; exact q)
      · exact .inl q
    have n0 : X.s_0.heap.get? a = none := by
      cases e : X.s_0.heap.get? a with
      | none => rfl
      | some o =>
        obtain ⟨o2, e2⟩ := J.base.there a o e (by rw [hex]; exact fun z => nomatch z)
        rcases stkN a with z | z
        · exact absurd rfl (notIn a o2 e2 z)
        · exact absurd z nfr
    have npin : ∀ p ∈ X.pn ++ pins, p.1 ≠ a := fun p hp z => by
      obtain ⟨e1, _, _, _, _⟩ := J.pin p hp
      rcases stkN p.1 with q | q
      · exact notIn p.1 p.2 e1 q z
      · exact nfr (by rw [← z]; exact q)
    have S3 := J3.suite he3 hd3 na nL nF
    refine wpAny_handleBy_cons (codeAny_handlers_test ?_) (by intro q; cases q)
    have LT : PySem.W.Looks (model X.prog X.w) h3 (typeOf (.ref a)) cls := fun A Q E s k q => wpAny_typeOf_ref (k _ _ he3) (by rw [hz3.1]; exact q)
    have LM := PySem.W.exm_one (M := model X.prog X.w) (J3.kIn) LT hb1
    have test : ∀ {Q : Value → Shared → Prop} {E : Value → Shared → Prop}, Q c { u0 with heap := h3 } → wpAny (model X.prog X.w) (X.A.mark (some (.ref a))) (eval (.Name x np) X.env) Q E { u0 with heap := h3 } := fun {Q E} q => by
      obtain ⟨hg, hdbg, hm | ⟨hm, hv, hnn⟩⟩ := hc
      · exact ld_glob (X := X.suite a ((a, oe3) :: (X.pn ++ pins))) S3 hg hm q hdbg
      · exact ld_blt (X := X.suite a ((a, oe3) :: (X.pn ++ pins))) S3 hg hm hv q hnn hdbg
    refine test (LM.here ?_)
    cases b with
    | true =>
      refine codeAny_handlers_suite_as ?_
      refine HandSPX.lands_againZ fl3 fun h4 fl4 up4 => ?_
      have J4 : Inv X pins σ' H' { u0 with heap := h4 } := J.landed nb fl4.1 ((up.trans up3).trans up4) os ag
      obtain ⟨oe4, vs4, he4, hz4, hd4⟩ := fl4.there
      have S4 := J4.suite he4 hd4 na nL nF
      refine store_ok (X := X.suite a ((a, oe4) :: (X.pn ++ pins))) (v := .ref a) S4 hN hi hloc rfl (fun s5 S5 => ?_) (.inr hln)
      refine wpAny_mono ((hsu a oe4 cls d (X.pn ++ pins) hz4 ⟨_, hd4⟩).run [] s5 _ H' _ S5 (hyes rfl a na)) (fun f u6 hsp => ?_) (fun _ _ z => False.elim z)
      cases f with
      | next =>
        obtain ⟨_, _, _, q6⟩ := hsp
        exact q6.elim
      | brk =>
        obtain ⟨_, _, _, q6⟩ := hsp
        exact q6.elim
      | cont =>
        obtain ⟨_, _, _, q6⟩ := hsp
        exact q6.elim
      | ret u =>
        obtain ⟨v6, σ6, H6, S6, r6, q6⟩ := hsp
        have P6 := S6.pin (a, oe4) (List.mem_append_left _ List.mem_cons_self)
        have J6 : Inv X ((a, oe4) :: pins) σ6 H6 u6 := (S6.unsuite ok).pins_of fun p hp => by
          rcases List.mem_cons.mp hp with e | hp
          · rw [e]
            exact P6
          · exact (S6.unsuite ok).pin p (List.mem_append_right _ hp)
        refine gone_ok J6 hN hi hln fun s7 J7 => ?_
        exact ⟨_, _, _, inv_trackX J7 n0 hz4 hd4 npin, r6, q6 P6.2.1⟩
    | false =>
      show wpAny _ X.A (handleBy (.ref a) X.env []) _ _ _
      refine wpAny_handleBy_nil ?_
      obtain ⟨k1, k2, k3, oe, vs, T, oT, ts', he, hz, hd, h1, hr⟩ := id fl3
      unfold PySem.passOn
      refine wpAny_bind (wpAny_field he hd h1 ?_)
      rw [if_neg (show ¬ ((Value.ref T == Value.none) = true) from by simp)]
      have fin : wpAny (model X.prog X.w) X.A (setFlight (.ref a) X.env.frame) (fun _ s4 => wpAny (model X.prog X.w) X.A (throw (.ref a) : Sem Flow) (SP X pins D) X.xe s4) X.xe { u0 with heap := h3 } := by
        rw [hfr0]
        refine HandSPX.setFlight_upZ fl3 fun h4 hh4 up4 => wpAny_throw (tk _ _ ?_)
        exact ⟨a, B, sI, pins, σ', H', cls, d, rfl, J, nb, (up.trans up3).trans up4, .inr (.inr (by rw [hs]; exact hh4)), na, os, ag, hno rfl⟩
      first
        | exact wpAny_bind (wpAny_pure (wpAny_bind fin))
        | exact wpAny_bind fin
  · cases f with
    | next =>
      obtain ⟨z1, z2, z3, q⟩ := hsp
      exact wpAny_execs_nil ⟨z1, z2, z3.ofTry ok, q⟩
    | brk =>
      obtain ⟨z1, z2, z3, q⟩ := hsp
      exact ⟨z1, z2, z3.ofTry ok, q⟩
    | cont =>
      obtain ⟨z1, z2, z3, q⟩ := hsp
      exact ⟨z1, z2, z3.ofTry ok, q⟩
    | ret u =>
      obtain ⟨v, z1, z2, z3, r, q⟩ := hsp
      exact ⟨v, z1, z2, z3.ofTry ok, r, q⟩
end
end Kg
namespace Kg
open PySem PySem.Spec PyProof.Rows L2 LamX
/-! ### an error that is held as a worth: its class, its field, its repr -/
/-- what isinstance and a field ask of the class at C -/
structure XvC (K : PySem.W.Frag) (C : Addr) : Prop where
  x : L2.ExcC K C
  f : L2.XfC K C
theorem exv_inst {P : Program} {w : World} {H : Hp} {h : Heap} {a d C : Addr} {fs : List (Str × V)} (hok : HOk P w H h) (e1 : H a = some (exv a (.ref C) (some d))) (e2 : H d = some (.xd fs)) :
    ∃ (oe od : Obj) (mA : Str → Option Value), PySem.W.InstAt h a oe C (some od) ∧ (∀ n, PySem.W.lookIn n od = some (mA n)) ∧ ∀ n, RelO (fs.lookup n) (mA n) := by
  obtain ⟨⟨oe, vs, g1, g2, g3⟩, _, _⟩ := hok a _ e1
  obtain ⟨mA, hns, hr⟩ := (show ObjOk P w H h d (.xd fs) from hok d _ e2)
  obtain ⟨od, ho, hl⟩ := lookIn_ns hns
  exact ⟨oe, od, mA, ⟨g1, g2.1, by unfold PySem.W.notCls; rw [g3] <;> rfl, by rw [g2.2]; exact ho⟩, hl, hr⟩
def rIsv (K : PySem.W.Frag) : List V → Hp → VK → Prop := fun xs H Q => ∃ (a d C : Addr) (fs : List (Str × V)) (c : V) (u : Value) (b : Bool), xs = [.ref a, c] ∧ H a = some (exv a (.ref C) (some d)) ∧ H d = some (.xd fs) ∧ XvC K C ∧ ClsV c u ∧ PySem.W.kitOne K (.ref C) u = some b ∧ Q (.bl b) H
section
variable {X : Cx}
theorem call_isv : CallR X (.builtin "isinstance") (rIsv X.K) := by
  intro pins s σ H xs us Q I r h
  obtain ⟨a, d, C, fs, c, u, b, rfl, e1, e2, T, k, e, q⟩ := h
  obtain ⟨u1, u2, rfl, r1, r2⟩ := vals2 r
  obtain rfl := k.eq r2
  cases (show u1 = Value.ref a from r1)
  obtain ⟨oe, od, mA, J, _, _⟩ := exv_inst I.hok e1 e2
  have hc : (PySem.W.clsIn X.K C).isSome = true := by
    obtain ⟨cd, hc, _⟩ := PySem.W.any_some T.x.hd
    rw [hc]
    rfl
  exact PySem.W.kia_one (PySem.W.kitx_exc hc T.x.hg T.x.hk T.x.hs T.x.ha T.x.hn T.x.ht T.x.hm) I.kIn J e (fun z => nomatch z) fun tk => ⟨.bl b, H, I.tok tk, rfl, q⟩
def tXv (K : PySem.W.Frag) (n : Str) (te : TE) : TE := fun σ H Q => te σ H fun x H1 => ∃ (a d C : Addr) (fs : List (Str × V)) (v : V), x = .ref a ∧ H1 a = some (exv a (.ref C) (some d)) ∧ H1 d = some (.xd fs) ∧ XvC K C ∧ PySem.W.findIn K (.ref C) n = some none ∧ fs.lookup n = some v ∧ Q v H1
theorem pe_xv {e : Expr} {te : TE} {pos : Pos} {n : Str} (he : PE X e te) (hb : attributeBase e n X.env (eval e X.env) = eval e X.env := by rfl) : PE X (.Attribute e n pos) (tXv X.K n te) := by
  refine ⟨fun pins s σ H Q I h => ?_⟩
  refine attr_of hb (thn (he.run pins s σ H _ I h) fun u s1 hh => ?_)
  obtain ⟨x, H1, I1, rx, a, d, C, fs, v, rfl, e1, e2, T, hno, hl, q⟩ := hh
  obtain rfl : u = Value.ref a := rx
  obtain ⟨oe, od, mA, J, lk, hr⟩ := exv_inst I1.hok e1 e2
  obtain ⟨u, hu, ru⟩ := RelO.some_of (v := v) (o := mA n) (by rw [← hl]; exact hr n)
  exact HandSPX.exc_get I1.kIn J T.f.ga T.f.gg T.f.exC (PySem.W.findObj_own T.f.hdC hno rfl (by rw [lk, hu])) (handed_of ru) ⟨v, H1, I1.tok _, ru, q⟩
/-- repr of a tuple of two whole numbers, where no repr is under way -/
def two (i j : Int) : PyData := .tuple [.int i, .int j]
def rRep2 : List V → Hp → VK → Prop := fun xs H Q => ∃ (t : Addr) (i j : Int), xs = [.ref t] ∧ H t = some (.tup [.int i, .int j]) ∧ i.natAbs.log2 < 1920 ∧ j.natAbs.log2 < 1920 ∧ (two i j).shown.length ≤ sizeLine ∧ Q (.str (two i j).shown) H
theorem call_rep2 {k : Nat} (hr : Room k X.A) (hg : X.A.guards = some []) : CallR X (.builtin "repr") rRep2 := by
  intro pins s σ H xs us Q I r h
  obtain ⟨t, i, j, rfl, ht, zi, zj, zl, q⟩ := h
  obtain ⟨u1, rfl, r1⟩ := vals1 r
  cases (show u1 = Value.ref t from r1)
  obtain ⟨_, its, rv, o, h1, h2, n, h3⟩ := (show ObjOk X.prog X.w H s.heap t (.tup [.int i, .int j]) from I.hok t _ ht)
  cases rv with
  | cons ra rr =>
    cases rr with
    | cons rb rr =>
      cases rr
      obtain ⟨ta, rfl⟩ := ra
      obtain ⟨tb, rfl⟩ := rb
      have rd : Reads s.heap (.ref t) (two i j) ([] ++ ([] ++ [])) := .tuple h1 h2 h3 (.cons (.int _ _) (.cons (.int _ _) .nil))
      have sh : (two i j).showable = true := by
        unfold two PyData.showable PyData.showableAll PyData.showableAll PyData.showableAll PyData.showable
        simp [zi, zj]
      have un := hr.un
      have dp : (two i j).depth ≤ 100 := by
        unfold two
        simp [PyData.depth, PyData.depthAll]
      refine repr_of_reads' rd sh (fun z => by simp [two, PyData.hasDict, PyData.hasDictAll] at z) hg (by omega) (fun b o e => e) (fun h' u tk kp => ?_) zl
      exact ⟨.str _, H, I.kept (t' := tk) kp, ⟨u, rfl⟩, q⟩
end
end Kg
namespace Kg
open PySem PySem.Spec PyProof.Rows L2 LamX
section
variable {X : Cx}
def tThunk (P : Program) (w : World) (K : PySem.W.Frag) (mg : Str → Option Value) (B : Heap) (k i : Nat) (E : L2.St → XK) : TE := fun σ H Q => ∃ (f : Addr) (sp : Hp → VK → XK → Prop), σ[i]? = some (some (.ref f)) ∧ (∃ oc od fd sl, B.get? f = some ⟨oc, od, .func fd, sl⟩) ∧ Thunk P w K mg B k f sp ∧ sp H Q (E σ)
/-- a name's thunk, called within a try -/
theorem pe_thunkS (P : Program) (w : World) (K : PySem.W.Frag) (mg : Str → Option Value) (B : Heap) {i k : Nat} {a : Str} {E : L2.St → XK} {p1 p2 : Pos} (hN : X.N[i]? = some a) (hv : Vis X.env.scope a) (hr : Room k X.A) (hx : ∀ σ, PassesAt (L2.CX X.prog X.w) X σ (E σ)) (hd : (a == ("__debug__" : Str)) = false := by decide) (hcd : (a == ("__classdict__" : Str)) = false := by decide) (e1 : X.prog = P := by rfl) (e2 : X.w = w := by rfl) (e3 : X.K = K := by rfl) (e4 : X.mg = mg := by rfl) (e5 : X.base = B := by rfl) :
    PE X (.Call (.Name a p1) [] [] p2) (tThunk P w K mg B k i E) := by
  subst e1 e2 e3 e4 e5
  refine ⟨fun pins s σ H Q I h => ?_⟩
  obtain ⟨f, sp, hs, ⟨oc, od, fd, sl, hf⟩, ht, hsp⟩ := h
  refine wpAny_Call_Name_kw (thn ((pe_var (pos := p1) (i := i) hN hv hd hcd).run pins s σ H (fun v H1 => v = .ref f ∧ H1 = H) I ⟨.ref f, hs, rfl, rfl⟩) fun u s1 ⟨v, H1, I1, r1, ev, eH⟩ => ?_)
  subst ev eH
  obtain rfl : u = Value.ref f := r1
  refine PySem.W.callWith_F0 ⟨_, _, _, _, I1.bk _ _ hf⟩ ?_
  refine wpAny_call (codeAny_mono (ht X.A X.stack s1 H1 Q (E σ) hr I1.env0 hsp) fun r u2 hq => ?_)
  cases r with
  | error e => exact hx σ pins H1 s1 e u2 I1 hq
  | ok fl =>
    cases fl with
    | ret u => exact I1.after hq
    | next => exact False.elim hq
    | brk => exact False.elim hq
    | cont => exact False.elim hq
end
abbrev sCaught : Stmt := top 57
abbrev sIsRefused : Stmt := top 58
abbrev sLawWord : Stmt := top 60
/-- what is asked of a thunk, so that its call may be caught -/
def spCaught (P : Program) (w : World) (K : PySem.W.Frag) (mg : Str → Option Value) (CK : Addr) (B : Heap) : Sp := fun vs H Q _ => ∃ (f : Addr) (sp : Hp → VK → XK → Prop), vs = [.ref f] ∧ (∃ oc od fd sl, B.get? f = some ⟨oc, od, .func fd, sl⟩) ∧ Thunk P w K mg B 11 f sp ∧
  ∀ (Q1 : VK) (E1 : XK), (∀ v H1, (∀ t, H1 t = none → Q (.ref t) (upd H1 t (.tup [.non, v]))) → Q1 v H1) →
    (∀ cls d H1, (PySem.W.exmOne K cls (.ref CK) = some true ∧ ∀ a t, H1 a = none → H1 t = none → t ≠ a → Q (.ref t) (upd (upd H1 t (.tup [.ref a, .non])) a (exv a cls d))) → E1 cls d H1) → sp H Q1 E1
theorem scCaught : FnScope ["call", "act", "seized"] ["call"] (defScope sCaught) := ⟨rfl, rfl, rfl, by decide +kernel, rfl, by decide +kernel, by decide +kernel⟩
section
variable {P : Program} {w : World} {K : PySem.W.Frag} {mg : Str → Option Value} {base : Heap} {f CB CK fC fW : Addr} {fd fdC fdW : FuncData}
theorem ok_caught (F : FnP K "_law_caught" "_law_caught" sCaught f fd) (gK : mg "KeptError" = some (.ref CK)) : FnOk P w K mg base CX0 12 f fd ["call"] (spCaught P w K mg CK base) := by
  refine F.ok scCaught (fun vs H Q E h => ?_) (fun cdv A outer s H vs Q E hr h => ?_)
  · obtain ⟨f, sp, rfl, _⟩ := h
    rfl
  · refine ⟨_, pss_cons (ps_try_val (i := 2) (c := .ref CK) rfl rfl rfl scCaught.nd rfl rfl ⟨rfl, by decide, .inl gK⟩ L2.takes0
        (fun W pn xe tk _ => pss_one (ps_set (i := 1) scCaught.nd rfl (Or.inl rfl) (pe_thunkS P w K mg base (i := 0) rfl (Or.inl rfl) hr (fun σ => passAt tk σ))))
        (fun a oe cls d pn _ _ => pss_one (ps_ret (pe_tup (pa_cons (pv 2) (pa_cons pe_non pa_nil))))))
      (pss_one (ps_ret (pe_tup (pa_cons pe_non (pa_cons (pv 1) pa_nil))))), ?_⟩
    obtain ⟨f, sp, rfl, hf, ht, hsp⟩ := h
    refine ⟨f, sp, rfl, hf, ht, ?_⟩
    refine hsp _ _ (fun v H1 k => ?_) fun cls d H1 ⟨hex, k⟩ => ⟨true, hex, fun _ a na => ?_, fun q => nomatch q⟩
    · exact ⟨_, rfl, (by show 2 ≤ sizeLine; decide), fun t nt => k t nt⟩
    · refine ⟨_, rfl, (by show 2 ≤ sizeLine; decide), fun t nt na2 => ?_⟩
      have ne : t ≠ a := fun z => by
        rw [z, upd_same] at na2
        cases na2
      exact k a t na nt ne
end
end Kg
namespace Kg
open PySem PySem.Spec PyProof.Rows L2 LamX
section
variable {K : PySem.W.Frag} {x qual : Str} {params : Arguments} {body : List Stmt} {scope : Scope} {dvs : List V} {kws : List (Str × V)} {f : Addr} {fd : FuncData} {P : Program} {w : World} {mg : Str → Option Value} {base : Heap}
/-- a def by its body, where no repr is under way at its call -/
theorem okG {XT : CXT} {N ps : List Str} {k : Nat} {sp : Sp} (F : FunD K x qual params body scope dvs kws f fd) (sc : FnScope N ps scope) (many : ∀ vs H Q E, sp vs H Q E → vs.length = ps.length)
    (walk : ∀ (cdv : Value) (A : Around) (outer : List Env) (s : Shared) (H : Hp) (vs : List V) (Q : VK) (E : XK), Room k (A.deeper (envOfC qual scope s.heap.objs.size f cdv)) → A.guards = some [] → sp vs H Q E →
      ∃ t, PSs (cxOf XT P w K mg base N qual scope f cdv A outer s H E) body t ∧ t { nx := fun _ H2 => Q .non H2, rt := Q } (start N vs) H) : FnG P w K mg base XT (k + 1) f fd ps sp := by
  obtain ⟨oc, od, dV, kV, doc, pm, an, cdv, ct, osl, rfl, lk, hcd, _, _⟩ := F.ex
  refine ⟨many, fun A outer s H args us vs Q E room quiet env0 bound rel asked => ?_⟩
  have same : vs.length = ps.length := many _ _ _ _ asked
  have inK : K.In s.heap := env0.mod.kin.keeps fun b o q => (env0.bs b o q).1
  have noLim : s.heap.NoLimit := env0.mod.nolimit.keeps fun b o q => (env0.bs b o q).1
  refine codeAny_call_function room.depth (inK _ _ lk) rfl sc.co sc.gen rfl (PySem.W.codeRec_of inK hcd) (bound _ _ _ _ ?_)
  refine wpAny_newFunctionEnv_cells sc.kind (fun ⟨n, v⟩ hy => ?_) fun env isEnv s1 fresh => ?_
  · rcases sc.par n (List.of_mem_zip hy).1 with q | q
    · exact .inl q
    · exact .inr ⟨q, PySem.W.cellsFrom_some _ _ _ (.inl q)⟩
  subst isEnv
  refine ⟨noLim.keeps fresh.toInCall.keep, codeAny_func ?_⟩
  obtain ⟨t, term, reading⟩ := walk cdv A outer s H vs Q E (room.deeper _) quiet asked
  have J : Inv (cxOf XT P w K mg base N qual scope f cdv A outer s H E) [] (start N vs) H s1 := inv_start sc room.hd env0 same rel fresh
  refine wpAny_mono (term.run [] s1 (start N vs) H _ J reading) (fun flow s2 got => ?_) fun e s2 got => got
  cases flow with
  | ret u =>
    obtain ⟨v, σ2, H2, J2, rv, q⟩ := got
    exact ⟨v, H2, J2.os, J2.bare, J2.base, J2.hok, rv, q⟩
  | next =>
    obtain ⟨σ2, H2, J2, q⟩ := got
    exact ⟨V.non, H2, J2.os, J2.bare, J2.base, J2.hok, rfl, q⟩
  | brk =>
    obtain ⟨_, _, _, q⟩ := got
    exact q.elim
  | cont =>
    obtain ⟨_, _, _, q⟩ := got
    exact q.elim
end
section
variable {X : Cx} {XT : CXT} {k : Nat} {f : Addr} {fd : FuncData} {ps ks : List Str} {sp : Sp} {E : XK} {x : Str} {p pos : Pos} {e : Expr} {es : List Expr} {t : TA}
/-- f(e, ..) of such a def -/
theorem pe_callG (F : FnG X.prog X.w X.K X.mg X.base XT k f fd ps sp) (hr : Room k X.A) (quiet : X.A.guards = some []) (hg : Gl X x) (hm : X.mg x = some (.ref f)) (hk : PySem.W.keepIn X.K (.ref f) = true) (hb : Binds X.K fd ps []) (hx : Passes XT X E)
    (ha : PA X (e :: es) t) (hdb : (x == ("__debug__" : Str)) = false := by decide) (he : starEach (e :: es) X.env = (false, eval e X.env) :: starEach es X.env := by rfl) (hpl : (backTo pos (starEach es X.env)).any (·.1) = false := by rfl) :
    PE X (.Call (.Name x p) (e :: es) [] pos) (tCall sp [] E t) := by
  refine ⟨fun pins s σ H Q I h => ?_⟩
  refine wpAny_Call_Name_kw (ld_glob I hg hm ?_ hdb)
  refine PySem.W.callWith_K (h₀ := X.base) I.ok.mod.kin hk (thn (ha.run pos pins s σ H _ I h) fun us s1 ⟨vs, H1, I1, r, q⟩ => ⟨I1.kIn, ?_⟩) he hpl
  have q2 : sp (vs ++ []) H1 Q E := q
  rw [List.append_nil] at q2
  have hl : us.length = ps.length := by
    rw [← r.length]
    exact F.many _ _ _ _ q2
  have b := hb s1 us I1.kIn (by rw [List.append_nil]; exact hl)
  rw [List.append_nil] at b
  refine wpAny_call (codeAny_mono (F.go X.A X.stack s1 H1 ⟨us, []⟩ us vs Q E hr quiet I1.env0 b r q2) fun r2 s2 got => ?_)
  cases r2 with
  | error e => exact hx pins σ H1 s1 e s2 I1 got
  | ok fl =>
    cases fl with
    | ret u => exact I1.after got
    | next => exact False.elim got
    | brk => exact False.elim got
    | cont => exact False.elim got
end
abbrev LW : Str := "text"
def spLawWord (CB : Addr) : Sp := fun vs H Q _ => ∃ (a d : Addr) (fs : List (Str × V)), vs = [.ref a] ∧ H a = some (exv a (.ref CB) (some d)) ∧ H d = some (.xd fs) ∧ Q (.str LW) H
def spRefused (P : Program) (w : World) (K : PySem.W.Frag) (mg : Str → Option Value) (CB : Addr) (B : Heap) : Sp := fun vs H Q _ => ∃ (f T : Addr) (i j : Int) (sp : Hp → VK → XK → Prop), vs = [.ref f, .str LW, .ref T] ∧ H T = some (.tup [.int i, .int j]) ∧
  i.natAbs.log2 < 1920 ∧ j.natAbs.log2 < 1920 ∧ (two i j).shown.length ≤ sizeLine ∧ (∃ oc od fd sl, B.get? f = some ⟨oc, od, .func fd, sl⟩) ∧ Thunk P w K mg B 11 f sp ∧
  (∀ (Q1 : VK) (E1 : XK), (∀ d T1 H1, Same H H1 → H1 d = some (.xd [(("value" : Str), V.ref T1)]) → H1 T1 = some (.tup [.int i, .int j]) → E1 (.ref CB) (some d) H1) → sp H Q1 E1) ∧ ∀ H1, Same H H1 → Q (.bl true) H1
/-- what the law's own functions ask of the error's classes -/
structure LT (K : PySem.W.Frag) (mg : Str → Option Value) (CB CK : Addr) : Prop where
  x : XvC K CB
  noV : PySem.W.findIn K (.ref CB) "value" = some none
  gB : mg "BadText" = some (.ref CB)
  gK : mg "KeptError" = some (.ref CK)
  isi : mg "isinstance" = none
  rep : mg "repr" = none
  kB : PySem.W.kitOne K (.ref CB) (.ref CB) = some true
  kK : PySem.W.kitOne K (.ref CB) (.ref CK) = some true
  kV : PySem.W.kitOne K (.ref CB) (.type "ValueError") = some true
  eK : PySem.W.exmOne K (.ref CB) (.ref CK) = some true
  vE : mg "ValueError" = none
theorem scLawWord : FnScope ["error"] ["error"] (defScope sLawWord) := ⟨rfl, rfl, rfl, by decide +kernel, rfl, by decide +kernel, by decide +kernel⟩
theorem scRefused : FnScope ["call", "word", "value", "seized"] ["call", "word", "value"] (defScope sIsRefused) := ⟨rfl, rfl, rfl, by decide +kernel, rfl, by decide +kernel, by decide +kernel⟩
section
variable {P : Program} {w : World} {K : PySem.W.Frag} {mg : Str → Option Value} {base : Heap} {f CB CK fC fW : Addr} {fd fdC fdW : FuncData}
theorem ok_lawword (F : FnP K "_law_word" "_law_word" sLawWord f fd) (T : LT K mg CB CK) : FnOk P w K mg base CX0 1 f fd ["error"] (spLawWord CB) := by
  refine F.ok scLawWord (fun vs H Q E h => ?_) (fun cdv A outer s H vs Q E hr h => ?_)
  · obtain ⟨a, d, fs, rfl, _⟩ := h
    rfl
  · obtain ⟨a, d, fs, rfl, e1, e2, k⟩ := h
    refine ⟨_, pss_one (ps_ret (pe_ifExp (pt_val (pe_callB call_isv (by rfl) T.isi (by decide +kernel) (pa_cons (pv 0) (pa_cons (pe_glob (v := .ref CB) rfl T.gB rfl) pa_nil)))) pe_str pe_str)), ?_⟩
    refine ⟨_, rfl, a, d, CB, fs, .ref CB, .ref CB, true, rfl, e1, e2, T.x, .own _, T.kB, _, rfl, ?_⟩
    refine iteT ?_
    exact k
theorem ok_refused (F : FnP K "_law_is_refused" "_law_is_refused" sIsRefused f fd) (T : LT K mg CB CK) (FC : FnP K "_law_caught" "_law_caught" sCaught fC fdC) (FW : FnP K "_law_word" "_law_word" sLawWord fW fdW)
    (gC : mg "_law_caught" = some (.ref fC)) (gW : mg "_law_word" = some (.ref fW)) : FnG P w K mg base CX0 13 f fd ["call", "word", "value"] (spRefused P w K mg CB base) := by
  have GC : FnOk P w K mg base CX0 12 fC fdC ["call"] (spCaught P w K mg CK base) := ok_caught FC T.gK
  have GW : FnOk P w K mg base CX0 1 fW fdW ["error"] (spLawWord CB) := ok_lawword FW T
  have bC : Binds K fdC ["call"] [] := FC.bindsN fun _ _ _ _ _ _ us hl => match us, hl with | [_], _ => rfl
  have bW : Binds K fdW ["error"] [] := FW.bindsN fun _ _ _ _ _ _ us hl => match us, hl with | [_], _ => rfl
  refine okG F scRefused (fun vs H Q E h => ?_) (fun cdv A outer s H vs Q E hr hgu h => ?_)
  · obtain ⟨f, T, i, j, sp, rfl, _⟩ := h
    rfl
  · obtain ⟨f, T1, i, j, sp, rfl, hT, zi, zj, zl, hf, th, hsp, k⟩ := h
    refine ⟨_, pss_cons (ps_set (i := 3) scRefused.nd rfl (Or.inl rfl) (pe_ix ix_tup (pe_call GC hr rfl gC FC.kp bC .nil pass0 (pa_cons (pv 0) pa_nil)) pe_int (fun _ _ => rfl)))
      (pss_one (ps_ret (pe_and (pe_cmpR op_eq (pe_call GW (hr.mono (by decide)) rfl gW FW.kp bW .nil pass0 (pa_cons (pv 3) pa_nil)) (pv 1) (nomark _))
        (pe_one (pe_cmpR op_eq (pe_callB (call_rep2 hr hgu) (by rfl) T.rep (by decide +kernel) (pa_cons (pe_xv (pv 3)) pa_nil)) (pe_callB (call_rep2 hr hgu) (by rfl) T.rep (by decide +kernel) (pa_cons (pv 2) pa_nil)) (nomark _)))))), ?_⟩
    refine ⟨_, rfl, f, sp, rfl, hf, th, fun Q1 E1 _ kE => hsp Q1 E1 fun d T2 H1 s1 hd hT2 => kE _ _ _ ⟨T.eK, fun a t na nt ne => ?_⟩⟩
    have ht : upd (upd H1 t (.tup [.ref a, .non])) a (exv a (.ref CB) (some d)) t = some (.tup [.ref a, .non]) := by
      rw [upd_ne ne, upd_same]
    have ha : upd (upd H1 t (.tup [.ref a, .non])) a (exv a (.ref CB) (some d)) a = some (exv a (.ref CB) (some d)) := upd_same
    have sm : Same H1 (upd (upd H1 t (.tup [.ref a, .non])) a (exv a (.ref CB) (some d))) := fun b o q => by
      rw [upd_ne (ne_of_none q na), upd_ne (ne_of_none q nt)]
      exact q
    refine ⟨t, [.ref a, .non], 0, .ref a, rfl, rfl, SqT.of ht, atI_nat (j := 0) rfl, ?_⟩
    refine ⟨_, rfl, a, d, _, rfl, ha, sm _ _ hd, ?_⟩
    refine ⟨_, rfl, rfl, _, rfl, ?_⟩
    refine iteT ?_
    refine ⟨_, rfl, a, d, CB, _, .ref T2, rfl, ha, sm _ _ hd, T.x, T.noV, rfl, ?_⟩
    refine ⟨T2, i, j, rfl, sm _ _ hT2, zi, zj, zl, ?_⟩
    refine ⟨_, rfl, T1, i, j, rfl, sm _ _ (s1 _ _ hT), zi, zj, zl, ?_⟩
    refine ⟨rfl, ?_⟩
    rw [show (decide (V.str (two i j).shown = V.str (two i j).shown)) = true from by simp]
    exact k _ (s1.trans sm)
end
end Kg
namespace Kg
open PySem PySem.Spec PyProof.Rows L2 LamX
abbrev sLawPot : Stmt := top 53
abbrev sLawTake : Stmt := top 54
abbrev sLawOf : Stmt := top 55
abbrev sCells : Stmt := top 56
/-- a power whose size is known -/
theorem op_powB {X : Cx} : OpR X (binaryOp .Pow) (rI (fun i j => 0 ≤ j ∧ (Builtin.Int.intBits i : Int) * j ≤ 2 ^ 27) fun i j => .int (i ^ j.toNat)) := opI fun _ _ _ _ _ _ _ hc q => pow_int hc.1 hc.2 q
structure BT (mg : Str → Option Value) : Prop where
  len : mg "len" = none
  int : mg "int" = none
  sum : mg "sum" = none
  abs : mg "abs" = none
  range : mg "range" = none
  list : mg "list" = none
  max : mg "max" = none
  min : mg "min" = none
  all : mg "all" = none
def PMod : Int := 2305843009213693921
/-- the pot at p -/
def PotAt (H : Hp) (p : Addr) (n : Int) : Prop := ∃ a b c : Int, H p = some (.lst [.int a, .int b, .int c]) ∧ 0 ≤ b ∧ b < PMod ∧ 0 ≤ c ∧ c ≤ n
def SameBut (H H' : Hp) (p : Addr) : Prop := ∀ b o, b ≠ p → H b = some o → H' b = some o
def spLawPot (K : PySem.W.Frag) : Sp := fun vs H Q _ => ∃ (l : Addr) (ns : List Int) (j : Nat), vs = [.ref l, .int (j : Int)] ∧ SqL K H l (ns.map V.int) ∧ ns.length ≤ 100 ∧ j ≤ 10 ∧ (j < ns.length ∨ ns = []) ∧
  ∀ p H', Same H H' → H p = none → PotAt H' p 0 → Q (.ref p) H'
def spTakeL : Sp := fun vs H Q _ => ∃ (p : Addr) (m n : Int), vs = [.ref p, .int m] ∧ PotAt H p n ∧ n ≤ 100 ∧ 0 < m ∧ m < 1000 ∧ ∀ r H', 0 ≤ r → r < m → SameBut H H' p → PotAt H' p (n + 1) → Q (.int r) H'
def spOf (K : PySem.W.Frag) : Sp := fun vs H Q _ => ∃ (p l : Addr) (xs : List V) (n : Int), vs = [.ref p, .ref l] ∧ PotAt H p n ∧ n ≤ 100 ∧ H l = some (.lst xs) ∧ l ≠ p ∧ xs ≠ [] ∧ xs.length < 100 ∧
  ∀ x H', x ∈ xs → SameBut H H' p → PotAt H' p (n + 1) → Q x H'
def spCells (K : PySem.W.Frag) : Sp := fun vs H Q _ => ∃ (l : Addr) (xs : List V), vs = [.ref l, .int 2] ∧ SqL K H l xs ∧ xs.length ≤ 100 ∧
  ∀ q, H q = none → ∀ c : Nat, 0 < c → c ≤ 2 → (c ≤ xs.length ∨ (c = 1 ∧ xs = [])) → Q (.ref q) (upd H q (.lst (rgV 0 c)))
theorem scLawPot : FnScope ["script", "place", "cell", "own", "small"] ["script", "place"] (defScope sLawPot) := ⟨rfl, rfl, rfl, by decide +kernel, rfl, by decide +kernel, by decide +kernel⟩
theorem scTakeL : FnScope ["pot", "upto", "digit", "prime", "blend"] ["pot", "upto"] (defScope sLawTake) := ⟨rfl, rfl, rfl, by decide +kernel, rfl, by decide +kernel, by decide +kernel⟩
theorem scLawOf : FnScope ["pot", "some"] ["pot", "some"] (defScope sLawOf) := ⟨rfl, rfl, rfl, by decide +kernel, rfl, by decide +kernel, by decide +kernel⟩
theorem scCells : FnScope ["script", "limit"] ["script", "limit"] (defScope sCells) := ⟨rfl, rfl, rfl, by decide +kernel, rfl, by decide +kernel, by decide +kernel⟩
section
variable {P : Program} {w : World} {K : PySem.W.Frag} {mg : Str → Option Value} {base : Heap} {f fT : Addr} {fd fdT : FuncData}
theorem bit_small (k : Bool) : -(2 ^ 64) < (if k = true then (1 : Int) else 0) ∧ (if k = true then (1 : Int) else 0) < 2 ^ 64 := by cases k <;> decide
theorem ok_cells (F : FnP K "_law_cells" "_law_cells" sCells f fd) (T : BT mg) : FnOk P w K mg base CX0 1 f fd ["script", "limit"] (spCells K) := by
  refine F.ok scCells (fun vs H Q E h => ?_) (fun cdv A outer s H vs Q E hr h => ?_)
  · obtain ⟨l, xs, rfl, _⟩ := h
    rfl
  · obtain ⟨l, xs, rfl, hl, hz, k⟩ := h
    refine ⟨_, pss_one (ps_ret (pe_listRg rfl rfl T.list (prg_1 rfl T.range (pe_callB (call_max2 rfl) (by rfl) T.max (by decide +kernel) (pa_cons pe_int (pa_cons (pe_callB (call_min2 rfl) (by rfl) T.min (by decide +kernel) (pa_cons (pv 1) (pa_cons (pe_callB call_len_seq (by rfl) T.len PySem.boot_len (pa_cons (pv 0) pa_nil)) pa_nil))) pa_nil)))))), ?_⟩
    refine ⟨_, rfl, _, rfl, l, xs, rfl, .inl hl, 2, _, rfl, 1, _, rfl, _, rfl, ?_⟩
    have hc : ∃ c : Nat, 0 < c ∧ c ≤ 2 ∧ (c ≤ xs.length ∨ (c = 1 ∧ xs = [])) ∧ (if (if (xs.length : Int) < 2 then (xs.length : Int) else 2) > 1 then (if (xs.length : Int) < 2 then (xs.length : Int) else 2) else 1) = (c : Int) := by
      cases xs with
      | nil => exact ⟨1, by decide, by decide, .inr ⟨rfl, rfl⟩, rfl⟩
      | cons x r =>
        cases r with
        | nil => exact ⟨1, by decide, by decide, .inl (by simp), rfl⟩
        | cons y r =>
          refine ⟨2, by decide, by decide, .inl (by simp), ?_⟩
          have : ¬ (((x :: y :: r).length : Int) < 2) := by simp only [List.length_cons]; omega
          rw [if_neg this]
          rfl
    obtain ⟨c, c0, c2, cx, ec⟩ := hc
    show RgOk 0 _ ∧ _
    rw [ec]
    exact ⟨RgOk.of_le (by decide) (by omega) (by decide) (by omega), fun q hq => k q hq c c0 c2 cx⟩
theorem ok_lawpot (F : FnP K "_law_pot" "_law_pot" sLawPot f fd) (T : BT mg) : FnOk P w K mg base CX0 1 f fd ["script", "place"] (spLawPot K) := by
  refine F.ok scLawPot (fun vs H Q E h => ?_) (fun cdv A outer s H vs Q E hr h => ?_)
  · obtain ⟨l, ns, j, rfl, _⟩ := h
    rfl
  · obtain ⟨l, ns, j, rfl, hl, hz, hj, hc, k⟩ := h
    refine ⟨_, pss_cons (ps_set (i := 2) scLawPot.nd rfl (Or.inl rfl) (pe_ifExp (pt_cmpR op_lt (pv 1) (pe_callB call_len_seq (by rfl) T.len PySem.boot_len (pa_cons (pv 0) pa_nil)) (nomark _)) (pe_ix ix_list (pv 0) (pv 1) (fun _ _ => rfl))
          (pe_op op_add (pe_op op_add (pe_op op_mod (pe_callTy call_int1 (by rfl) T.int (by decide +kernel) (pa_cons (pe_callB (cr_sum rfl) (by rfl) T.sum (by decide +kernel) (pa_cons (pe_slice sl_list (pv 0) po_none (po_some pe_int)) pa_nil)) pa_nil)) pe_int) (pe_op op_mul pe_int (pv 1))) pe_int)))
      (pss_cons (ps_set (i := 3) scLawPot.nd rfl (Or.inl rfl) (pe_op op_mul (pe_op op_mod (pe_callTy call_int1 (by rfl) T.int (by decide +kernel) (pa_cons (pe_callB call_abs (by rfl) T.abs (by decide +kernel) (pa_cons (pv 2) pa_nil)) pa_nil)) (pe_op op_powB (pe_op op_pow pe_int pe_int) pe_int))
          (pe_callTy call_int1 (by rfl) T.int (by decide +kernel) (pa_cons (pe_cmpR op_ge (pe_callB call_abs (by rfl) T.abs (by decide +kernel) (pa_cons (pv 2) pa_nil)) (pe_op op_pow pe_int pe_int) (nomark _)) pa_nil))))
      (pss_cons (ps_set (i := 4) scLawPot.nd rfl (Or.inl rfl) (pe_op op_mod (pe_callTy call_int1 (by rfl) T.int (by decide +kernel) (pa_cons (pv 2) pa_nil)) pe_int))
      (pss_one (ps_ret (pe_lst (pa_cons (pv 3) (pa_cons (pe_op op_mod (pe_callTy call_int1 (by rfl) T.int (by decide +kernel) (pa_cons (pe_op op_add (pe_op op_add (pe_op op_mul (pv 4) pe_int) (pe_op op_mul (pe_op op_mul pe_int (pv 1)) (pv 1))) pe_int) pa_nil)) pe_int) (pa_cons pe_int pa_nil)))))))), ?_⟩
    refine ⟨_, rfl, _, rfl, l, _, rfl, .inl hl, ?_⟩
    refine ⟨_, _, rfl, rfl, _, rfl, ?_⟩
    cases hd : decide ((j : Int) < ((ns.map V.int).length : Int)) with
    | true =>
      refine iteT ?_
      have hlt : (j : Int) < ((ns.map V.int).length : Int) := of_decide_eq_true hd
      rw [List.length_map] at hlt
      have hj2 : j < ns.length := by omega
      refine ⟨_, rfl, _, rfl, l, _, (j : Int), .int ns[j], rfl, rfl, hl, atI_nat (j := j) (by simp [hj2]), ?_⟩
      refine ⟨_, rfl, _, rfl, .inl ⟨_, rfl, ?_⟩⟩
      refine ⟨_, _, rfl, rfl, ⟨by decide, by decide, by decide⟩, ?_⟩
      refine ⟨_, _, rfl, rfl, ⟨by decide, by decide +kernel⟩, ?_⟩
      refine ⟨_, _, rfl, rfl, (by show (0 : Int) < (10 ^ (60 : Int).toNat) ^ (5 : Int).toNat; decide +kernel), ?_⟩
      refine ⟨_, rfl, _, rfl, ?_⟩
      refine ⟨_, _, rfl, rfl, ⟨by decide, by decide, by decide⟩, ?_⟩
      refine ⟨_, _, rfl, rfl, .inr ⟨_, rfl, ?_⟩⟩
      refine ⟨_, _, rfl, rfl, .inr (bit_small _), ?_⟩
      refine ⟨_, rfl, .inl ⟨_, rfl, ?_⟩⟩
      refine ⟨_, _, rfl, rfl, (by show (0 : Int) < _; decide), ?_⟩
      refine ⟨_, rfl, _, rfl, ?_⟩
      refine ⟨_, _, rfl, rfl, .inl ⟨Int.lt_of_lt_of_le (by decide) (Int.emod_nonneg _ (by decide)), Int.lt_trans (Int.emod_lt_of_pos _ (by decide)) (by decide)⟩, ?_⟩
      refine ⟨_, rfl, _, _, rfl, rfl, .inl ⟨by decide, by decide⟩, ?_⟩
      refine ⟨_, rfl, _, _, rfl, rfl, .inr ⟨by omega, by omega⟩, ?_⟩
      refine ⟨_, _, rfl, rfl, ?_⟩
      refine ⟨_, _, rfl, rfl, .inl ⟨_, rfl, ?_⟩⟩
      refine ⟨_, _, rfl, rfl, (by show (0 : Int) < _; decide), ?_⟩
      refine ⟨(by show 3 ≤ sizeLine; decide), fun p hp => ?_⟩
      exact k p _ (same_upd hp) hp ⟨_, _, _, upd_same, Int.emod_nonneg _ (by decide), Int.emod_lt_of_pos _ (by decide), by decide, by decide⟩
    | false =>
      refine iteF ?_
      have hlt : ¬ (j : Int) < ((ns.map V.int).length : Int) := of_decide_eq_false hd
      rw [List.length_map] at hlt
      have he : ns = [] := by
        rcases hc with h1 | h1
        · exact absurd (by omega) hlt
        · exact h1
      subst he
      refine ⟨_, rfl, (1 : Int), rfl, l, _, rfl, hl, fun q hq => ?_⟩
      refine ⟨q, [], rfl, SqL.of upd_same, .inl ⟨_, rfl, ?_⟩⟩
      refine ⟨_, _, rfl, rfl, (by show (0 : Int) < _; decide), ?_⟩
      refine ⟨_, rfl, _, _, rfl, rfl, .inl ⟨by decide, by decide⟩, ?_⟩
      refine ⟨_, _, rfl, rfl, ?_⟩
      refine ⟨_, _, rfl, rfl, ?_⟩
      refine ⟨_, rfl, _, rfl, .inl ⟨_, rfl, ?_⟩⟩
      refine ⟨_, _, rfl, rfl, ⟨by decide, by decide, by decide⟩, ?_⟩
      refine ⟨_, _, rfl, rfl, ⟨by decide, by decide +kernel⟩, ?_⟩
      refine ⟨_, _, rfl, rfl, (by show (0 : Int) < (10 ^ (60 : Int).toNat) ^ (5 : Int).toNat; decide +kernel), ?_⟩
      refine ⟨_, rfl, _, rfl, ?_⟩
      refine ⟨_, _, rfl, rfl, ⟨by decide, by decide, by decide⟩, ?_⟩
      refine ⟨_, _, rfl, rfl, .inr ⟨_, rfl, ?_⟩⟩
      refine ⟨_, _, rfl, rfl, .inr (bit_small _), ?_⟩
      refine ⟨_, rfl, .inl ⟨_, rfl, ?_⟩⟩
      refine ⟨_, _, rfl, rfl, (by show (0 : Int) < _; decide), ?_⟩
      refine ⟨_, rfl, _, rfl, ?_⟩
      refine ⟨_, _, rfl, rfl, .inl ⟨Int.lt_of_lt_of_le (by decide) (Int.emod_nonneg _ (by decide)), Int.lt_trans (Int.emod_lt_of_pos _ (by decide)) (by decide)⟩, ?_⟩
      refine ⟨_, rfl, _, _, rfl, rfl, .inl ⟨by decide, by decide⟩, ?_⟩
      refine ⟨_, rfl, _, _, rfl, rfl, .inr ⟨by omega, by omega⟩, ?_⟩
      refine ⟨_, _, rfl, rfl, ?_⟩
      refine ⟨_, _, rfl, rfl, .inl ⟨_, rfl, ?_⟩⟩
      refine ⟨_, _, rfl, rfl, (by show (0 : Int) < _; decide), ?_⟩
      refine ⟨(by show 3 ≤ sizeLine; decide), fun p hp => ?_⟩
      exact k p _ ((same_upd hq).trans (same_upd hp)) (free_of hp) ⟨_, _, _, upd_same, Int.emod_nonneg _ (by decide), Int.emod_lt_of_pos _ (by decide), by decide, by decide⟩
theorem ok_lawtake (F : FnP K "_law_take" "_law_take" sLawTake f fd) (T : BT mg) : FnOk P w K mg base CX0 1 f fd ["pot", "upto"] spTakeL := by
  refine F.ok scTakeL (fun vs H Q E h => ?_) (fun cdv A outer s H vs Q E hr h => ?_)
  · obtain ⟨p, m, n, rfl, _⟩ := h
    rfl
  · obtain ⟨p, m, n, rfl, ⟨a, b, c, hp, hb0, hb1, hc0, hc1⟩, hn, hm0, hm1, k⟩ := h
    refine ⟨_, pss_cons (ps_if (pt_cmpR op_gt (pe_ix ix_list (pv 0) pe_int (fun _ _ => rfl)) pe_int (nomark _))
        (pss_cons (ps_set (i := 2) scTakeL.nd rfl (Or.inl rfl) (pe_op op_mod (pe_callTy call_int1 (by rfl) T.int (by decide +kernel) (pa_cons (pe_ix ix_list (pv 0) pe_int (fun _ _ => rfl)) pa_nil)) (pv 1)))
        (pss_cons (ps_asg (pe_op op_fdiv (pe_ix ix_list (pv 0) pe_int (fun _ _ => rfl)) (pv 1)) (pg_sub (pv 0) pe_int set_list))
        (pss_one (ps_ret (pv 2))))) pss_nil)
      (pss_cons (ps_asg (pe_op op_add (pe_ix ix_list (pv 0) pe_int (fun _ _ => rfl)) pe_int) (pg_sub (pv 0) pe_int set_list))
      (pss_cons (ps_set (i := 3) scTakeL.nd rfl (Or.inl rfl) (pe_ix ix_list (pe_lst (pa_cons pe_int (pa_cons pe_int (pa_cons pe_int (pa_cons pe_int (pa_cons pe_int pa_nil)))))) (pe_op op_mod (pe_callTy call_int1 (by rfl) T.int (by decide +kernel) (pa_cons (pe_ix ix_list (pv 0) pe_int (fun _ _ => rfl)) pa_nil)) pe_int) (fun _ _ => rfl)))
      (pss_cons (ps_set (i := 4) scTakeL.nd rfl (Or.inl rfl) (pe_op op_mod (pe_callTy call_int1 (by rfl) T.int (by decide +kernel) (pa_cons (pe_op op_pow (pe_callTy call_int1 (by rfl) T.int (by decide +kernel) (pa_cons (pe_op op_add (pe_op op_add (pe_ix ix_list (pv 0) pe_int (fun _ _ => rfl)) (pe_op op_mul (pe_op op_mul pe_int (pe_ix ix_list (pv 0) pe_int (fun _ _ => rfl))) (pe_ix ix_list (pv 0) pe_int (fun _ _ => rfl)))) pe_int) pa_nil)) pe_int) pa_nil)) (pv 3)))
      (pss_one (ps_ret (pe_op op_mod (pe_callTy call_int1 (by rfl) T.int (by decide +kernel) (pa_cons (pe_op op_fdiv (pe_op op_mul (pv 4) (pe_op op_add (pe_op op_mod (pe_callTy call_int1 (by rfl) T.int (by decide +kernel) (pa_cons (pv 4) pa_nil)) pe_int) (pe_op op_mul pe_int (pe_ix ix_list (pv 0) pe_int (fun _ _ => rfl))))) pe_int) pa_nil)) (pv 1))))))), ?_⟩
    have sq : SqL K H p [.int a, .int b, .int c] := SqL.of hp
    refine ⟨_, rfl, p, _, 0, .int a, rfl, rfl, sq, atI_nat (j := 0) rfl, ?_⟩
    refine ⟨_, _, rfl, rfl, _, rfl, ?_⟩
    cases hd : decide (a > 0) with
    | true =>
      refine iteT ?_
      have ha : a > 0 := of_decide_eq_true hd
      refine ⟨_, rfl, p, _, 0, .int a, rfl, rfl, sq, atI_nat (j := 0) rfl, .inl ⟨_, rfl, ?_⟩⟩
      refine ⟨_, rfl, _, _, rfl, rfl, hm0, ?_⟩
      refine ⟨_, rfl, p, _, 0, .int a, rfl, rfl, sq, atI_nat (j := 0) rfl, ?_⟩
      refine ⟨_, rfl, _, _, rfl, rfl, ⟨hm0, by omega⟩, ?_⟩
      refine ⟨_, rfl, p, _, 0, 0, rfl, rfl, hp, rfl, ?_⟩
      refine ⟨_, rfl, ?_⟩
      exact k _ _ (Int.emod_nonneg _ (by omega)) (Int.emod_lt_of_pos _ hm0) (fun q o ne e => by rw [upd_ne ne]; exact e) ⟨_, b, c, upd_same, hb0, hb1, hc0, by omega⟩
    | false =>
      refine iteF ?_
      refine ⟨_, rfl, p, _, 2, .int c, rfl, rfl, sq, atI_nat (j := 2) rfl, ?_⟩
      refine ⟨_, _, rfl, rfl, ?_⟩
      refine ⟨_, rfl, p, _, 2, 2, rfl, rfl, hp, rfl, ?_⟩
      have hp2 : upd H p (.lst [.int a, .int b, .int (c + 1)]) p = some (.lst [.int a, .int b, .int (c + 1)]) := upd_same
      have kp : SameBut H (upd H p (.lst [.int a, .int b, .int (c + 1)])) p := fun q o ne e => by rw [upd_ne ne]; exact e
      refine ⟨(by show 5 ≤ sizeLine; decide), fun l hl => ?_⟩
      have nl : p ≠ l := ne_of_none hp2 hl
      have hp3 : upd (upd H p (.lst [.int a, .int b, .int (c + 1)])) l (.lst [.int 2147483647, .int 2147483629, .int 2147483587, .int 2147483579, .int 2147483563]) p = some (.lst [.int a, .int b, .int (c + 1)]) := by rw [upd_ne nl]; exact hp2
      have sq3 := SqL.of (K := K) hp3
      refine ⟨_, rfl, p, _, 2, .int (c + 1), rfl, rfl, sq3, atI_nat (j := 2) rfl, .inl ⟨_, rfl, ?_⟩⟩
      refine ⟨_, _, rfl, rfl, (by show (0 : Int) < 5; decide), ?_⟩
      have hpr : ∃ (j : Nat) (q : Int), (c + 1) % 5 = (j : Int) ∧ ([.int 2147483647, .int 2147483629, .int 2147483587, .int 2147483579, .int 2147483563] : List V)[j]? = some (.int q) ∧ 0 < q ∧ q < 2147483648 := by
        have h1 := Int.emod_nonneg (c + 1) (show (5 : Int) ≠ 0 by decide)
        have h2 := Int.emod_lt_of_pos (c + 1) (show (0 : Int) < 5 by decide)
        generalize (c + 1) % 5 = r at h1 h2
        have : r = 0 ∨ r = 1 ∨ r = 2 ∨ r = 3 ∨ r = 4 := by omega
        rcases this with e | e | e | e | e <;> subst e
        · exact ⟨0, _, rfl, rfl, by decide, by decide⟩
        · exact ⟨1, _, rfl, rfl, by decide, by decide⟩
        · exact ⟨2, _, rfl, rfl, by decide, by decide⟩
        · exact ⟨3, _, rfl, rfl, by decide, by decide⟩
        · exact ⟨4, _, rfl, rfl, by decide, by decide⟩
      obtain ⟨j, pr, ej, hj, hp0, hp1⟩ := hpr
      refine ⟨l, _, _, .int pr, rfl, rfl, SqL.of upd_same, by rw [ej]; exact atI_nat hj, ?_⟩
      refine ⟨_, rfl, p, _, 1, .int b, rfl, rfl, sq3, atI_nat (j := 1) rfl, ?_⟩
      refine ⟨_, rfl, p, _, 2, .int (c + 1), rfl, rfl, sq3, atI_nat (j := 2) rfl, ?_⟩
      refine ⟨_, _, rfl, rfl, .inl ⟨by decide, by decide⟩, ?_⟩
      refine ⟨_, rfl, p, _, 2, .int (c + 1), rfl, rfl, sq3, atI_nat (j := 2) rfl, ?_⟩
      refine ⟨_, _, rfl, rfl, .inr ⟨by omega, by omega⟩, ?_⟩
      refine ⟨_, _, rfl, rfl, ?_⟩
      refine ⟨_, _, rfl, rfl, ?_⟩
      refine .inl ⟨_, rfl, ?_⟩
      refine ⟨_, _, rfl, rfl, ⟨by decide, by decide, ?_⟩, ?_⟩
      · have h1 : c + 1 ≤ 101 := by omega
        have h2 : (c + 1) * (c + 1) ≤ 101 * 101 := Int.mul_le_mul h1 h1 (by omega) (by omega)
        have h3 : 0 ≤ (c + 1) * (c + 1) := Int.mul_nonneg (by omega) (by omega)
        have h4 : ∀ q : Int, q * (c + 1) * (c + 1) = q * ((c + 1) * (c + 1)) := fun q => Int.mul_assoc _ _ _
        rw [h4]
        unfold PMod at hb1
        generalize (c + 1) * (c + 1) = z at h2 h3
        omega
      refine .inl ⟨_, rfl, ?_⟩
      refine ⟨_, rfl, _, _, rfl, rfl, hp0, ?_⟩
      refine ⟨_, rfl, _, rfl, .inl ⟨_, rfl, ?_⟩⟩
      refine ⟨_, _, rfl, rfl, (by show (0 : Int) < _; decide), ?_⟩
      refine ⟨_, rfl, p, _, 2, .int (c + 1), rfl, rfl, sq3, atI_nat (j := 2) rfl, ?_⟩
      refine ⟨_, _, rfl, rfl, .inl ⟨by decide, by decide⟩, ?_⟩
      refine ⟨_, _, rfl, rfl, ?_⟩
      refine ⟨_, _, rfl, rfl, .inl ⟨Int.lt_of_lt_of_le (by decide) (Int.emod_nonneg _ (by omega)), Int.lt_trans (Int.emod_lt_of_pos _ hp0) (by omega)⟩, ?_⟩
      refine ⟨_, _, rfl, rfl, ⟨by decide, by decide⟩, ?_⟩
      refine .inl ⟨_, rfl, ?_⟩
      refine ⟨_, rfl, _, _, rfl, rfl, hm0, ?_⟩
      exact k _ _ (Int.emod_nonneg _ (by omega)) (Int.emod_lt_of_pos _ hm0) (fun q o ne e => by rw [upd_ne (ne_of_none (kp q o ne e) hl)]; exact kp q o ne e) ⟨a, b, c + 1, hp3, hb0, hb1, by omega, by omega⟩
theorem ok_lawof (F : FnP K "_law_of" "_law_of" sLawOf f fd) (T : BT mg) (FT : FnP K "_law_take" "_law_take" sLawTake fT fdT) (gT : mg "_law_take" = some (.ref fT)) : FnOk P w K mg base CX0 2 f fd ["pot", "some"] (spOf K) := by
  have GT : FnOk P w K mg base CX0 1 fT fdT ["pot", "upto"] spTakeL := ok_lawtake FT T
  have bT : Binds K fdT ["pot", "upto"] [] := FT.bindsN fun _ _ _ _ _ _ us hl => match us, hl with | [_, _], _ => rfl
  refine F.ok scLawOf (fun vs H Q E h => ?_) (fun cdv A outer s H vs Q E hr h => ?_)
  · obtain ⟨p, l, xs, n, rfl, _⟩ := h
    rfl
  · obtain ⟨p, l, xs, n, rfl, hp, hn, hl, ne, hx, hz, k⟩ := h
    refine ⟨_, pss_one (ps_ret (pe_ix ix_list (pv 1) (pe_call GT hr rfl gT FT.kp bT .nil pass0 (pa_cons (pv 0) (pa_cons (pe_callB call_len_seq (by rfl) T.len PySem.boot_len (pa_cons (pv 1) pa_nil)) pa_nil))) (fun _ _ => rfl))), ?_⟩
    refine ⟨_, rfl, _, rfl, _, rfl, l, _, rfl, .inl (SqL.of hl), p, (xs.length : Int), n, rfl, hp, hn, ?_⟩
    have hx0 : 0 < xs.length := List.length_pos_iff.mpr hx
    refine ⟨by omega, by omega, fun r H' r0 r1 sb pn => ?_⟩
    have hr2 : r.toNat < xs.length := by omega
    refine ⟨l, xs, r, xs[r.toNat], rfl, rfl, SqL.of (sb _ _ ne hl), ?_, ?_⟩
    · have z := atI_nat (xs := xs) (j := r.toNat) (v := xs[r.toNat]) (by simp [hr2])
      rw [Int.toNat_of_nonneg r0] at z
      exact z
    · exact k _ _ (List.getElem_mem _) sb pn
end
end Kg
namespace Kg
open PySem PySem.Spec PyProof.Rows L2 LamX
abbrev sOdd : Stmt := top 59
abbrev sRight : Stmt := top 61
abbrev sLaw : Stmt := top 62
section
variable {K : PySem.W.Frag} {H : Hp}
theorem nst_non : NotStr K H .non := ⟨_, .base .non, kit_ty (by decide +kernel)⟩
theorem nst_bl (b : Bool) : NotStr K H (.bl b) := ⟨_, .base (.bl b), kit_ty (by decide +kernel)⟩
theorem nst_int (i : Int) : NotStr K H (.int i) := ⟨_, .base (.int i), kit_ty (by decide +kernel)⟩
theorem nst_lst {a : Addr} {xs : List V} (e : H a = some (.lst xs)) : NotStr K H (.ref a) := ⟨_, .base (.lst e), kit_ty (by decide +kernel)⟩
theorem nst_tup {a : Addr} {xs : List V} (e : H a = some (.tup xs)) : NotStr K H (.ref a) := ⟨_, .base (.tup e), kit_ty (by decide +kernel)⟩
theorem nst_dK {a : Addr} {kvs : List (Key × V)} (e : H a = some (.dK kvs)) : NotStr K H (.ref a) := ⟨_, .base (.dK e), kit_ty (by decide +kernel)⟩
end
/-- a value of the law's own that is no string, as it stands -/
def OddV (H : Hp) (v : V) : Prop := v = .non ∨ (∃ b, v = .bl b) ∨ (∃ i, v = .int i) ∨ ∃ a, v = .ref a ∧ ((∃ xs, H a = some (.lst xs)) ∨ (∃ xs, H a = some (.tup xs)) ∨ ∃ kvs, H a = some (.dK kvs))
theorem OddV.nst {K : PySem.W.Frag} {H : Hp} {v : V} (h : OddV H v) : NotStr K H v := by
  rcases h with rfl | ⟨b, rfl⟩ | ⟨i, rfl⟩ | ⟨a, rfl, ⟨xs, e⟩ | ⟨xs, e⟩ | ⟨xs, e⟩⟩
  · exact nst_non
  · exact nst_bl b
  · exact nst_int i
  · exact nst_lst e
  · exact nst_tup e
  · exact nst_dK e
theorem OddV.keep {H H' : Hp} {v : V} (h : OddV H v) (k : ∀ a o, v = .ref a → H a = some o → (∀ ps, o ≠ .tbl ps) → H' a = some o) : OddV H' v := by
  rcases h with rfl | ⟨b, rfl⟩ | ⟨i, rfl⟩ | ⟨a, rfl, ⟨xs, e⟩ | ⟨xs, e⟩ | ⟨xs, e⟩⟩
  · exact .inl rfl
  · exact .inr (.inl ⟨b, rfl⟩)
  · exact .inr (.inr (.inl ⟨i, rfl⟩))
  · exact .inr (.inr (.inr ⟨a, rfl, .inl ⟨xs, k a _ rfl e (fun _ z => nomatch z)⟩⟩))
  · exact .inr (.inr (.inr ⟨a, rfl, .inr (.inl ⟨xs, k a _ rfl e (fun _ z => nomatch z)⟩)⟩))
  · exact .inr (.inr (.inr ⟨a, rfl, .inr (.inr ⟨xs, k a _ rfl e (fun _ z => nomatch z)⟩)⟩))
theorem OddV.lst {H : Hp} {a : Addr} {xs : List V} (e : H a = some (.lst xs)) : OddV H (.ref a) := .inr (.inr (.inr ⟨a, rfl, .inl ⟨xs, e⟩⟩))
theorem OddV.tup {H : Hp} {a : Addr} {xs : List V} (e : H a = some (.tup xs)) : OddV H (.ref a) := .inr (.inr (.inr ⟨a, rfl, .inr (.inl ⟨xs, e⟩)⟩))
theorem OddV.dK {H : Hp} {a : Addr} {xs : List (Key × V)} (e : H a = some (.dK xs)) : OddV H (.ref a) := .inr (.inr (.inr ⟨a, rfl, .inr (.inr ⟨xs, e⟩)⟩))
def spOdd : Sp := fun vs H Q _ => ∃ (p : Addr) (n : Int), vs = [.ref p] ∧ PotAt H p n ∧ n ≤ 100 ∧ ∀ x H', OddV H' x → SameBut H H' p → PotAt H' p (n + 1) → Q x H'
theorem scOdd : FnScope ["pot"] ["pot"] (defScope sOdd) := ⟨rfl, rfl, rfl, by decide +kernel, rfl, by decide +kernel, by decide +kernel⟩
section
variable {P : Program} {w : World} {K : PySem.W.Frag} {mg : Str → Option Value} {base : Heap} {f fO fT : Addr} {fd fdO fdT : FuncData}
theorem pot_ext {H H' : Hp} {p : Addr} {n : Int} (h : PotAt H p n) (s : Same H H') : PotAt H' p n := by
  obtain ⟨a, b, c, e, r⟩ := h
  exact ⟨a, b, c, s _ _ e, r⟩
theorem pot_lst {H : Hp} {p : Addr} {n : Int} (h : PotAt H p n) : ∃ xs, H p = some (.lst xs) := by
  obtain ⟨a, b, c, e, r⟩ := h
  exact ⟨_, e⟩
theorem ok_lawodd (F : FnP K "_law_odd" "_law_odd" sOdd f fd) (T : BT mg) (FO : FnP K "_law_of" "_law_of" sLawOf fO fdO) (FT : FnP K "_law_take" "_law_take" sLawTake fT fdT) (gO : mg "_law_of" = some (.ref fO)) (gT : mg "_law_take" = some (.ref fT)) : FnOk P w K mg base CX0 3 f fd ["pot"] spOdd := by
  have GO : FnOk P w K mg base CX0 2 fO fdO ["pot", "some"] (spOf K) := ok_lawof FO T FT gT
  have bO : Binds K fdO ["pot", "some"] [] := FO.bindsN fun _ _ _ _ _ _ us hl => match us, hl with | [_, _], _ => rfl
  refine F.ok scOdd (fun vs H Q E h => ?_) (fun cdv A outer s H vs Q E hr h => ?_)
  · obtain ⟨p, n, rfl, _⟩ := h
    rfl
  · obtain ⟨p, n, rfl, hp, hn, k⟩ := h
    refine ⟨_, pss_one (ps_ret (pe_call GO hr rfl gO FO.kp bO .nil pass0 (pa_cons (pv 0) (pa_cons (pe_lst (pa_cons pe_non (pa_cons pe_bl (pa_cons pe_bl (pa_cons (pe_lst pa_nil) (pa_cons pe_dnewK (pa_cons (pe_tup (pa_cons pe_bl pa_nil)) (pa_cons (pe_tup (pa_cons (pe_tup pa_nil) pa_nil))
      (pa_cons (pe_un un_neg pe_int) (pa_cons (pe_lst (pa_cons pe_int pa_nil)) (pa_cons (pe_tup (pa_cons pe_non pa_nil)) (pa_cons (pe_tup (pa_cons pe_int (pa_cons pe_non pa_nil))) pa_nil)))))))))))) pa_nil)))), ?_⟩
    refine ⟨_, rfl, (by show 0 ≤ sizeLine; decide), fun a1 n1 => ?_⟩
    intro a2 n2
    refine ⟨(by show 1 ≤ sizeLine; decide), fun a3 n3 => ⟨(by show 0 ≤ sizeLine; decide), fun a4 n4 => ⟨(by show 1 ≤ sizeLine; decide), fun a5 n5 => ⟨1, rfl, ⟨(by show 1 ≤ sizeLine; decide), fun a6 n6 => ⟨(by show 1 ≤ sizeLine; decide), fun a7 n7 => ⟨(by show 2 ≤ sizeLine; decide), fun a8 n8 => ⟨(by show 11 ≤ sizeLine; decide), fun l nl => ?_⟩⟩⟩⟩⟩⟩⟩⟩
    have tl := same_upd (o := .lst [.non, .bl true, .bl false, .ref a1, .ref a2, .ref a3, .ref a5, .int (-1), .ref a6, .ref a7, .ref a8]) nl
    have t7 := (same_upd (o := .tup [.int 0, .non]) n8).trans tl
    have t6 := (same_upd (o := .tup [.non]) n7).trans t7
    have t5 := (same_upd (o := .lst [.int 0]) n6).trans t6
    have t4 := (same_upd (o := .tup [.ref a4]) n5).trans t5
    have t3 := (same_upd (o := .tup []) n4).trans t4
    have t2 := (same_upd (o := .tup [.bl true]) n3).trans t3
    have t1 := (same_upd (o := .dK []) n2).trans t2
    have t0 := (same_upd (o := .lst []) n1).trans t1
    have np : ∀ {G : Hp} {q : Addr}, Same H G → G q = none → q ≠ p := fun sG nq z => by
      obtain ⟨xs, e⟩ := pot_lst hp
      rw [z, sG _ _ e] at nq
      cases nq
    have u1 := same_upd (o := .lst []) n1
    have u2 := u1.trans (same_upd (o := .dK []) n2)
    have u3 := u2.trans (same_upd (o := .tup [.bl true]) n3)
    have u4 := u3.trans (same_upd (o := .tup []) n4)
    have u5 := u4.trans (same_upd (o := .tup [.ref a4]) n5)
    have u6 := u5.trans (same_upd (o := .lst [.int 0]) n6)
    have u7 := u6.trans (same_upd (o := .tup [.non]) n7)
    have u8 := u7.trans (same_upd (o := .tup [.int 0, .non]) n8)
    refine ⟨p, l, _, n, rfl, pot_ext hp t0, hn, upd_same, np u8 nl, by simp, (by show 11 < 100; decide), fun x H' hx sb pn => k x H' ?_ (fun b o ne e => sb b o ne (t0 b o e)) pn⟩
    have mem : x = .non ∨ x = .bl true ∨ x = .bl false ∨ x = .ref a1 ∨ x = .ref a2 ∨ x = .ref a3 ∨ x = .ref a5 ∨ x = .int (-1) ∨ x = .ref a6 ∨ x = .ref a7 ∨ x = .ref a8 := by simpa using hx
    rcases mem with e | e | e | e | e | e | e | e | e | e | e <;> subst e
    · exact .inl rfl
    · exact .inr (.inl ⟨_, rfl⟩)
    · exact .inr (.inl ⟨_, rfl⟩)
    · exact .lst (sb _ _ (np (fun _ _ e => e) n1) (t1 _ _ upd_same))
    · exact .dK (sb _ _ (np u1 n2) (t2 _ _ upd_same))
    · exact .tup (sb _ _ (np u2 n3) (t3 _ _ upd_same))
    · exact .tup (sb _ _ (np u4 n5) (t5 _ _ upd_same))
    · exact .inr (.inr (.inl ⟨_, rfl⟩))
    · exact .lst (sb _ _ (np u5 n6) (t6 _ _ upd_same))
    · exact .tup (sb _ _ (np u6 n7) (t7 _ _ upd_same))
    · exact .tup (sb _ _ (np u7 n8) (tl _ _ upd_same))
end
end Kg
namespace Kg
open PySem PySem.Spec PyProof.Rows L2 LamX
section
variable {K : PySem.W.Frag} {x qual : Str} {params : Arguments} {body : List Stmt} {scope : Scope} {f : Addr} {P : Program} {w : World} {mg : Str → Option Value} {base : Heap}
/-- as okG, where the code object is known -/
theorem okGc {XT : CXT} {N ps : List Str} {k : Nat} {sp : Sp} {dV kV doc pm cdv ct oc : Value} {an od : Option Addr} {osl : Array (Option Value)} (lk : K.lookup f = some ⟨oc, od, .func (PySem.W.fnOf x qual params body scope dV kV doc pm an cdv ct), osl⟩) (hcd : PySem.W.codeIn K cdv qual = true)
    (sc : FnScope N ps scope) (many : ∀ vs H Q E, sp vs H Q E → vs.length = ps.length)
    (walk : ∀ (A : Around) (outer : List Env) (s : Shared) (H : Hp) (vs : List V) (Q : VK) (E : XK), Room k (A.deeper (envOfC qual scope s.heap.objs.size f cdv)) → A.guards = some [] → sp vs H Q E →
      ∃ t, PSs (cxOf XT P w K mg base N qual scope f cdv A outer s H E) body t ∧ t { nx := fun _ H2 => Q .non H2, rt := Q } (start N vs) H) : FnG P w K mg base XT (k + 1) f (PySem.W.fnOf x qual params body scope dV kV doc pm an cdv ct) ps sp := by
  refine ⟨many, fun A outer s H args us vs Q E room quiet env0 bound rel asked => ?_⟩
  have same : vs.length = ps.length := many _ _ _ _ asked
  have inK : K.In s.heap := env0.mod.kin.keeps fun b o q => (env0.bs b o q).1
  have noLim : s.heap.NoLimit := env0.mod.nolimit.keeps fun b o q => (env0.bs b o q).1
  refine codeAny_call_function room.depth (inK _ _ lk) rfl sc.co sc.gen rfl (PySem.W.codeRec_of inK hcd) (bound _ _ _ _ ?_)
  refine wpAny_newFunctionEnv_cells sc.kind (fun ⟨n, v⟩ hy => ?_) fun env isEnv s1 fresh => ?_
  · rcases sc.par n (List.of_mem_zip hy).1 with q | q
    · exact .inl q
    · exact .inr ⟨q, PySem.W.cellsFrom_some _ _ _ (.inl q)⟩
  subst isEnv
  refine ⟨noLim.keeps fresh.toInCall.keep, codeAny_func ?_⟩
  obtain ⟨t, term, reading⟩ := walk A outer s H vs Q E (room.deeper _) quiet asked
  have J : Inv (cxOf XT P w K mg base N qual scope f cdv A outer s H E) [] (start N vs) H s1 := inv_start sc room.hd env0 same rel fresh
  refine wpAny_mono (term.run [] s1 (start N vs) H _ J reading) (fun flow s2 got => ?_) fun e s2 got => got
  cases flow with
  | ret u =>
    obtain ⟨v, σ2, H2, J2, rv, q⟩ := got
    exact ⟨v, H2, J2.os, J2.bare, J2.base, J2.hok, rv, q⟩
  | next =>
    obtain ⟨σ2, H2, J2, q⟩ := got
    exact ⟨V.non, H2, J2.os, J2.bare, J2.base, J2.hok, rfl, q⟩
  | brk =>
    obtain ⟨_, _, _, q⟩ := got
    exact q.elim
  | cont =>
    obtain ⟨_, _, _, q⟩ := got
    exact q.elim
end
section
variable {X : Cx} {XT : CXT} {k : Nat} {f : Addr} {fd : FuncData} {n x : Str} {sp : Sp} {E : XK} {p pos kpos : Pos} {e : Expr} {te : TE}
theorem runKW {pins : List (Addr × Obj)} {σ : L2.St} {H : Hp} {s : Shared} {Q : VK} {args : Args} {us : List Value} {vs : List V} {ps : List Str} (F : FnOk X.prog X.w X.K X.mg X.base XT k f fd ps sp) (hr : Room k X.A) (hx : Passes XT X E) (I : Inv X pins σ H s) (b : BindsTo s fd args (ps.zip us)) (r : Vals vs us) (h : sp vs H Q E) :
    wpAny (model X.prog X.w) X.A (call (.ref f) args.pos args.kw) (EP X pins σ Q) X.xe s := by
  refine wpAny_call (codeAny_mono (F.run X.A X.stack s H args us vs Q E hr I.env0 b r h) fun r2 s3 got => ?_)
  cases r2 with
  | error e => exact hx pins σ H s e s3 I got
  | ok fl =>
    cases fl with
    | ret u => exact I.after got
    | next => exact False.elim got
    | brk => exact False.elim got
    | cont => exact False.elim got
def tCallKW (sp : Sp) (E : XK) (te : TE) : TE := fun σ H Q => tCons te tNil σ H fun zs H1 => sp zs H1 Q E
/-- f(n=e), f a def of this one parameter -/
theorem pe_callKW (F : FnOk X.prog X.w X.K X.mg X.base XT k f fd [n] sp) (hr : Room k X.A) (hg : Gl X x) (hm : X.mg x = some (.ref f)) (hk : PySem.W.keepIn X.K (.ref f) = true) (hb : ∀ (s : Shared) (u : Value), X.K.In s.heap → BindsTo s fd ⟨[], [(n, u)]⟩ [(n, u)]) (hx : Passes XT X E)
    (he : PE X e te) (hdb : (x == ("__debug__" : Str)) = false := by decide) (hall : (backToKw pos (keywordEach [⟨some n, e, kpos⟩] X.env)).all (·.1.isSome) = true := by rfl)
    (hks : (backToKw pos (keywordEach [⟨some n, e, kpos⟩] X.env)).filterMap (·.1) = [n] := by rfl) (hpl : ((backTo pos (starEach [] X.env)).any (·.1) || (backToKw pos (keywordEach [⟨some n, e, kpos⟩] X.env)).any (·.1.isNone)) = false := by rfl) :
    PE X (.Call (.Name x p) [] [⟨some n, e, kpos⟩] pos) (tCallKW sp E te) := by
  refine ⟨fun pins s σ H Q I h => ?_⟩
  refine wpAny_Call_Name_kw (ld_glob I hg hm ?_ hdb)
  refine PySem.W.callWith_KW0 (h₀ := X.base) I.ok.mod.kin hk hall (thn ((pk_cons (nm := some n) he pk_nil).run pos pins s σ H _ I h) fun ws s2 ⟨zs, H2, I2, rz, q2⟩ => ⟨I2.kIn, ?_⟩) hpl
  rw [hks]
  have hl := F.len _ _ _ _ q2
  cases rz with
  | nil => exact absurd hl (by simp)
  | cons r1 r2 =>
    cases r2 with
    | cons r3 r4 => exact absurd hl (by simp)
    | nil =>
      exact runKW F hr hx I2 (hb s2 _ I2.kIn) (.cons r1 .nil) q2
end
end Kg
namespace Kg
open PySem PySem.Spec PyProof.Rows L2 LamX
abbrev QL : Str := ("_law_right" : Str) ++ (".<locals>." : Str) ++ ("<lambda>" : Str)
def rightScope : FnScope ["pot", "value", "gap", "rows", "seized"] ["pot"] (defScope sRight) := ⟨rfl, rfl, rfl, by decide +kernel, rfl, by decide +kernel, by decide +kernel⟩
theorem right_cells {L f : Addr} {cdv : Value} : ∀ q ∈ (envOfC "_law_right" (defScope sRight) L f cdv).cells, (envOfC "_law_right" (defScope sRight) L f cdv).cells.lookup q.1 = some q.2 := by
  have e : ∃ a b : Addr, (envOfC "_law_right" (defScope sRight) L f cdv).cells = [(("value" : Str), a), (("gap" : Str), b)] := ⟨_, _, rfl⟩
  obtain ⟨a, b, e⟩ := e
  rw [e]
  intro q hq
  rcases List.mem_cons.mp hq with z | z
  · rw [z]
    rfl
  · rcases List.mem_cons.mp z with z | z
    · rw [z]
      rfl
    · cases z
def GAPS : List Str := ["", " ", "\n", ";a b\n", " \n ", ";", "\n\n"]
def gapB (y : Str) : Bool := decide (y.length ≤ 100) && (!(linesOf y).isEmpty) && decide ((linesOf y).length < 12) && (linesOf y).all (fun l => decide (l.length < 11) && decide ((codeOfLine l).length ≤ 100)) && decide (textWords y = [])
theorem gaps_all : GAPS.all gapB = true := by decide +kernel
structure GapOk (y : Str) : Prop where
  fits : Fits y
  words : textWords y = []
  many : (linesOf y).length < 12
  last : ((linesOf y).getLastD ("" : Str)).length + 1 < 12
theorem gap_ok {y : Str} (h : y ∈ GAPS) : GapOk y := by
  have b := List.all_eq_true.mp gaps_all y h
  unfold gapB at b
  simp only [Bool.and_eq_true, decide_eq_true_eq, List.all_eq_true, Bool.not_eq_true'] at b
  obtain ⟨⟨⟨⟨b1, b2⟩, b3⟩, b4⟩, b5⟩ := b
  have ne : linesOf y ≠ [] := fun z => by
    rw [z] at b2
    cases b2
  refine ⟨⟨by omega, ne, by omega, fun l hl => ⟨by have := (b4 l hl).1; omega, by have := (b4 l hl).2; omega⟩, by rw [b5]; decide⟩, b5, b3, ?_⟩
  rw [lastD_eq ne]
  have := (b4 _ (List.getLast_mem ne)).1
  omega
theorem two_small : ∀ i j : Fin 12, (two ((i.val : Nat) : Int) ((j.val : Nat) : Int)).shown.length ≤ 100 ∧ ((i.val : Nat) : Int).natAbs.log2 < 1920 := by decide +kernel
def OPENA : Str := "(a"
theorem openA_words : textWords OPENA = [(("(" : Str), 1, 1), (("a" : Str), 1, 2)] := by decide +kernel
theorem openA_end : textEnd OPENA = (1, 3) := by decide +kernel
theorem openA_b : (decide (OPENA.length ≤ 100) && (!(linesOf OPENA).isEmpty) && decide ((linesOf OPENA).length < 12) && (linesOf OPENA).all (fun l => decide (l.length < 11) && decide ((codeOfLine l).length ≤ 100))) = true := by decide +kernel
theorem openA_fits : Fits OPENA := by
  have b := openA_b
  simp only [Bool.and_eq_true, decide_eq_true_eq, List.all_eq_true, Bool.not_eq_true'] at b
  obtain ⟨⟨⟨b1, b2⟩, b3⟩, b4⟩ := b
  have ne : linesOf OPENA ≠ [] := fun z => by
    rw [z] at b2
    cases b2
  exact ⟨by omega, ne, by omega, fun l hl => ⟨by have := (b4 l hl).1; omega, by have := (b4 l hl).2; omega⟩, by rw [openA_words]; decide⟩
theorem openA_run : (match runE S0 (textWords OPENA) with | .inl S => !S.stack.isEmpty | .inr _ => false) = true := by
  rw [openA_words]
  decide +kernel
theorem openA_got : ∃ S, runE S0 (textWords OPENA) = .inl S ∧ S.stack ≠ [] := by
  have h := openA_run
  cases e : runE S0 (textWords OPENA) with
  | inl S =>
    rw [e] at h
    refine ⟨S, rfl, fun z => ?_⟩
    have h : (!S.stack.isEmpty) = true := h
    rw [z] at h
    cases h
  | inr p =>
    rw [e] at h
    cases h
structure RightT (K : PySem.W.Frag) (mg : Str → Option Value) (CB CK fRf fOd fOf fCa fRd fPr : Addr) : Prop where
  l : LT K mg CB CK
  b : BT mg
  gRf : mg "_law_is_refused" = some (.ref fRf)
  gOd : mg "_law_odd" = some (.ref fOd)
  gOf : mg "_law_of" = some (.ref fOf)
  gCa : mg "_law_caught" = some (.ref fCa)
  gRd : mg "read" = some (.ref fRd)
  gPr : mg "printed" = some (.ref fPr)
  kRf : PySem.W.keepIn K (.ref fRf) = true
  kOd : PySem.W.keepIn K (.ref fOd) = true
  kOf : PySem.W.keepIn K (.ref fOf) = true
  kCa : PySem.W.keepIn K (.ref fCa) = true
  kRd : PySem.W.keepIn K (.ref fRd) = true
  kPr : PySem.W.keepIn K (.ref fPr) = true
/-- all but what stands at p, and the tables, stays -/
def KB (p : Addr) (G G' : Hp) : Prop := ∀ b o, b ≠ p → G b = some o → (∀ ps, o ≠ .tbl ps) → G' b = some o
theorem KB.same {p : Addr} {H G G' : Hp} (k : KB p H G) (s : Same G G') : KB p H G' := fun b o n e t => s _ _ (k b o n e t)
theorem KB.extn {p : Addr} {H G G' : Hp} (k : KB p H G) (s : ExtN G G') : KB p H G' := fun b o n e t => s _ _ (k b o n e t) t
theorem KB.but {p : Addr} {H G G' : Hp} (k : KB p H G) (s : SameBut G G' p) : KB p H G' := fun b o n e t => s _ _ n (k b o n e t)
theorem KB.refl {p : Addr} {H : Hp} : KB p H H := fun b o n e t => e
theorem tabs_but {T : List (Addr × Str)} {H H' : Hp} {p : Addr} (t : Tabs T H) (s : SameBut H H' p) (h : ∃ xs, H p = some (.lst xs)) : Tabs T H' := fun q hq => by
  obtain ⟨xs, e⟩ := h
  obtain ⟨ps, h1, h2, h3⟩ := t q hq
  refine ⟨ps, s _ _ (fun z => by rw [z, e] at h1; cases h1) h1, h2, fun pos cv hc => ?_⟩
  obtain ⟨c, e1, e2⟩ := h3 pos cv hc
  exact ⟨c, e1, s _ _ (fun z => by rw [z, e] at e2; cases e2) e2⟩
theorem pot_extn {H H' : Hp} {p : Addr} {n : Int} (h : PotAt H p n) (s : ExtN H H') : PotAt H' p n := by
  obtain ⟨a, b, c, e, r⟩ := h
  exact ⟨a, b, c, s _ _ e (fun _ z => nomatch z), r⟩
def spRight (Pt : Addr) : Sp := fun vs H Q _ => ∃ (p : Addr), vs = [.ref p] ∧ PotAt H p 0 ∧ Tabs [(Pt, QL)] H ∧ ∀ H', KB p H H' → Tabs [(Pt, QL)] H' → Q (.bl true) H'
section
variable {P : Program} {w : World} {K : PySem.W.Frag} {mg : Str → Option Value} {base : Heap} {f CB CK CP c Pt fRf fOd fOf fCa fRd fPr : Addr} {fdRf fdOd fdOf fdCa fdRd fdPr : FuncData}
theorem ok_right {dV kV doc pm ct oc : Value} {an od : Option Addr} {osl : Array (Option Value)} (lk : K.lookup f = some ⟨oc, od, .func (PySem.W.fnOf "_law_right" "_law_right" (defArgs sRight) (defBody sRight) (defScope sRight) dV kV doc pm an (.ref c) ct), osl⟩) (hcd : PySem.W.codeIn K (.ref c) "_law_right" = true)
    (TB : TabB base mg c Pt) (R : RightT K mg CB CK fRf fOd fOf fCa fRd fPr)
    (GRf : ∀ B : Heap, FnG P w K mg B CX0 13 fRf fdRf ["call", "word", "value"] (spRefused P w K mg CB B)) (GOd : FnOk P w K mg base CX0 3 fOd fdOd ["pot"] spOdd) (GOf : FnOk P w K mg base CX0 2 fOf fdOf ["pot", "some"] (spOf K))
    (GCa : ∀ B : Heap, FnG P w K mg B CX0 12 fCa fdCa ["call"] (spCaught P w K mg CK B)) (GRd : FnOk P w K mg base (L2.CX P w) 10 fRd fdRd ["text"] (spReadE K CB)) (GPr : FnOk P w K mg base (L2.CX P w) 10 fPr fdPr ["text"] (spPrintedE K CB))
    (bRf : Binds K fdRf ["call", "word", "value"] []) (bOd : Binds K fdOd ["pot"] []) (bOf : Binds K fdOf ["pot", "some"] []) (bCa : Binds K fdCa ["call"] []) (bRd : Binds K fdRd ["text"] []) (bPr : Binds K fdPr ["text"] [])
    (wRd : ∀ (s : Shared) (u : Value), K.In s.heap → BindsTo s fdRd ⟨[], [(("text" : Str), u)]⟩ [(("text" : Str), u)]) (wPr : ∀ (s : Shared) (u : Value), K.In s.heap → BindsTo s fdPr ⟨[], [(("text" : Str), u)]⟩ [(("text" : Str), u)]) :
    FnG P w K mg base CX0 14 f (PySem.W.fnOf "_law_right" "_law_right" (defArgs sRight) (defBody sRight) (defScope sRight) dV kV doc pm an (.ref c) ct) ["pot"] (spRight Pt) := by
  refine okGc lk hcd rightScope (fun vs H Q E h => ?_) (fun A outer s H vs Q E hr hgu h => ?_)
  · obtain ⟨p, rfl, _⟩ := h
    rfl
  · obtain ⟨p, rfl, hp, hT, k⟩ := h
    have hr3 : Room 3 _ := hr.mono (by decide)
    have hr2 : Room 2 _ := hr.mono (by decide)
    have hr12 : Room 12 _ := hr.mono (by decide)
    have hr10 : Room 10 _ := hr.mono (by decide)
    have hu64 : (A.deeper (envOfC ("_law_right" : Str) (defScope sRight) s.heap.objs.size f (.ref c))).units + 64 < cLine := by
      have z := hr.un
      omega
    refine ⟨_, pss_cons (ps_for (passes_of rfl) rfl (pi_tup (pe_tup (pa_cons pe_non (pa_cons pe_int (pa_cons pe_bl (pa_cons (pe_tup pa_nil) (pa_cons (pe_tup (pa_cons pe_str pa_nil)) (pa_cons (pe_lst (pa_cons pe_str pa_nil)) (pa_cons pe_dnewK
          (pa_cons (pe_disp (pps_cons pe_str pe_str pps_nil) (by rfl) (by rfl) (fun z => by cases z) (by decide)) (pa_cons (pe_un un_neg pe_int) (pa_cons (pe_call GOd hr3 rfl R.gOd R.kOd bOd .nil pass0 (pa_cons (pv 0) pa_nil)) pa_nil)))))))))))) (pg_name (i := 1) rightScope.nd rfl (Or.inr rfl))
        (pss_cons (ps_if (pt_not (pt_val (pe_lamArg (T := [(Pt, QL)]) (k := 10) (CX := CX0) (E := E0) (tb := fun E => tCallKW (spReadE K CB) E (tVar 1)) (fun B _ _ => GRf B) hr hgu rfl R.gRf R.kRf bRf pass0 TB rfl (List.mem_singleton.mpr rfl) (fun p hp _ => by rw [List.mem_singleton.mp hp] <;> rfl) (lamS_by (sc := defScope sRight) (by decide +kernel)) rfl (fun _ _ _ _ _ => rfl)
              (fun A outer u1 H1 E f c' hr' => pe_callKW (XT := L2.CX P w) GRd hr' rfl R.gRd R.kRd wRd (passes_call (takes_of rfl rfl rfl rfl) (fun _ _ _ _ h => h)) (pv 1))
              (pa_cons pe_str (pa_cons (pe_tup (pa_cons pe_int (pa_cons pe_int pa_nil))) pa_nil)) rfl rfl (fun _ => rfl) right_cells))) (pss_one (ps_ret pe_bl)) pss_nil)
        (pss_one (ps_if (pt_not (pt_val (pe_lamArg (T := [(Pt, QL)]) (k := 10) (CX := CX0) (E := E0) (tb := fun E => tCallKW (spPrintedE K CB) E (tVar 1)) (fun B _ _ => GRf B) hr hgu rfl R.gRf R.kRf bRf pass0 TB rfl (List.mem_singleton.mpr rfl) (fun p hp _ => by rw [List.mem_singleton.mp hp] <;> rfl) (lamS_by (sc := defScope sRight) (by decide +kernel)) rfl (fun _ _ _ _ _ => rfl)
              (fun A outer u1 H1 E f c' hr' => pe_callKW (XT := L2.CX P w) GPr hr' rfl R.gPr R.kPr wPr (passes_call (takes_of rfl rfl rfl rfl) (fun _ _ _ _ h => h)) (pv 1))
              (pa_cons pe_str (pa_cons (pe_tup (pa_cons pe_int (pa_cons pe_int pa_nil))) pa_nil)) rfl rfl (fun _ => rfl) right_cells))) (pss_one (ps_ret pe_bl)) pss_nil))))
      (pss_cons (ps_set (i := 2) rightScope.nd rfl (Or.inr rfl) (pe_call GOf hr2 rfl R.gOf R.kOf bOf .nil pass0 (pa_cons (pv 0) (pa_cons (pe_lst (pa_cons pe_str (pa_cons pe_str (pa_cons pe_str (pa_cons pe_str (pa_cons pe_str (pa_cons pe_str (pa_cons pe_str pa_nil)))))))) pa_nil))))
      (pss_cons (ps_set (i := 3) rightScope.nd rfl (Or.inl rfl) (pe_split (pv 2) pe_str))
      (pss_cons (ps_if (PW.pt (pw_or (pt_cmpR (op_neD hu64) (pe_call (E := E0) GRd hr10 rfl R.gRd R.kRd bRd .nil (passes_call L2.takes0 (fun _ _ _ _ h => h)) (pa_cons (pv 2) pa_nil)) (pe_tup pa_nil) (nomark _))
          (pw_or1 (pt_not (pt_val (pe_lamArg (T := [(Pt, QL)]) (k := 10) (CX := CX0) (E := E0) (tb := fun E => tCall (spPrintedE K CB) [] E (tCons (tVar 2) tNil)) (fun B _ _ => GRf B) hr hgu rfl R.gRf R.kRf bRf pass0 TB rfl (List.mem_singleton.mpr rfl) (fun p hp _ => by rw [List.mem_singleton.mp hp] <;> rfl) (lamS_by (sc := defScope sRight) (by decide +kernel)) rfl (fun _ _ _ _ _ => rfl)
              (fun A outer u1 H1 E f c' hr' => pe_call (CX := L2.CX P w) GPr hr' rfl R.gPr R.kPr bPr .nil (passes_call (takes_of rfl rfl rfl rfl) (fun _ _ _ _ h => h)) (pa_cons (pv 2) pa_nil))
              (pa_cons pe_str (pa_cons (pe_tup (pa_cons (pe_callB call_len_seq (by rfl) R.b.len PySem.boot_len (pa_cons (pv 3) pa_nil)) (pa_cons (pe_op op_add (pe_callB call_len_str (by rfl) R.b.len PySem.boot_len (pa_cons (pe_ix ix_list (pv 3) (pe_un un_neg pe_int) (fun _ _ => rfl)) pa_nil)) pe_int) pa_nil))) pa_nil)) rfl rfl (fun _ => rfl) right_cells)))))) (pss_one (ps_ret pe_bl)) pss_nil)
      (pss_cons (ps_set (i := 4) rightScope.nd rfl (Or.inl rfl) (pe_ix ix_tup (pe_lamArg (T := [(Pt, QL)]) (k := 10) (CX := CX0) (E := E0) (tb := fun E => tCall (spReadE K CB) [] E (tCons (tC (.str "(a")) tNil)) (fun B _ _ => GCa B) hr12 hgu rfl R.gCa R.kCa bCa pass0 TB rfl (List.mem_singleton.mpr rfl) (fun p hp _ => by rw [List.mem_singleton.mp hp] <;> rfl) (lamS_by (sc := defScope sRight) (by decide +kernel)) rfl (fun _ _ _ _ _ => rfl)
              (fun A outer u1 H1 E f c' hr' => pe_call (CX := L2.CX P w) GRd hr' rfl R.gRd R.kRd bRd .nil (passes_call (takes_of rfl rfl rfl rfl) (fun _ _ _ _ h => h)) (pa_cons pe_str pa_nil)) pa_nil rfl rfl (fun _ => rfl) right_cells) pe_int (fun _ _ => rfl)))
      (pss_one (ps_ret (pe_and (pe_callB call_isv (by rfl) R.l.isi (by decide +kernel) (pa_cons (pv 4) (pa_cons (pe_glob (v := .ref CK) rfl R.l.gK rfl) pa_nil))) (pe_and (pe_callB call_isv (by rfl) R.l.isi (by decide +kernel) (pa_cons (pv 4) (pa_cons (pe_bltn (v := .ty "ValueError") rfl R.l.vE (by decide +kernel) rfl) pa_nil)))
        (pe_one (pe_cmpR op_eq (pe_callB (call_rep2 hr hgu) (by rfl) R.l.rep (by decide +kernel) (pa_cons (pe_xv (pv 4)) pa_nil)) (pe_callB (call_rep2 hr hgu) (by rfl) R.l.rep (by decide +kernel) (pa_cons (pe_tup (pa_cons pe_int (pa_cons pe_int pa_nil))) pa_nil)) (nomark _))))))))))), ?_⟩
    refine ⟨(by show 0 ≤ sizeLine; decide), fun a1 n1 => ⟨(by show 1 ≤ sizeLine; decide), fun a2 n2 => ⟨(by show 1 ≤ sizeLine; decide), fun a3 n3 => ?_⟩⟩⟩
    intro a4 n4
    intro a5 n5
    have u1 := same_upd (o := .tup []) n1
    have u2 := u1.trans (same_upd (o := .tup [.str "a"]) n2)
    have u3 := u2.trans (same_upd (o := .lst [.str "a"]) n3)
    have u4 := u3.trans (same_upd (o := .dK []) n4)
    have u5 := u4.trans (same_upd (o := .dK []) n5)
    refine ⟨upd_same, [(Sum.inr "text", .str "a")], rfl, by decide, 1, rfl, _, rfl, p, 0, rfl, ?_⟩
    generalize hG5 : upd (upd (upd (upd (upd (upd H a1 (.tup [])) a2 (.tup [.str "a"])) a3 (.lst [.str "a"])) a4 (.dK [])) a5 (.dK [])) a5 (.dK (mergeK [] [(Sum.inr "text", .str "a")])) = G5
    have w5 : Same (upd (upd (upd (upd H a1 (.tup [])) a2 (.tup [.str "a"])) a3 (.lst [.str "a"])) a4 (.dK [])) G5 := fun b o e => by
      have nb := ne_of_none e n5
      rw [← hG5, upd_ne nb, upd_ne nb]
      exact e
    have w0 : Same H G5 := u4.trans w5
    have o1 : OddV G5 (.ref a1) := .tup (w5 _ _ ((((same_upd n2).trans (same_upd n3)).trans (same_upd n4)) _ _ upd_same))
    have o2 : OddV G5 (.ref a2) := .tup (w5 _ _ (((same_upd n3).trans (same_upd n4)) _ _ upd_same))
    have o3 : OddV G5 (.ref a3) := .lst (w5 _ _ ((same_upd n4) _ _ upd_same))
    have o4 : OddV G5 (.ref a4) := .dK (w5 _ _ upd_same)
    have o5 : OddV G5 (.ref a5) := .dK (by rw [← hG5]; exact upd_same)
    have np : ∀ {G : Hp} {q : Addr}, Same H G → G q = none → q ≠ p := fun sG nq z => by
      obtain ⟨xs, e⟩ := pot_lst hp
      rw [z, sG _ _ e] at nq
      cases nq
    have p1 : a1 ≠ p := np (fun _ _ e => e) n1
    have p2 : a2 ≠ p := np u1 n2
    have p3 : a3 ≠ p := np u2 n3
    have p4 : a4 ≠ p := np u3 n4
    have p5 : a5 ≠ p := np u4 n5
    refine ⟨pot_ext hp w0, by decide, fun x G6 hx sb pn => ?_⟩
    have t6 : Tabs [(Pt, QL)] G6 := tabs_but (hT.ext w0) sb (pot_lst (pot_ext hp w0))
    have k6 : KB p H G6 := (KB.refl.same w0).but sb
    have go : ∀ a, a ≠ p → OddV G5 (.ref a) → OddV G6 (.ref a) := fun a n o => o.keep fun b u e1 e2 _ => by
      cases e1
      exact sb _ _ n e2
    generalize hvs : ([.non, .int 5, .bl true, .ref a1, .ref a2, .ref a3, .ref a4, .ref a5, .int (-1), x] : List V) = vs
    have allodd : ∀ v ∈ vs, OddV G6 v := by
      intro v hv
      rw [← hvs] at hv
      have mem : v = .non ∨ v = .int 5 ∨ v = .bl true ∨ v = .ref a1 ∨ v = .ref a2 ∨ v = .ref a3 ∨ v = .ref a4 ∨ v = .ref a5 ∨ v = .int (-1) ∨ v = x := by simpa using hv
      rcases mem with e | e | e | e | e | e | e | e | e | e <;> subst e
      · exact .inl rfl
      · exact .inr (.inr (.inl ⟨_, rfl⟩))
      · exact .inr (.inl ⟨_, rfl⟩)
      · exact go _ p1 o1
      · exact go _ p2 o2
      · exact go _ p3 o3
      · exact go _ p4 o4
      · exact go _ p5 o5
      · exact .inr (.inr (.inl ⟨_, rfl⟩))
      · exact hx
    refine ⟨(by show 10 ≤ sizeLine; decide), fun T nT => ?_⟩
    refine ⟨T, rfl, ⟨_, SqT.of upd_same⟩, for_tup (K := K) (a := T) (xs := vs) (fun i σ G => ∃ o, σ = [some (.ref p), o, none, none, none] ∧ KB p H G ∧ Tabs [(Pt, QL)] G ∧ PotAt G p 1 ∧ G T = some (.tup vs) ∧ ∀ v ∈ vs, OddV G v) ?_ ?_ ?_ ?_⟩
    · refine ⟨none, rfl, k6.same (same_upd nT), t6.ext (same_upd nT), pot_ext pn (same_upd nT), by rw [← hvs]; exact upd_same, fun v hv => (allodd v hv).keep fun b u _ e _ => (same_upd nT) _ _ e⟩
    · rintro i σ G _ ⟨_, _, _, _, _, h, _⟩
      exact SqT.of h
    · rintro i v σ G hi ⟨o, rfl, k1, t1, q1, g1, v1⟩
      have vm : v ∈ vs := List.mem_of_getElem? hi
      have z0 : (0 : Int).natAbs.log2 < 1920 := by decide
      have zz : (two 0 0).shown.length ≤ sizeLine := Nat.le_trans (show (two 0 0).shown.length ≤ 100 by decide +kernel) (by decide)
      refine ⟨t1, fun G1 f1 c1 eN T1 hco => ⟨(by show 2 ≤ sizeLine; decide), fun t nt => ?_⟩⟩
      intro B hB th
      have st := same_upd (o := .tup [.int 0, .int 0]) nt
      have v1' : OddV (upd G1 t (.tup [.int 0, .int 0])) v := (v1 v vm).keep fun b u _ e n => st _ _ (eN _ _ e n)
      refine ⟨f1, t, 0, 0, _, rfl, upd_same, z0, z0, zz, hB, th, fun Q1 E1 hE => ⟨st _ _ hco, v, rfl, v, rfl, .inr ⟨v1'.nst, fun H1 T1 s1 hT1 d H' s2 nd hd => hE d T1 H' (s1.trans s2) hd (s2 _ _ hT1)⟩⟩, fun G2 s2 => ⟨true, rfl, ?_⟩⟩
      refine iteF ?_
      have S2 := st.trans s2
      have T2 : Tabs [(Pt, QL)] G2 := T1.ext S2
      have v2 : OddV G2 v := (v1 v vm).keep fun b u _ e n => S2 _ _ (eN _ _ e n)
      refine ⟨T2, fun G3 f3 c3 eN3 T3 hco3 => ⟨(by show 2 ≤ sizeLine; decide), fun t3 nt3 => ?_⟩⟩
      intro B3 hB3 th3
      have st3 := same_upd (o := .tup [.int 0, .int 0]) nt3
      have v3' : OddV (upd G3 t3 (.tup [.int 0, .int 0])) v := v2.keep fun b u _ e n => st3 _ _ (eN3 _ _ e n)
      refine ⟨f3, t3, 0, 0, _, rfl, upd_same, z0, z0, zz, hB3, th3, fun Q1 E1 hE => ⟨st3 _ _ hco3, v, rfl, v, rfl, .inr ⟨v3'.nst, fun H1 T1 s1 hT1 d H' s2 nd hd => hE d T1 H' (s1.trans s2) hd (s2 _ _ hT1)⟩⟩, fun G4 s4 => ⟨true, rfl, ?_⟩⟩
      refine iteF ?_
      have S4 := st3.trans s4
      have X4 : ExtN G G4 := ((eN.trans (ExtN.of S2)).trans eN3).trans (ExtN.of S4)
      exact ⟨_, rfl, k1.extn X4, T3.ext S4, pot_extn q1 X4, X4 _ _ g1 (fun _ z => nomatch z), fun u hu => (v1 u hu).keep fun b o _ e n => X4 _ _ e n⟩
    · rintro σ G ⟨o, rfl, k1, t1, q1, g1, v1⟩
      refine ⟨_, rfl, (by show 7 ≤ sizeLine; decide), fun l nl => ?_⟩
      have npl : l ≠ p := fun z => by
        obtain ⟨xs, e⟩ := pot_lst q1
        rw [z, e] at nl
        cases nl
      refine ⟨p, l, _, 1, rfl, pot_ext q1 (same_upd nl), by decide, upd_same, npl, by simp, (by show 7 < 100; decide), fun y0 G1 hy0 sb1 pn1 => ?_⟩
      have hy : ∃ y, y0 = .str y ∧ y ∈ GAPS := by
        have mem : y0 ∈ GAPS.map V.str := hy0
        obtain ⟨y, h1, h2⟩ := List.mem_map.mp mem
        exact ⟨y, h2.symm, h1⟩
      obtain ⟨y, rfl, hyG⟩ := hy
      have gk := gap_ok hyG
      have k2 : KB p H G1 := (k1.same (same_upd nl)).but sb1
      have t2 : Tabs [(Pt, QL)] G1 := tabs_but (t1.ext (same_upd nl)) sb1 (pot_lst (pot_ext q1 (same_upd nl)))
      refine ⟨_, rfl, ⟨_, rfl⟩, y, _, rfl, rfl, (by decide +kernel), Nat.le_trans (Nat.add_le_add_right gk.fits.len 2) (by decide), fun ls nls => ?_⟩
      have s3 := same_upd (o := .lst ((linesOf y).map V.str)) nls
      have hls : upd G1 ls (.lst ((linesOf y).map V.str)) ls = some (.lst ((linesOf y).map V.str)) := upd_same
      have run0 : ∀ S, runE S0 (textWords y) = .inl S → S = S0 := fun S e => by
        rw [gk.words] at e
        exact (Sum.inl.inj (show (Sum.inl S0 : RS ⊕ (Nat × Nat)) = .inl S from e)).symm
      refine ⟨_, rfl, .str y, rfl, .inl ⟨y, rfl, gk.fits, (by rw [gk.words]; intro p hp; cases hp), fun S e hs => ?_, fun S e hs => absurd (show S.stack = [] by rw [run0 S e]; rfl) hs, fun pl e => (by rw [gk.words] at e; cases (show (Sum.inl S0 : RS ⊕ (Nat × Nat)) = .inr pl from e))⟩⟩
      rw [run0 S e]
      refine ⟨fun d hd => (by cases hd), Nat.zero_le _, fun G4 r4 s4 _ hr4 => ?_⟩
      refine ⟨(by show 0 ≤ sizeLine; decide), fun r5 n5 => ?_⟩
      refine ⟨.tuple [], .tuple [], .tup (SqT.of ((same_upd n5) _ _ hr4)) .nil, .tup (SqT.of upd_same) .nil, rfl, rfl, false, by rw [SeqAt.eqv_refl] <;> rfl, ?_⟩
      refine iteF ?_
      have s5 := s4.trans (same_upd (o := .tup []) n5)
      have s35 := s3.trans s5
      refine ⟨t2.ext s35, fun G6 f6 c6 eN6 T6 hco6 => ?_⟩
      have hls6 : G6 ls = some (.lst ((linesOf y).map V.str)) := eN6 _ _ (s5 _ _ hls) (fun _ z => nomatch z)
      have hlen : ((linesOf y).map V.str).length = (linesOf y).length := by simp
      have hlast : atI ((linesOf y).map V.str) (-1) = some (.str ((linesOf y).getLastD ("" : Str))) := by
        have e : linesOf y = (linesOf y).dropLast ++ [(linesOf y).getLast gk.fits.ne] := (List.dropLast_concat_getLast gk.fits.ne).symm
        have e2 : (linesOf y).getLastD ("" : Str) = (linesOf y).getLast gk.fits.ne := lastD_eq gk.fits.ne
        rw [e2]
        conv => lhs; rw [e]
        rw [List.map_append]
        exact atI_last _ _
      have hll : ((linesOf y).getLastD ("" : Str)).length ≤ sizeLine := Nat.le_trans (show _ ≤ 12 by have := gk.last; omega) (by decide)
      refine ⟨_, rfl, ls, _, rfl, .inl (SqL.of hls6), _, rfl, 1, rfl, ls, _, _, _, rfl, rfl, SqL.of hls6, hlast, _, rfl, hll, _, _, rfl, rfl, (by show 2 ≤ sizeLine; decide), fun t nt => ?_⟩
      intro B hB th
      have st := same_upd (o := .tup [.int (((linesOf y).map V.str).length : Nat), .int ((((linesOf y).getLastD ("" : Str)).length : Nat) + 1)]) nt
      have zb := two_small ⟨(linesOf y).length, gk.many⟩ ⟨((linesOf y).getLastD ("" : Str)).length + 1, gk.last⟩
      have zc := two_small ⟨((linesOf y).getLastD ("" : Str)).length + 1, gk.last⟩ ⟨(linesOf y).length, gk.many⟩
      have runD0 : ∀ S, runD S0 (textWords y) = .inl S → S = S0 := fun S e => by
        rw [gk.words] at e
        exact (Sum.inl.inj (show (Sum.inl S0 : RS ⊕ (Nat × Nat)) = .inl S from e)).symm
      refine ⟨f6, t, (((linesOf y).length : Nat) : Int), ((((linesOf y).getLastD ("" : Str)).length + 1 : Nat) : Int), _, rfl, by rw [upd_same, hlen]; rfl, zb.2, zc.2, Nat.le_trans zb.1 (by decide), hB, th,
        fun Q1 E1 hE => ⟨st _ _ hco6, _, rfl, .str y, rfl, .inl ⟨y, rfl, gk.fits, (by rw [gk.words]; intro p hp; cases hp), fun S d r e hs => (by rw [runD0 S e] at hs; cases hs), fun S e hs H1 T1 s1 hEnd d H' s2 nd hd => hE d T1 H' (s1.trans s2) hd (s2 _ _ hEnd), fun pl e => (by rw [gk.words] at e; cases (show (Sum.inl S0 : RS ⊕ (Nat × Nat)) = .inr pl from e))⟩⟩, fun G7 s7 => ⟨true, rfl, ?_⟩⟩
      refine iteF ?_
      have S7 := st.trans s7
      have T7 : Tabs [(Pt, QL)] G7 := T6.ext S7
      have k7 : KB p H G7 := ((k2.same s35).extn eN6).same S7
      refine ⟨T7, fun G8 f8 c8 eN8 T8 hco8 => ?_⟩
      intro B8 hB8 th8
      refine ⟨f8, _, rfl, hB8, th8, fun Q1 E1 _ hE => ⟨hco8, .str OPENA, rfl, .inl ⟨OPENA, rfl, openA_fits, by rw [openA_words]; decide, fun S e hs => (by obtain ⟨S2, e2, h2⟩ := openA_got; rw [e2] at e; cases e; exact absurd hs h2), fun S e hs H1 T1 s1 hEnd d H' s2 nd hd => hE _ _ _ ⟨R.l.eK, fun a t na nt ne => ?_⟩, fun pl e => (by obtain ⟨S2, e2, h2⟩ := openA_got; rw [e2] at e; cases e)⟩⟩⟩
      have hT1 : H1 T1 = some (.tup [.int 1, .int 3]) := by
        have z : H1 T1 = some (.tup [.int ((textEnd OPENA).1 : Nat), .int ((textEnd OPENA).2 : Nat)]) := hEnd
        rw [openA_end] at z
        exact z
      have ht : upd (upd H' t (.tup [.ref a, .non])) a (exv a (.ref CB) (some d)) t = some (.tup [.ref a, .non]) := by
        rw [upd_ne ne, upd_same]
      have sm : Same H' (upd (upd H' t (.tup [.ref a, .non])) a (exv a (.ref CB) (some d))) := fun b o q => by
        rw [upd_ne (ne_of_none q na), upd_ne (ne_of_none q nt)]
        exact q
      have ha : upd (upd H' t (.tup [.ref a, .non])) a (exv a (.ref CB) (some d)) a = some (exv a (.ref CB) (some d)) := upd_same
      have S9 := (s1.trans s2).trans sm
      have l1 : (1 : Int).natAbs.log2 < 1920 := by decide +kernel
      have l3 : (3 : Int).natAbs.log2 < 1920 := by decide +kernel
      have zl : (two 1 3).shown.length ≤ sizeLine := Nat.le_trans (show (two 1 3).shown.length ≤ 100 by decide +kernel) (by decide)
      refine ⟨t, [.ref a, .non], 0, .ref a, rfl, rfl, SqT.of ht, atI_nat (j := 0) rfl, ?_⟩
      refine ⟨_, rfl, a, d, CB, _, .ref CK, .ref CK, true, rfl, ha, sm _ _ hd, R.l.x, .own _, R.l.kK, _, rfl, ?_⟩
      refine iteT ?_
      refine ⟨_, rfl, a, d, CB, _, .ty "ValueError", .type "ValueError", true, rfl, ha, sm _ _ hd, R.l.x, .ty _, R.l.kV, _, rfl, ?_⟩
      refine iteT ?_
      refine ⟨_, rfl, a, d, CB, _, .ref T1, rfl, ha, sm _ _ hd, R.l.x, R.l.noV, rfl, ?_⟩
      refine ⟨T1, 1, 3, rfl, sm _ _ (s2 _ _ hT1), l1, l3, zl, ?_⟩
      refine ⟨(by show 2 ≤ sizeLine; decide), fun t9 n9 => ?_⟩
      refine ⟨t9, 1, 3, rfl, upd_same, l1, l3, zl, ?_⟩
      refine ⟨rfl, ?_⟩
      rw [show (decide (V.str (two 1 3).shown = V.str (two 1 3).shown)) = true from by simp]
      have S10 := S9.trans (same_upd (o := .tup [.int 1, .int 3]) n9)
      exact k _ ((k7.extn eN8).same S10) (T8.ext S10)
end
end Kg
namespace Kg
open PySem PySem.Spec PyProof.Rows L2 LamX
def spLaw (K : PySem.W.Frag) (Pt : Addr) : Sp := fun vs H Q _ => ∃ (l : Addr) (ns : List Int), vs = [.ref l] ∧ SqL K H l (ns.map V.int) ∧ ns.length ≤ 100 ∧ Tabs [(Pt, QL)] H ∧ ∀ H', Q (.bl true) H'
theorem scLaw : FnScope ["script", "place"] ["script"] (defScope sLaw) := ⟨rfl, rfl, rfl, by decide +kernel, rfl, by decide +kernel, by decide +kernel⟩
theorem seq_extn {K : PySem.W.Frag} {H H' : Hp} {a : Addr} {xs : List V} (e : ExtN H H') (h : SqL K H a xs) : SqL K H' a xs := by
  rcases h with (h | ⟨o, h⟩) | h
  · exact .inl (.inl (e _ _ h (fun _ z => nomatch z)))
  · exact .inl (.inr ⟨o, e _ _ h (fun _ z => nomatch z)⟩)
  · exact .inr h
section
variable {P : Program} {w : World} {K : PySem.W.Frag} {mg : Str → Option Value} {base : Heap} {f Pt fPo fCe fRi : Addr} {fd fdPo fdCe fdRi : FuncData}
theorem ok_law (F : FnP K "law" "law" sLaw f fd) (T : BT mg) (GPo : FnOk P w K mg base CX0 1 fPo fdPo ["script", "place"] (spLawPot K)) (GCe : FnOk P w K mg base CX0 1 fCe fdCe ["script", "limit"] (spCells K)) (GRi : FnG P w K mg base CX0 14 fRi fdRi ["pot"] (spRight Pt))
    (bPo : Binds K fdPo ["script", "place"] []) (bCe : Binds K fdCe ["script", "limit"] []) (bRi : Binds K fdRi ["pot"] []) (gPo : mg "_law_pot" = some (.ref fPo)) (gCe : mg "_law_cells" = some (.ref fCe)) (gRi : mg "_law_right" = some (.ref fRi))
    (kPo : PySem.W.keepIn K (.ref fPo) = true) (kCe : PySem.W.keepIn K (.ref fCe) = true) (kRi : PySem.W.keepIn K (.ref fRi) = true) : FnG P w K mg base CX0 15 f fd ["script"] (spLaw K Pt) := by
  refine okG F scLaw (fun vs H Q E h => ?_) (fun cdv A outer s H vs Q E hr hgu h => ?_)
  · obtain ⟨l, ns, rfl, _⟩ := h
    rfl
  · obtain ⟨l, ns, rfl, hl, hz, hT, k⟩ := h
    have hr1 : Room 1 _ := hr.mono (by decide)
    refine ⟨_, pss_one (ps_ret (pe_callB (cr_all rfl) (by rfl) T.all (by decide +kernel) (pa_cons (pe_lc (own := [("place", 1)]) (g := gName 1) (tt := tYes) rfl scLaw.nd
      (pi_list (pe_call GCe hr1 rfl gCe kCe bCe .nil pass0 (pa_cons (pv 0) (pa_cons pe_int pa_nil)))) (blkOk_by (own := [("place", 1)]) (N := ["script", "place"]) (sc := defScope sLaw) (by decide +kernel))
        (fun _ _ _ _ _ => pg_name (i := 1) scLaw.nd rfl (Or.inl rfl)) (fun _ _ _ _ _ => pts_nil)
        (fun _ _ _ _ _ => pe_callG GRi hr hgu rfl gRi kRi bRi pass0 (pa_cons (pe_call GPo hr1 rfl gPo kPo bPo .nil pass0 (pa_cons (pv 0) (pa_cons (pv 1) pa_nil))) pa_nil))) pa_nil))), ?_⟩
    refine ⟨_, rfl, l, _, rfl, hl, by rw [List.length_map]; exact hz, fun q nq c c0 c2 cx => ?_⟩
    have s1 := same_upd (o := .lst (rgV 0 c)) nq
    refine ⟨q, rfl, ⟨_, SqL.of upd_same⟩, fun D nD => lc_list (K := K) (a := q) (xs := rgV 0 c) (fun i G => ExtN (upd H q (.lst (rgV 0 c))) G ∧ Tabs [(Pt, QL)] G ∧ G D = some (.lst ((List.replicate i true).map V.bl))) ?_ ?_ ?_ ?_⟩
    · exact ⟨ExtN.of (same_upd nD), (hT.ext s1).ext (same_upd nD), upd_same⟩
    · exact fun i G _ ⟨e, _, _⟩ => SqL.of (e _ _ upd_same (fun _ z => nomatch z))
    · rintro i v G hi ⟨e1, t1, d1⟩
      refine ⟨rfl, ?_⟩
      refine yesI ?_
      have hn : (rgV 0 (c : Int)).length = c := by rw [rgV_length]; omega
      have hi2 : i < c := by
        have := (List.getElem?_eq_some_iff.mp hi).1
        omega
      have hv : v = .int (i : Int) := by
        unfold rgV at hi
        rw [List.getElem?_map] at hi
        have e : (List.range ((c : Int) - 0).toNat)[i]? = some i := by
          rw [List.getElem?_range]
          omega
        rw [e] at hi
        have z := Option.some.inj hi
        rw [← z]
        simp
      subst hv
      have hsc : SqL K G l (ns.map V.int) := seq_extn e1 (s1.seq hl)
      refine ⟨_, rfl, _, rfl, l, ns, i, rfl, hsc, hz, by omega, ?_, fun p G2 s2 np pz => ?_⟩
      · rcases cx with h1 | ⟨_, h1⟩
        · rw [List.length_map] at h1
          exact .inl (by omega)
        · exact .inr (by simpa using h1)
      refine ⟨p, rfl, pz, t1.ext s2, fun G3 k3 t3 => ?_⟩
      have nDp : D ≠ p := ne_of_none d1 np
      have d3 : G3 D = some (.lst ((List.replicate i true).map V.bl)) := k3 _ _ nDp (s2 _ _ d1) (fun _ z => nomatch z)
      refine ⟨_, d3, ?_, fun b o e n => ?_, ?_, ?_⟩
      · rw [List.length_map, List.length_replicate]
        exact Nat.lt_of_le_of_lt (show i ≤ 10 by omega) (by decide)
      · have nb : b ≠ D := ne_of_none e nD
        have g1 := e1 b o e n
        rw [upd_ne nb]
        exact k3 _ _ (ne_of_none g1 np) (s2 _ _ g1) n
      · exact tabs_but t3 (fun b o ne e => by rw [upd_ne ne]; exact e) ⟨_, d3⟩
      · rw [upd_same, List.replicate_succ', List.map_append]
        rfl
    · rintro G ⟨e1, t1, d1⟩
      refine ⟨D, _, rfl, SqL.of d1, ?_⟩
      rw [show (List.replicate (rgV 0 c).length true).all id = true from by simp]
      exact k _
end
end Kg
namespace Kg
open PySem PySem.Spec PyProof.Rows L2 LamX
def d_bare_words : He.DefD := ⟨("bare_words", none), "bare_words", "bare_words", defArgs sBare, defBody sBare, defScope sBare, [], []⟩
def d_words_in : He.DefD := ⟨("words_in", none), "words_in", "words_in", defArgs sWordsIn, defBody sWordsIn, defScope sWordsIn, [], []⟩
def d_line_words : He.DefD := ⟨("line_words", none), "line_words", "line_words", defArgs sLineWords, defBody sLineWords, defScope sLineWords, [], []⟩
def d_word_end : He.DefD := ⟨("word_end", none), "word_end", "word_end", defArgs sWordEnd, defBody sWordEnd, defScope sWordEnd, [], []⟩
def d_is_integer : He.DefD := ⟨("is_integer", none), "is_integer", "is_integer", defArgs sIsInt, defBody sIsInt, defScope sIsInt, [], []⟩
def d_is_name : He.DefD := ⟨("is_name", none), "is_name", "is_name", defArgs sIsName, defBody sIsName, defScope sIsName, [], []⟩
def d_has_only : He.DefD := ⟨("has_only", none), "has_only", "has_only", defArgs sHas, defBody sHas, defScope sHas, [], []⟩
def d_number_of : He.DefD := ⟨("number_of", none), "number_of", "number_of", defArgs sNumber, defBody sNumber, defScope sNumber, [], []⟩
def d_paired : He.DefD := ⟨("paired", none), "paired", "paired", defArgs sPaired, defBody sPaired, defScope sPaired, [], []⟩
def d_list_of : He.DefD := ⟨("list_of", none), "list_of", "list_of", defArgs sListOf, defBody sListOf, defScope sListOf, [], []⟩
def d___init___KeptError : He.DefD := ⟨("KeptError", some "__init__"), "__init__", "KeptError.__init__", defArgs sEInit, defBody sEInit, defScope sEInit, [], []⟩
def d___init___Pair : He.DefD := ⟨("Pair", some "__init__"), "__init__", "Pair.__init__", defArgs sPInit, defBody sPInit, defScope sPInit, [], []⟩
def d___init___Opened : He.DefD := ⟨("Opened", some "__init__"), "__init__", "Opened.__init__", defArgs sOInit, defBody sOInit, defScope sOInit, [], []⟩
def d___init___Reader : He.DefD := ⟨("Reader", some "__init__"), "__init__", "Reader.__init__", defArgs sRInit, defBody sRInit, defScope sRInit, [], []⟩
def d_where_Reader : He.DefD := ⟨("Reader", some "where"), "where", "Reader.where", defArgs sWhere, defBody sWhere, defScope sWhere, [], []⟩
def d_take_Reader : He.DefD := ⟨("Reader", some "take"), "take", "Reader.take", defArgs sTake, defBody sTake, defScope sTake, [], []⟩
def d_take_opening_Reader : He.DefD := ⟨("Reader", some "take_opening"), "take_opening", "Reader.take_opening", defArgs sTakeOp, defBody sTakeOp, defScope sTakeOp, [], []⟩
def d_take_dot_Reader : He.DefD := ⟨("Reader", some "take_dot"), "take_dot", "Reader.take_dot", defArgs sTakeDot, defBody sTakeDot, defScope sTakeDot, [], []⟩
def d_take_closing_Reader : He.DefD := ⟨("Reader", some "take_closing"), "take_closing", "Reader.take_closing", defArgs sTakeCl, defBody sTakeCl, defScope sTakeCl, [], []⟩
def d_take_single_Reader : He.DefD := ⟨("Reader", some "take_single"), "take_single", "Reader.take_single", defArgs sTakeSg, defBody sTakeSg, defScope sTakeSg, [], []⟩
def d_put_Reader : He.DefD := ⟨("Reader", some "put"), "put", "Reader.put", defArgs sPut, defBody sPut, defScope sPut, [], []⟩
def d_data_in : He.DefD := ⟨("data_in", none), "data_in", "data_in", defArgs sDataIn, defBody sDataIn, defScope sDataIn, [], []⟩
def d_datum_in : He.DefD := ⟨("datum_in", none), "datum_in", "datum_in", defArgs sDatumIn, defBody sDatumIn, defScope sDatumIn, [], []⟩
def d_read_by : He.DefD := ⟨("read_by", none), "read_by", "read_by", defArgs sReadBy, defBody sReadBy, defScope sReadBy, [], []⟩
def d_all_data : He.DefD := ⟨("all_data", none), "all_data", "all_data", defArgs sAllData, defBody sAllData, defScope sAllData, [], []⟩
def d_lone_datum : He.DefD := ⟨("lone_datum", none), "lone_datum", "lone_datum", defArgs sLone, defBody sLone, defScope sLone, [], []⟩
def d_read : He.DefD := ⟨("read", none), "read", "read", defArgs sRead, defBody sRead, defScope sRead, [], []⟩
def d_printed : He.DefD := ⟨("printed", none), "printed", "printed", defArgs sPrinted, defBody sPrinted, defScope sPrinted, [], []⟩
def d_datum_text : He.DefD := ⟨("datum_text", none), "datum_text", "datum_text", defArgs sDatumText, defBody sDatumText, defScope sDatumText, [], []⟩
def d_text_within : He.DefD := ⟨("text_within", none), "text_within", "text_within", defArgs sTextWithin, defBody sTextWithin, defScope sTextWithin, [], []⟩
def d_text_behind : He.DefD := ⟨("text_behind", none), "text_behind", "text_behind", defArgs sTextBehind, defBody sTextBehind, defScope sTextBehind, [], []⟩
def d_single_text : He.DefD := ⟨("single_text", none), "single_text", "single_text", defArgs sSingleText, defBody sSingleText, defScope sSingleText, [], []⟩
def d_number_text : He.DefD := ⟨("number_text", none), "number_text", "number_text", defArgs sNumText, defBody sNumText, defScope sNumText, [], []⟩
def d_chunks_of : He.DefD := ⟨("chunks_of", none), "chunks_of", "chunks_of", defArgs sChunks, defBody sChunks, defScope sChunks, [], []⟩
def d__law_pot : He.DefD := ⟨("_law_pot", none), "_law_pot", "_law_pot", defArgs sLawPot, defBody sLawPot, defScope sLawPot, [], []⟩
def d__law_take : He.DefD := ⟨("_law_take", none), "_law_take", "_law_take", defArgs sLawTake, defBody sLawTake, defScope sLawTake, [], []⟩
def d__law_of : He.DefD := ⟨("_law_of", none), "_law_of", "_law_of", defArgs sLawOf, defBody sLawOf, defScope sLawOf, [], []⟩
def d__law_cells : He.DefD := ⟨("_law_cells", none), "_law_cells", "_law_cells", defArgs sCells, defBody sCells, defScope sCells, [], []⟩
def d__law_caught : He.DefD := ⟨("_law_caught", none), "_law_caught", "_law_caught", defArgs sCaught, defBody sCaught, defScope sCaught, [], []⟩
def d__law_is_refused : He.DefD := ⟨("_law_is_refused", none), "_law_is_refused", "_law_is_refused", defArgs sIsRefused, defBody sIsRefused, defScope sIsRefused, [], []⟩
def d__law_odd : He.DefD := ⟨("_law_odd", none), "_law_odd", "_law_odd", defArgs sOdd, defBody sOdd, defScope sOdd, [], []⟩
def d__law_word : He.DefD := ⟨("_law_word", none), "_law_word", "_law_word", defArgs sLawWord, defBody sLawWord, defScope sLawWord, [], []⟩
def d__law_right : He.DefD := ⟨("_law_right", none), "_law_right", "_law_right", defArgs sRight, defBody sRight, defScope sRight, [], []⟩
def d_law : He.DefD := ⟨("law", none), "law", "law", defArgs sLaw, defBody sLaw, defScope sLaw, [], []⟩
def fnL : List He.DefD := [d_bare_words, d_words_in, d_line_words, d_word_end, d_is_integer, d_is_name, d_has_only, d_number_of, d_paired, d_list_of, d___init___KeptError, d___init___Pair, d___init___Opened, d___init___Reader, d_where_Reader, d_take_Reader, d_take_opening_Reader, d_take_dot_Reader, d_take_closing_Reader, d_take_single_Reader, d_put_Reader, d_data_in, d_datum_in, d_read_by, d_all_data, d_lone_datum, d_read, d_printed, d_datum_text, d_text_within, d_text_behind, d_single_text, d_number_text, d_chunks_of, d__law_pot, d__law_take, d__law_of, d__law_cells, d__law_caught, d__law_is_refused, d__law_odd, d__law_word, d__law_right, d_law]
def faL : List He.Fa := [.glo "bare_words", .glo "words_in", .glo "line_words", .glo "word_end", .glo "is_integer", .glo "is_name", .glo "has_only", .glo "number_of", .glo "paired", .glo "list_of", .glo "data_in", .glo "datum_in", .glo "read_by", .glo "all_data", .glo "lone_datum", .glo "read", .glo "printed", .glo "datum_text", .glo "text_within", .glo "text_behind", .glo "single_text", .glo "number_text", .glo "chunks_of", .glo "_law_pot", .glo "_law_take", .glo "_law_of", .glo "_law_cells", .glo "_law_caught", .glo "_law_is_refused", .glo "_law_odd", .glo "_law_word", .glo "_law_right", .glo "law", .glo "KeptError", .glo "BadText", .glo "Opened", .glo "Reader", .glo "Pair", .free "len", .free "int", .free "sum", .free "abs", .free "range", .free "list", .free "max", .free "min", .free "all", .free "enumerate", .free "isinstance", .free "str", .free "tuple", .free "repr", .free "bool", .free "reversed", .free "divmod", .free "ValueError", .int "LONGEST_NAME" 16, .int "MOST_OPEN" 40, .int "CHUNK" 64, .int "CHUNK_SCALE" (10 ^ 64), .int "MOST_SIGNS" 2000, .int "WRITTEN_BITS" 2000, .str "BEHIND_QUOTE" QUOTE, .str "IN_LIST" INLIST, .str "BEHIND_DOT" DOTTED, .str "BEHIND_TAIL" TAILED, .str "DOT" ".", .str "FIGURES" FIG, .str "WORD_SIGNS" SIGNS, .str "EMPTY" "()", .str "LONG" "#long", .cls "Reader", .cls "Opened", .cls "Pair", .noat "Reader" "data", .noat "Reader" "opened", .noat "Reader" "known", .noat "Opened" "state", .noat "Opened" "data", .noat "Pair" "head", .noat "Pair" "tail", .mkr "Reader", .mkr "Opened", .mkr "Pair", .meth "Reader" "where", .meth "Reader" "put", .meth "Reader" "take_single", .meth "Reader" "take_opening", .meth "Reader" "take_dot", .meth "Reader" "take_closing", .meth "Reader" "take"]
def oexB (K : PySem.W.Frag) (C : Addr) : Bool := match K.lookup C with
  | some ⟨.type "type", _, .cls ⟨_, _, mro, _, _, hd, _, _, _, _, del⟩, sl⟩ => (match mro, sl.toList with
    | .ref C' :: bm, [_, _, _, _, some (.builtin n), _] => C' == C && n == "ValueError.__new__" && !del && hd && PySem.HandSPX.refsVE bm
    | _, _ => false)
  | _ => false
def exL (K : PySem.W.Frag) : List Bool :=
  let CB := He.ga K "BadText"
  let CK := He.ga K "KeptError"
  let CP := He.ga K "Pair"
  let fE := He.ma K CK "__init__"
  [oexB K CB, decide (PySem.W.findIn K (.ref CB) "__setattr__" = some (some (.builtin "object.__setattr__"))), decide (PySem.W.subIn K (.ref CB) (.type "BaseException") = some true), decide (PySem.W.typeIn K (.ref CB) = some (.type "type")), PySem.W.keepIn K (.ref CB),
   decide (PySem.W.findIn K (.ref CB) "value" = some none), decide (PySem.W.findIn K (.ref CB) "__init__" = some (some (.ref fE))), decide (PySem.W.typeIn K (.ref fE) = some (.type "function")),
   decide (PySem.W.findIn K (.ref CP) "__class__" = some (some (.builtin "object.__class__"))), decide (PySem.W.specialIn K (.builtin "object.__class__") "__get__" = some (some (.builtin "getset_descriptor.__get__"))), decide (PySem.W.takesIn K (.builtin "object.__class__") = some true), decide (PySem.W.mroIn K CP (.type "object") = some true),
   decide (PySem.W.kitOne K (.type "int") (.ref CP) = some false), decide (PySem.W.kitOne K (.type "str") (.ref CP) = some false), decide (PySem.W.kitOne K (.ref CP) (.ref CP) = some true), decide (PySem.W.exmOne K (.ref CB) (.ref CB) = some true),
   decide (PySem.W.findIn K (.ref CB) "__getattribute__" = some (some (.builtin "BaseException.__getattribute__"))), decide (PySem.W.findIn K (.ref CB) "__getattr__" = some none), PySem.W.hasDictIn K CB,
   decide (PySem.W.findIn K (.ref CB) "__class__" = some (some (.builtin "object.__class__"))), decide (PySem.W.mroIn K CB (.type "object") = some true),
   decide (PySem.W.kitOne K (.ref CB) (.ref CB) = some true), decide (PySem.W.kitOne K (.ref CB) (.ref CK) = some true), decide (PySem.W.kitOne K (.ref CB) (.type "ValueError") = some true), decide (PySem.W.exmOne K (.ref CB) (.ref CK) = some true)]
def exB (K : PySem.W.Frag) : Bool := (exL K).all id
def rightAt : He.Defn := ("_law_right", none)
abbrev hk : PySem.W.Hook := He.hookX 5 faL fnL [] [rightAt] exB
def obK (s : PySem.W.SharedT) : He.AlX := He.obsX 5 faL fnL [] [rightAt] exB (HandSHeadRun.getT s)
theorem obK_eq (s : PySem.W.SharedT) : obK s = hk.obs s.abs := He.obsX_eq (HandSHeadRun.getT_eq s)
abbrev RWK : PySem.W.OpenRow := PySem.W.OpenLaw.row PySem.Challenge.rw_keptagain_k05_what_reading_refuses
def looseA : List PySem.Str := ["EMPTY", "STRING_KINDS", "Pair", "Cell", "Function", "list_of", "kind_of", "KeptError", "BadText", "FIGURES", "WORD_SIGNS", "LONGEST_NAME", "DOT", "CHUNK", "CHUNK_SCALE", "bare_words", "words_in", "line_words", "word_end", "is_integer", "is_name", "has_only", "number_of", "paired", "MOST_SIGNS", "LONG", "WRITTEN_BITS", "datum_text"]
def looseB : List PySem.Str := ["text_within", "text_behind", "single_text", "number_text", "chunks_of", "MOST_OPEN", "BEHIND_QUOTE", "IN_LIST", "BEHIND_DOT", "BEHIND_TAIL", "Opened", "Reader", "data_in", "datum_in", "read_by", "all_data", "lone_datum", "read", "printed", "_law_pot", "_law_take", "_law_of", "_law_cells", "_law_caught", "_law_is_refused", "_law_odd", "_law_word", "_law_right"]
def looseL : List PySem.Str := looseA ++ looseB
end Kg
set_option maxHeartbeats 0
namespace Kg
open PySem PySem.Spec PyProof.Rows L2
/-- a world, with one row's answer written out -/
def fixW (w : World) (b : Bool) : World := ⟨w.draws, { w.params with followText := fun s => if s = "special-get-raises" then b else w.params.followText s }⟩
theorem fixW_eq (w : World) : fixW w (w.params.followText "special-get-raises") = w := by
  obtain ⟨d, p⟩ := w
  unfold fixW
  have e : (fun s => if s = "special-get-raises" then p.followText "special-get-raises" else p.followText s) = p.followText := by
    funext s
    by_cases h : s = "special-get-raises"
    · rw [if_pos h, h]
    · rw [if_neg h]
  show World.mk d { p with followText := fun s => if s = "special-get-raises" then p.followText "special-get-raises" else p.followText s } = _
  rw [e]
theorem runTrue (w : World) : HandSHeadRun.RunEq RWK (PySem.W.view RWK.prog [62]) hk obK 6000 looseL (fixW w true) := by
  intro os
  kernel_rfl
theorem runFalse (w : World) : HandSHeadRun.RunEq RWK (PySem.W.view RWK.prog [62]) hk obK 6000 looseL (fixW w false) := by
  intro os
  kernel_rfl
theorem runK (w : World) : HandSHeadRun.RunEq RWK (PySem.W.view RWK.prog [62]) hk obK 6000 looseL w := by
  have h := fixW_eq w
  cases e : w.params.followText "special-get-raises" with
  | true =>
    rw [e] at h
    rw [← h]
    exact runTrue w
  | false =>
    rw [e] at h
    rw [← h]
    exact runFalse w
end Kg
set_option maxHeartbeats 4000000
namespace Kg
open PySem PySem.Spec PyProof.Rows L2 LamX
/-- what is tracked when the law is called: the table at T, the script at a where it is not told -/
def atLaw (K : PySem.W.Frag) (T a : Addr) (ob : Obj) (ns : List Int) : Hp := fun b => if b = T then some (.tbl #[]) else if b = a ∧ K.lookup a = none then some (.frz ob (.lst (ns.map V.int))) else none
theorem atLaw_some {K : PySem.W.Frag} {T a b : Addr} {ob : Obj} {ns : List Int} {u : HO} (e : atLaw K T a ob ns b = some u) : (b = T ∧ u = .tbl #[]) ∨ (b ≠ T ∧ b = a ∧ K.lookup a = none ∧ u = .frz ob (.lst (ns.map V.int))) := by
  unfold atLaw at e
  by_cases h1 : b = T
  · rw [if_pos h1] at e
    exact .inl ⟨h1, (Option.some.inj e).symm⟩
  · rw [if_neg h1] at e
    by_cases h2 : b = a ∧ K.lookup a = none
    · rw [if_pos h2] at e
      exact .inr ⟨h1, h2.1, h2.2, (Option.some.inj e).symm⟩
    · rw [if_neg h2] at e
      cases e
theorem law_atG {P : Program} {w : World} {K : PySem.W.Frag} {mg mb : Str → Option Value} {k : Nat} {fa a c T : Addr} {fd : FuncData} {x : Str} {sp : Sp} {u₀ : Shared} {its : List Value} {ns : List Int}
    (inK : K.In u₀.heap) (glob : u₀.heap.Ns mainGlobals mg) (blt : u₀.heap.Ns builtinsNs mb) (bltIs : ∀ x : Str, x ≠ "__name__" → mb x = bootBuiltins x) (noLim : u₀.heap.NoLimit) (noGen : u₀.gens = #[])
    (tabIs : u₀.heap.get? T = some { cls := .none, data := .fields #[] }) (tabOut : K.lookup T = none) (code : PySem.W.CodeHd u₀.heap c T)
    (bmain : ∃ (bm : Addr) (o : Obj), mg "__builtins__" = some (.ref bm) ∧ bm ≠ builtinsNs ∧ u₀.heap.get? bm = some o ∧ o.cls = .type "module" ∧ o.dict = some builtinsNs ∧ o.data = .plain)
    (lst : u₀.heap.get? a = some { cls := .type "list", data := .seq its.toArray }) (allInt : IntsAre its ns) (short : ns.length ≤ sizeLine) (room : Room k callerA)
    (F : ∀ base : Heap, K.In base → base.Ns mainGlobals mg → TabB base mg c T → FnG P w K mg base CX0 k fa fd [x] sp) (bound : ∀ (s : Shared) (u : Value), BindsTo s fd ⟨[u], []⟩ [(x, u)])
    (asked : ∀ H : Hp, H T = some (.tbl #[]) → SqL K H a (ns.map V.int) → sp [.ref a] H (fun v _ => v = .bl true) fun _ _ _ => False) :
    codeAny (model P w) callerA (.call (.ref fa) ⟨[.ref a], []⟩) (fun r u => r = .ok (.ret (.bool true)) ∧ OldK u₀.heap u.heap ∧ u.os = u₀.os ∧ AllBare u.gens) u₀ := by
  have rel := vals_ints allInt
  have many := allInt.length
  generalize hob : ({ cls := .type "list", data := .seq its.toArray } : Obj) = ob at lst
  have apart : a ≠ T := fun z => by
    rw [z, tabIs, ← hob] at lst
    have z2 : Data.fields #[] = Data.seq its.toArray _ := congrArg Obj.data (Option.some.inj lst)
    cases z2
  have hT : atLaw K T a ob ns T = some (.tbl #[]) := if_pos rfl
  have hok : HOk P w (atLaw K T a ob ns) u₀.heap := fun b u e => by
    rcases atLaw_some e with ⟨rfl, rfl⟩ | ⟨_, rfl, _, rfl⟩
    · exact tabIs
    · exact ⟨lst, by rw [List.length_map]; exact short, its, _, rel, lst.trans (congrArg some hob.symm)⟩
  have seq : SqL K (atLaw K T a ob ns) a (ns.map V.int) := by
    cases hk : K.lookup a with
    | none => exact .inl (.inr ⟨ob, (if_neg apart).trans (if_pos ⟨rfl, hk⟩)⟩)
    | some o =>
      have e := inK a o hk
      rw [lst] at e
      cases e
      exact .inr ⟨_, its.toArray, _, hk, (congrArg Obj.cls hob).symm, (congrArg Obj.dict hob).symm, (congrArg Obj.data hob).symm, by rw [List.size_toArray, many]; exact short, by simpa using rel⟩
  have free : ∀ {b : Addr} {o : Obj}, u₀.heap.get? b = some o → b ≠ T → (b = a → K.lookup a ≠ none) → atLaw K T a ob ns b = none := fun {b o} e n1 n2 => by
    cases q : atLaw K T a ob ns b with
    | none => rfl
    | some u =>
      rcases atLaw_some q with ⟨z, _⟩ | ⟨_, z, z2, _⟩
      · exact absurd z n1
      · exact absurd z2 (n2 z)
  have notT : ∀ {b : Addr} {o : Obj}, u₀.heap.get? b = some o → o.data ≠ .fields #[] → b ≠ T := fun {b o} e n z => by
    rw [z, tabIs] at e
    exact n (congrArg Obj.data (Option.some.inj e)).symm
  have notA : ∀ {b : Addr} {o : Obj}, u₀.heap.get? b = some o → (∀ vs n, o.data ≠ .seq vs n) → b ≠ a := fun {b o} e n z => by
    rw [z, lst, ← hob] at e
    exact n _ _ (congrArg Obj.data (Option.some.inj e)).symm
  have freeD : ∀ {b : Addr} {o : Obj}, u₀.heap.get? b = some o → (∀ vs n, o.data ≠ .seq vs n) → o.data ≠ .fields #[] → atLaw K T a ob ns b = none := fun {b o} e n1 n2 => free e (notT e n2) fun z => absurd z (notA e n1)
  generalize hB : keepHeap u₀.heap (fun b => (atLaw K T a ob ns b).isNone) = B
  have up : ∀ {b : Addr} {o : Obj}, u₀.heap.get? b = some o → atLaw K T a ob ns b = none → B.get? b = some o := fun {b o} e n => by
    rw [← hB]
    exact keepHeap_get e (by rw [n]; rfl)
  have dn : ∀ b o, B.get? b = some o → u₀.heap.get? b = some o ∧ atLaw K T a ob ns b = none := fun b o e => by
    rw [← hB] at e
    obtain ⟨e1, e2⟩ := of_keepHeap e
    exact ⟨e1, Option.isNone_iff_eq_none.mp e2⟩
  have ns2 : ∀ {b : Addr} {m : Str → Option Value}, u₀.heap.Ns b m → B.Ns b m := fun {b m} ⟨o, es, ep, e, d, r⟩ => ⟨o, es, ep, up e (freeD e (fun vs n z => by rw [d] at z; cases z) (fun z => by rw [d] at z; cases z)), d, r⟩
  have inB : K.In B := fun b o e => up (inK b o e) (free (inK b o e) (fun z => by rw [z, tabOut] at e; cases e) fun z => by rw [← z, e]; exact fun y => nomatch y)
  have modB : L2.Mod K mg B := ⟨inB, ns2 glob, ⟨mb, ns2 blt, bltIs⟩, let ⟨mc, h1, h2⟩ := noLim; ⟨mc, ns2 h1, h2⟩⟩
  have tabB : TabB B mg c T := by
    refine ⟨?_, ?_, fun z => ?_⟩
    · obtain ⟨o, us, file, tf, flags, tg, inF, text, tt, e1, r1, r2, r3, rest⟩ := code
      refine ⟨o, us, file, tf, flags, tg, inF, text, tt, up e1 (freeD e1 (fun vs n z => by rw [r2] at z; cases z) fun z => ?_), r1, r2, r3, rest⟩
      rw [r2] at z
      cases z
      simp at r3
    · obtain ⟨bm, o, b1, b2, b3, b4, b5, b6⟩ := bmain
      have n1 : bm ≠ mainGlobals := fun z => by
        obtain ⟨o2, es, ep, e, d, _⟩ := glob
        rw [z, e] at b3
        cases b3
        rw [d] at b6
        cases b6
      exact ⟨bm, o, b1, b2, n1, notT b3 (fun z => by rw [b6] at z; cases z), up b3 (freeD b3 (fun vs n z => by rw [b6] at z; cases z) fun z => by rw [b6] at z; cases z), b4, b5, b6⟩
    · obtain ⟨o2, es, ep, e, d, _⟩ := glob
      rw [z, tabIs] at e
      cases e
      cases d
  have env0 : Env0 P w K mg B callerA [] u₀ (atLaw K T a ob ns) := ⟨rfl, modB, dn, by rw [← hB, keepHeap_size]; exact Nat.le_refl _, trivial, fun b z => absurd (show b ∈ ([] : List Addr) from z) (by simp), hok, .of_eq noGen⟩
  refine codeAny_mono ((F B inB (ns2 glob) tabB).go callerA [] u₀ (atLaw K T a ob ns) ⟨[.ref a], []⟩ [.ref a] [.ref a] _ _ room rfl env0 (bound u₀ (.ref a)) (.cons rfl .nil) (asked _ hT seq)) fun r u got => ?_
  cases r with
  | error e => exact got.elim
  | ok fl =>
    cases fl with
    | next => exact False.elim got
    | brk => exact False.elim got
    | cont => exact False.elim got
    | ret y =>
      obtain ⟨v, H2, os, bare, un, hok2, rv, q⟩ := got
      have ev : v = .bl true := q
      subst ev
      obtain rfl : y = Value.bool true := rv
      have stays : ∀ b o, b ≠ T → u₀.heap.get? b = some o → u.heap.get? b = some o := fun b o n e => by
        cases q2 : atLaw K T a ob ns b with
        | none => exact un.keep b o e q2 (fun z => absurd (show b ∈ ([] : List Addr) from z) (by simp)) (by simp)
        | some x2 =>
          rcases atLaw_some q2 with ⟨z, _⟩ | ⟨_, rfl, _, rfl⟩
          · exact absurd z n
          · obtain ⟨e2, _⟩ := hok2 b _ (un.frzs b ob _ q2)
            rw [lst] at e
            cases e
            exact e2
      obtain ⟨more, grown⟩ := un.tbls T #[] hT
      have grown2 : u.heap.get? T = some { cls := .none, data := .fields (#[] ++ more) } := hok2 T _ grown
      refine ⟨rfl, ⟨fun b o e => ?_, fun b o e => ?_⟩, os, bare⟩
      · by_cases z : b = T
        · rw [z, tabIs] at e
          cases e
          rw [z]
          exact .inr (.inl ⟨(code.tab tabIs).isCodeTable, rfl, #[], #[] ++ more, rfl, by rw [Array.empty_append] at grown2 ⊢; rw [Array.empty_append]; exact grown2⟩)
        · exact .inl (stays b o z e)
      · by_cases z : b = T
        · rw [z]
          exact ⟨_, grown2⟩
        · exact ⟨o, stays b o z e⟩
end Kg
namespace Kg
open PySem PySem.Spec PyProof.Rows L2 LamX
theorem oexB_cls {K : PySem.W.Frag} {C : Addr} (h : oexB K C = true) : ∃ nm q N bs bm sn sub ab col dd k0 k1 k2 k3 k5, K.lookup C = some (excClassObj nm q C N bs bm true sn sub ab col dd k0 k1 k2 k3 k5 "ValueError.__new__") ∧ PySem.HandSPX.refsVE bm = true := by
  unfold oexB at h
  split at h
  · rename_i dd nm bs mro ns qn hd sn sub ab col del sl look
    split at h
    · rename_i C2 bm k0 k1 k2 k3 n k5 slots
      simp only [Bool.and_eq_true, beq_iff_eq, Bool.not_eq_true'] at h
      obtain ⟨⟨⟨⟨rfl, rfl⟩, rfl⟩, rfl⟩, good⟩ := h
      obtain ⟨l⟩ := sl
      simp only at slots
      subst slots
      exact ⟨_, _, _, _, bm, _, _, _, _, _, _, _, _, _, _, look, good⟩
    · cases h
  · cases h
theorem bindsKw {K : PySem.W.Frag} {f : Addr} {fd : FuncData} (F : FnP K "read" "read" sRead f fd) (s : Shared) (u : Value) : BindsTo s fd ⟨[], [(("text" : Str), u)]⟩ [(("text" : Str), u)] := by
  obtain ⟨oc, od, dV, kV, doc, pm, an, cdv, ct, osl, rfl, lk, hcd, hD, hK⟩ := F.ex
  rcases hD with ⟨_, rfl⟩ | ⟨e, _⟩
  · exact .of_eq rfl
  · exact absurd rfl e
theorem bindsKw2 {K : PySem.W.Frag} {f : Addr} {fd : FuncData} (F : FnP K "printed" "printed" sPrinted f fd) (s : Shared) (u : Value) : BindsTo s fd ⟨[], [(("text" : Str), u)]⟩ [(("text" : Str), u)] := by
  obtain ⟨oc, od, dV, kV, doc, pm, an, cdv, ct, osl, rfl, lk, hcd, hD, hK⟩ := F.ex
  rcases hD with ⟨_, rfl⟩ | ⟨e, _⟩
  · exact .of_eq rfl
  · exact absurd rfl e
section
variable {P : Program} {w : World} {K : PySem.W.Frag} {h : Heap} {mg : Str → Option Value} {fa : Addr}
theorem exAt (c : He.SaysX faL fnL [] [rightAt] exB w h K) (i : Nat) {b : Bool} (e : (exL K)[i]? = some b) : b = true := by
  have z := List.all_eq_true.mp (show (exL K).all id = true from c.more) b (List.mem_of_getElem? e)
  exact z
theorem kept (X : K.In h) (G : h.Ns mainGlobals mg) (hfa : mg ("law" : Str) = some (.ref fa)) (c : He.SaysX faL fnL [] [rightAt] exB w h K) :
    ∃ fd : FuncData, (∀ (s : Shared) (u : Value), BindsTo s fd ⟨[u], []⟩ [(("script" : Str), u)]) ∧ ∀ base : Heap, K.In base → base.Ns mainGlobals mg → TabB base mg (He.cT K rightAt).1 (He.cT K rightAt).2 → FnG P w K mg base CX0 15 fa fd ["script"] (spLaw K (He.cT K rightAt).2) := by
  obtain ⟨fdv_bare_words, Fv_bare_words⟩ := c.t.d.def_ 0 (d := d_bare_words) rfl
  replace Fv_bare_words : FnP K "bare_words" "bare_words" sBare (He.ga K "bare_words") fdv_bare_words := Fv_bare_words
  obtain ⟨fdv_words_in, Fv_words_in⟩ := c.t.d.def_ 1 (d := d_words_in) rfl
  replace Fv_words_in : FnP K "words_in" "words_in" sWordsIn (He.ga K "words_in") fdv_words_in := Fv_words_in
  obtain ⟨fdv_line_words, Fv_line_words⟩ := c.t.d.def_ 2 (d := d_line_words) rfl
  replace Fv_line_words : FnP K "line_words" "line_words" sLineWords (He.ga K "line_words") fdv_line_words := Fv_line_words
  obtain ⟨fdv_word_end, Fv_word_end⟩ := c.t.d.def_ 3 (d := d_word_end) rfl
  replace Fv_word_end : FnP K "word_end" "word_end" sWordEnd (He.ga K "word_end") fdv_word_end := Fv_word_end
  obtain ⟨fdv_is_integer, Fv_is_integer⟩ := c.t.d.def_ 4 (d := d_is_integer) rfl
  replace Fv_is_integer : FnP K "is_integer" "is_integer" sIsInt (He.ga K "is_integer") fdv_is_integer := Fv_is_integer
  obtain ⟨fdv_is_name, Fv_is_name⟩ := c.t.d.def_ 5 (d := d_is_name) rfl
  replace Fv_is_name : FnP K "is_name" "is_name" sIsName (He.ga K "is_name") fdv_is_name := Fv_is_name
  obtain ⟨fdv_has_only, Fv_has_only⟩ := c.t.d.def_ 6 (d := d_has_only) rfl
  replace Fv_has_only : FnP K "has_only" "has_only" sHas (He.ga K "has_only") fdv_has_only := Fv_has_only
  obtain ⟨fdv_number_of, Fv_number_of⟩ := c.t.d.def_ 7 (d := d_number_of) rfl
  replace Fv_number_of : FnP K "number_of" "number_of" sNumber (He.ga K "number_of") fdv_number_of := Fv_number_of
  obtain ⟨fdv_paired, Fv_paired⟩ := c.t.d.def_ 8 (d := d_paired) rfl
  replace Fv_paired : FnP K "paired" "paired" sPaired (He.ga K "paired") fdv_paired := Fv_paired
  obtain ⟨fdv_list_of, Fv_list_of⟩ := c.t.d.def_ 9 (d := d_list_of) rfl
  replace Fv_list_of : FnP K "list_of" "list_of" sListOf (He.ga K "list_of") fdv_list_of := Fv_list_of
  obtain ⟨fdv_init_KeptError, Fv_init_KeptError⟩ := c.t.d.def_ 10 (d := d___init___KeptError) rfl
  replace Fv_init_KeptError : FnP K "__init__" "KeptError.__init__" sEInit (He.ma K (He.ga K "KeptError") "__init__") fdv_init_KeptError := Fv_init_KeptError
  obtain ⟨fdv_init_Pair, Fv_init_Pair⟩ := c.t.d.def_ 11 (d := d___init___Pair) rfl
  replace Fv_init_Pair : FnP K "__init__" "Pair.__init__" sPInit (He.ma K (He.ga K "Pair") "__init__") fdv_init_Pair := Fv_init_Pair
  obtain ⟨fdv_init_Opened, Fv_init_Opened⟩ := c.t.d.def_ 12 (d := d___init___Opened) rfl
  replace Fv_init_Opened : FnP K "__init__" "Opened.__init__" sOInit (He.ma K (He.ga K "Opened") "__init__") fdv_init_Opened := Fv_init_Opened
  obtain ⟨fdv_init_Reader, Fv_init_Reader⟩ := c.t.d.def_ 13 (d := d___init___Reader) rfl
  replace Fv_init_Reader : FnP K "__init__" "Reader.__init__" sRInit (He.ma K (He.ga K "Reader") "__init__") fdv_init_Reader := Fv_init_Reader
  obtain ⟨fdv_where_Reader, Fv_where_Reader⟩ := c.t.d.def_ 14 (d := d_where_Reader) rfl
  replace Fv_where_Reader : FnP K "where" "Reader.where" sWhere (He.ma K (He.ga K "Reader") "where") fdv_where_Reader := Fv_where_Reader
  obtain ⟨fdv_take_Reader, Fv_take_Reader⟩ := c.t.d.def_ 15 (d := d_take_Reader) rfl
  replace Fv_take_Reader : FnP K "take" "Reader.take" sTake (He.ma K (He.ga K "Reader") "take") fdv_take_Reader := Fv_take_Reader
  obtain ⟨fdv_take_opening_Reader, Fv_take_opening_Reader⟩ := c.t.d.def_ 16 (d := d_take_opening_Reader) rfl
  replace Fv_take_opening_Reader : FnP K "take_opening" "Reader.take_opening" sTakeOp (He.ma K (He.ga K "Reader") "take_opening") fdv_take_opening_Reader := Fv_take_opening_Reader
  obtain ⟨fdv_take_dot_Reader, Fv_take_dot_Reader⟩ := c.t.d.def_ 17 (d := d_take_dot_Reader) rfl
  replace Fv_take_dot_Reader : FnP K "take_dot" "Reader.take_dot" sTakeDot (He.ma K (He.ga K "Reader") "take_dot") fdv_take_dot_Reader := Fv_take_dot_Reader
  obtain ⟨fdv_take_closing_Reader, Fv_take_closing_Reader⟩ := c.t.d.def_ 18 (d := d_take_closing_Reader) rfl
  replace Fv_take_closing_Reader : FnP K "take_closing" "Reader.take_closing" sTakeCl (He.ma K (He.ga K "Reader") "take_closing") fdv_take_closing_Reader := Fv_take_closing_Reader
  obtain ⟨fdv_take_single_Reader, Fv_take_single_Reader⟩ := c.t.d.def_ 19 (d := d_take_single_Reader) rfl
  replace Fv_take_single_Reader : FnP K "take_single" "Reader.take_single" sTakeSg (He.ma K (He.ga K "Reader") "take_single") fdv_take_single_Reader := Fv_take_single_Reader
  obtain ⟨fdv_put_Reader, Fv_put_Reader⟩ := c.t.d.def_ 20 (d := d_put_Reader) rfl
  replace Fv_put_Reader : FnP K "put" "Reader.put" sPut (He.ma K (He.ga K "Reader") "put") fdv_put_Reader := Fv_put_Reader
  obtain ⟨fdv_data_in, Fv_data_in⟩ := c.t.d.def_ 21 (d := d_data_in) rfl
  replace Fv_data_in : FnP K "data_in" "data_in" sDataIn (He.ga K "data_in") fdv_data_in := Fv_data_in
  obtain ⟨fdv_datum_in, Fv_datum_in⟩ := c.t.d.def_ 22 (d := d_datum_in) rfl
  replace Fv_datum_in : FnP K "datum_in" "datum_in" sDatumIn (He.ga K "datum_in") fdv_datum_in := Fv_datum_in
  obtain ⟨fdv_read_by, Fv_read_by⟩ := c.t.d.def_ 23 (d := d_read_by) rfl
  replace Fv_read_by : FnP K "read_by" "read_by" sReadBy (He.ga K "read_by") fdv_read_by := Fv_read_by
  obtain ⟨fdv_all_data, Fv_all_data⟩ := c.t.d.def_ 24 (d := d_all_data) rfl
  replace Fv_all_data : FnP K "all_data" "all_data" sAllData (He.ga K "all_data") fdv_all_data := Fv_all_data
  obtain ⟨fdv_lone_datum, Fv_lone_datum⟩ := c.t.d.def_ 25 (d := d_lone_datum) rfl
  replace Fv_lone_datum : FnP K "lone_datum" "lone_datum" sLone (He.ga K "lone_datum") fdv_lone_datum := Fv_lone_datum
  obtain ⟨fdv_read, Fv_read⟩ := c.t.d.def_ 26 (d := d_read) rfl
  replace Fv_read : FnP K "read" "read" sRead (He.ga K "read") fdv_read := Fv_read
  obtain ⟨fdv_printed, Fv_printed⟩ := c.t.d.def_ 27 (d := d_printed) rfl
  replace Fv_printed : FnP K "printed" "printed" sPrinted (He.ga K "printed") fdv_printed := Fv_printed
  obtain ⟨fdv_datum_text, Fv_datum_text⟩ := c.t.d.def_ 28 (d := d_datum_text) rfl
  replace Fv_datum_text : FnP K "datum_text" "datum_text" sDatumText (He.ga K "datum_text") fdv_datum_text := Fv_datum_text
  obtain ⟨fdv_text_within, Fv_text_within⟩ := c.t.d.def_ 29 (d := d_text_within) rfl
  replace Fv_text_within : FnP K "text_within" "text_within" sTextWithin (He.ga K "text_within") fdv_text_within := Fv_text_within
  obtain ⟨fdv_text_behind, Fv_text_behind⟩ := c.t.d.def_ 30 (d := d_text_behind) rfl
  replace Fv_text_behind : FnP K "text_behind" "text_behind" sTextBehind (He.ga K "text_behind") fdv_text_behind := Fv_text_behind
  obtain ⟨fdv_single_text, Fv_single_text⟩ := c.t.d.def_ 31 (d := d_single_text) rfl
  replace Fv_single_text : FnP K "single_text" "single_text" sSingleText (He.ga K "single_text") fdv_single_text := Fv_single_text
  obtain ⟨fdv_number_text, Fv_number_text⟩ := c.t.d.def_ 32 (d := d_number_text) rfl
  replace Fv_number_text : FnP K "number_text" "number_text" sNumText (He.ga K "number_text") fdv_number_text := Fv_number_text
  obtain ⟨fdv_chunks_of, Fv_chunks_of⟩ := c.t.d.def_ 33 (d := d_chunks_of) rfl
  replace Fv_chunks_of : FnP K "chunks_of" "chunks_of" sChunks (He.ga K "chunks_of") fdv_chunks_of := Fv_chunks_of
  obtain ⟨fdv_L_pot, Fv_L_pot⟩ := c.t.d.def_ 34 (d := d__law_pot) rfl
  replace Fv_L_pot : FnP K "_law_pot" "_law_pot" sLawPot (He.ga K "_law_pot") fdv_L_pot := Fv_L_pot
  obtain ⟨fdv_L_take, Fv_L_take⟩ := c.t.d.def_ 35 (d := d__law_take) rfl
  replace Fv_L_take : FnP K "_law_take" "_law_take" sLawTake (He.ga K "_law_take") fdv_L_take := Fv_L_take
  obtain ⟨fdv_L_of, Fv_L_of⟩ := c.t.d.def_ 36 (d := d__law_of) rfl
  replace Fv_L_of : FnP K "_law_of" "_law_of" sLawOf (He.ga K "_law_of") fdv_L_of := Fv_L_of
  obtain ⟨fdv_L_cells, Fv_L_cells⟩ := c.t.d.def_ 37 (d := d__law_cells) rfl
  replace Fv_L_cells : FnP K "_law_cells" "_law_cells" sCells (He.ga K "_law_cells") fdv_L_cells := Fv_L_cells
  obtain ⟨fdv_L_caught, Fv_L_caught⟩ := c.t.d.def_ 38 (d := d__law_caught) rfl
  replace Fv_L_caught : FnP K "_law_caught" "_law_caught" sCaught (He.ga K "_law_caught") fdv_L_caught := Fv_L_caught
  obtain ⟨fdv_L_is_refused, Fv_L_is_refused⟩ := c.t.d.def_ 39 (d := d__law_is_refused) rfl
  replace Fv_L_is_refused : FnP K "_law_is_refused" "_law_is_refused" sIsRefused (He.ga K "_law_is_refused") fdv_L_is_refused := Fv_L_is_refused
  obtain ⟨fdv_L_odd, Fv_L_odd⟩ := c.t.d.def_ 40 (d := d__law_odd) rfl
  replace Fv_L_odd : FnP K "_law_odd" "_law_odd" sOdd (He.ga K "_law_odd") fdv_L_odd := Fv_L_odd
  obtain ⟨fdv_L_word, Fv_L_word⟩ := c.t.d.def_ 41 (d := d__law_word) rfl
  replace Fv_L_word : FnP K "_law_word" "_law_word" sLawWord (He.ga K "_law_word") fdv_L_word := Fv_L_word
  obtain ⟨fdv_L_right, Fv_L_right⟩ := c.t.d.def_ 42 (d := d__law_right) rfl
  replace Fv_L_right : FnP K "_law_right" "_law_right" sRight (He.ga K "_law_right") fdv_L_right := Fv_L_right
  obtain ⟨fdv_law, Fv_law⟩ := c.t.d.def_ 43 (d := d_law) rfl
  replace Fv_law : FnP K "law" "law" sLaw (He.ga K "law") fdv_law := Fv_law
  have bv_take_Reader : Binds K fdv_take_Reader ["self", "word", "place"] [] := Fv_take_Reader.bindsN fun _ _ _ _ _ _ us hl => match us, hl with | [_, _, _], _ => rfl
  have bv_take_opening_Reader : Binds K fdv_take_opening_Reader ["self", "state", "place"] [] := Fv_take_opening_Reader.bindsN fun _ _ _ _ _ _ us hl => match us, hl with | [_, _, _], _ => rfl
  have bv_take_dot_Reader : Binds K fdv_take_dot_Reader ["self", "place"] [] := Fv_take_dot_Reader.bindsN fun _ _ _ _ _ _ us hl => match us, hl with | [_, _], _ => rfl
  have bv_take_closing_Reader : Binds K fdv_take_closing_Reader ["self", "place"] [] := Fv_take_closing_Reader.bindsN fun _ _ _ _ _ _ us hl => match us, hl with | [_, _], _ => rfl
  have bv_take_single_Reader : Binds K fdv_take_single_Reader ["self", "datum", "place"] [] := Fv_take_single_Reader.bindsN fun _ _ _ _ _ _ us hl => match us, hl with | [_, _, _], _ => rfl
  have bv_data_in : Binds K fdv_data_in ["text"] [] := Fv_data_in.bindsN fun _ _ _ _ _ _ us hl => match us, hl with | [_], _ => rfl
  have bv_datum_in : Binds K fdv_datum_in ["text"] [] := Fv_datum_in.bindsN fun _ _ _ _ _ _ us hl => match us, hl with | [_], _ => rfl
  have bv_read_by : Binds K fdv_read_by ["look", "text"] [] := Fv_read_by.bindsN fun _ _ _ _ _ _ us hl => match us, hl with | [_, _], _ => rfl
  have bv_all_data : Binds K fdv_all_data ["words", "end"] [] := Fv_all_data.bindsN fun _ _ _ _ _ _ us hl => match us, hl with | [_, _], _ => rfl
  have bv_lone_datum : Binds K fdv_lone_datum ["words", "end"] [] := Fv_lone_datum.bindsN fun _ _ _ _ _ _ us hl => match us, hl with | [_, _], _ => rfl
  have bv_read : Binds K fdv_read ["text"] [] := Fv_read.bindsN fun _ _ _ _ _ _ us hl => match us, hl with | [_], _ => rfl
  have bv_printed : Binds K fdv_printed ["text"] [] := Fv_printed.bindsN fun _ _ _ _ _ _ us hl => match us, hl with | [_], _ => rfl
  have bv_datum_text : Binds K fdv_datum_text ["datum"] [] := Fv_datum_text.bindsN fun _ _ _ _ _ _ us hl => match us, hl with | [_], _ => rfl
  have bv_L_pot : Binds K fdv_L_pot ["script", "place"] [] := Fv_L_pot.bindsN fun _ _ _ _ _ _ us hl => match us, hl with | [_, _], _ => rfl
  have bv_L_of : Binds K fdv_L_of ["pot", "some"] [] := Fv_L_of.bindsN fun _ _ _ _ _ _ us hl => match us, hl with | [_, _], _ => rfl
  have bv_L_cells : Binds K fdv_L_cells ["script", "limit"] [] := Fv_L_cells.bindsN fun _ _ _ _ _ _ us hl => match us, hl with | [_, _], _ => rfl
  have bv_L_caught : Binds K fdv_L_caught ["call"] [] := Fv_L_caught.bindsN fun _ _ _ _ _ _ us hl => match us, hl with | [_], _ => rfl
  have bv_L_is_refused : Binds K fdv_L_is_refused ["call", "word", "value"] [] := Fv_L_is_refused.bindsN fun _ _ _ _ _ _ us hl => match us, hl with | [_, _, _], _ => rfl
  have bv_L_odd : Binds K fdv_L_odd ["pot"] [] := Fv_L_odd.bindsN fun _ _ _ _ _ _ us hl => match us, hl with | [_], _ => rfl
  have bv_L_right : Binds K fdv_L_right ["pot"] [] := Fv_L_right.bindsN fun _ _ _ _ _ _ us hl => match us, hl with | [_], _ => rfl
  have e := hfa.symm.trans (He.glo_ok X G (c.t.d.fact 32 (f := .glo "law") rfl))
  cases e
  have W : WT K mg (He.ga K "has_only") (He.ga K "is_integer") (He.ga K "is_name") := ⟨(He.glo_ok X G (c.t.d.fact 6 (f := .glo "has_only") rfl)), (He.glo_ok X G (c.t.d.fact 4 (f := .glo "is_integer") rfl)), (He.glo_ok X G (c.t.d.fact 5 (f := .glo "is_name") rfl)), (He.free_ok X G (c.t.d.fact 46 (f := .free "all") rfl)), (He.free_ok X G (c.t.d.fact 38 (f := .free "len") rfl)), (He.free_ok X G (c.t.d.fact 44 (f := .free "max") rfl)), (He.free_ok X G (c.t.d.fact 47 (f := .free "enumerate") rfl)), (He.str_ok X G (c.t.d.fact 67 (f := .str "FIGURES" FIG) rfl)), (He.str_ok X G (c.t.d.fact 68 (f := .str "WORD_SIGNS" SIGNS) rfl)), (He.int_ok X G (c.t.d.fact 56 (f := .int "LONGEST_NAME" 16) rfl)), (He.str_ok X G (c.t.d.fact 66 (f := .str "DOT" ".") rfl))⟩
  have R : RT K mg (He.ga K "Reader") (He.ga K "Opened") (He.ma K (He.ga K "Opened") "__init__") (He.ma K (He.ga K "Reader") "where") (He.ma K (He.ga K "Reader") "put") (He.ma K (He.ga K "Reader") "take_single") (He.ma K (He.ga K "Reader") "take_opening") := ⟨(He.cls_ok (c.t.d.fact 71 (f := .cls "Reader") rfl)), (He.cls_ok (c.t.d.fact 72 (f := .cls "Opened") rfl)), (He.noat_ok (c.t.d.fact 74 (f := .noat "Reader" "data") rfl)), (He.noat_ok (c.t.d.fact 75 (f := .noat "Reader" "opened") rfl)), (He.noat_ok (c.t.d.fact 76 (f := .noat "Reader" "known") rfl)), (He.noat_ok (c.t.d.fact 77 (f := .noat "Opened" "state") rfl)), (He.noat_ok (c.t.d.fact 78 (f := .noat "Opened" "data") rfl)), (He.glo_ok X G (c.t.d.fact 35 (f := .glo "Opened") rfl)), (He.mkr_ok (c.t.d.fact 82 (f := .mkr "Opened") rfl)), (He.meth_ok (c.t.d.fact 84 (f := .meth "Reader" "where") rfl)), (He.meth_ok (c.t.d.fact 85 (f := .meth "Reader" "put") rfl)), (He.meth_ok (c.t.d.fact 86 (f := .meth "Reader" "take_single") rfl)), (He.meth_ok (c.t.d.fact 87 (f := .meth "Reader" "take_opening") rfl)), (He.free_ok X G (c.t.d.fact 38 (f := .free "len") rfl)), (He.str_ok X G (c.t.d.fact 62 (f := .str "BEHIND_QUOTE" QUOTE) rfl)), (He.str_ok X G (c.t.d.fact 63 (f := .str "IN_LIST" INLIST) rfl)), (He.str_ok X G (c.t.d.fact 64 (f := .str "BEHIND_DOT" DOTTED) rfl)), (He.str_ok X G (c.t.d.fact 65 (f := .str "BEHIND_TAIL" TAILED) rfl)), (He.int_ok X G (c.t.d.fact 57 (f := .int "MOST_OPEN" 40) rfl)), (He.str_ok X G (c.t.d.fact 66 (f := .str "DOT" ".") rfl))⟩
  have MR : Mk K (He.ga K "Reader") (He.ma K (He.ga K "Reader") "__init__") := (He.mkr_ok (c.t.d.fact 81 (f := .mkr "Reader") rfl))
  have T : ET K mg (He.ga K "BadText") (He.ma K (He.ga K "KeptError") "__init__") := ⟨⟨oexB_cls (exAt c 0 rfl), (of_decide_eq_true (exAt c 1 rfl)), (of_decide_eq_true (exAt c 2 rfl)), (of_decide_eq_true (exAt c 3 rfl)), exAt c 4 rfl⟩, (of_decide_eq_true (exAt c 5 rfl)), (of_decide_eq_true (exAt c 6 rfl)), (of_decide_eq_true (exAt c 7 rfl)), (He.glo_ok X G (c.t.d.fact 34 (f := .glo "BadText") rfl)), (He.free_ok X G (c.t.d.fact 48 (f := .free "isinstance") rfl)), (He.free_ok X G (c.t.d.fact 49 (f := .free "str") rfl))⟩
  have Lo : LoT K mg (He.ga K "Pair") (He.ga K "list_of") (He.ma K (He.ga K "Pair") "__init__") := ⟨(He.cls_ok (c.t.d.fact 73 (f := .cls "Pair") rfl)), (He.noat_ok (c.t.d.fact 79 (f := .noat "Pair" "head") rfl)), (He.noat_ok (c.t.d.fact 80 (f := .noat "Pair" "tail") rfl)), (He.mkr_ok (c.t.d.fact 83 (f := .mkr "Pair") rfl)), (He.glo_ok X G (c.t.d.fact 37 (f := .glo "Pair") rfl)), (He.free_ok X G (c.t.d.fact 53 (f := .free "reversed") rfl)), (He.glo_ok X G (c.t.d.fact 9 (f := .glo "list_of") rfl)), (He.str_ok X G (c.t.d.fact 69 (f := .str "EMPTY" "()") rfl))⟩
  have No : NoT mg (He.ga K "number_of") (He.ga K "paired") := ⟨(He.glo_ok X G (c.t.d.fact 7 (f := .glo "number_of") rfl)), (He.glo_ok X G (c.t.d.fact 8 (f := .glo "paired") rfl)), (He.free_ok X G (c.t.d.fact 42 (f := .free "range") rfl)), (He.free_ok X G (c.t.d.fact 39 (f := .free "int") rfl)), (He.int_ok X G (c.t.d.fact 58 (f := .int "CHUNK" 64) rfl)), (He.int_ok X G (c.t.d.fact 59 (f := .int "CHUNK_SCALE" (10 ^ 64)) rfl))⟩
  have Pr : PrT K mg (He.ga K "Pair") := ⟨(He.glo_ok X G (c.t.d.fact 37 (f := .glo "Pair") rfl)), (He.free_ok X G (c.t.d.fact 48 (f := .free "isinstance") rfl)), (He.free_ok X G (c.t.d.fact 49 (f := .free "str") rfl)), (He.free_ok X G (c.t.d.fact 39 (f := .free "int") rfl)), (He.cls_ok (c.t.d.fact 73 (f := .cls "Pair") rfl)), (of_decide_eq_true (exAt c 8 rfl)), (of_decide_eq_true (exAt c 9 rfl)), (of_decide_eq_true (exAt c 10 rfl)), (of_decide_eq_true (exAt c 11 rfl)), (of_decide_eq_true (exAt c 12 rfl)), (of_decide_eq_true (exAt c 13 rfl)), (of_decide_eq_true (exAt c 14 rfl)), (He.noat_ok (c.t.d.fact 79 (f := .noat "Pair" "head") rfl)), (He.noat_ok (c.t.d.fact 80 (f := .noat "Pair" "tail") rfl)), (He.str_ok X G (c.t.d.fact 69 (f := .str "EMPTY" "()") rfl)), (He.int_ok X G (c.t.d.fact 60 (f := .int "MOST_SIGNS" 2000) rfl)), (He.str_ok X G (c.t.d.fact 70 (f := .str "LONG" "#long") rfl)), (He.int_ok X G (c.t.d.fact 61 (f := .int "WRITTEN_BITS" 2000) rfl)), (He.int_ok X G (c.t.d.fact 58 (f := .int "CHUNK" 64) rfl)), (He.int_ok X G (c.t.d.fact 59 (f := .int "CHUNK_SCALE" (10 ^ 64)) rfl)), (He.free_ok X G (c.t.d.fact 38 (f := .free "len") rfl)), (He.free_ok X G (c.t.d.fact 53 (f := .free "reversed") rfl)), (He.free_ok X G (c.t.d.fact 41 (f := .free "abs") rfl)), (He.free_ok X G (c.t.d.fact 54 (f := .free "divmod") rfl))⟩
  have B : BT mg := ⟨(He.free_ok X G (c.t.d.fact 38 (f := .free "len") rfl)), (He.free_ok X G (c.t.d.fact 39 (f := .free "int") rfl)), (He.free_ok X G (c.t.d.fact 40 (f := .free "sum") rfl)), (He.free_ok X G (c.t.d.fact 41 (f := .free "abs") rfl)), (He.free_ok X G (c.t.d.fact 42 (f := .free "range") rfl)), (He.free_ok X G (c.t.d.fact 43 (f := .free "list") rfl)), (He.free_ok X G (c.t.d.fact 44 (f := .free "max") rfl)), (He.free_ok X G (c.t.d.fact 45 (f := .free "min") rfl)), (He.free_ok X G (c.t.d.fact 46 (f := .free "all") rfl))⟩
  have GOp : ∀ B2 : Heap, FnOk P w K mg B2 (L2.CX P w) 3 _ fdv_take_opening_Reader ["self", "state", "place"] (spOpE (He.ga K "Reader") (He.ga K "Opened") (He.ga K "Pair") (He.ga K "BadText")) := fun B2 => ok_opE Fv_take_opening_Reader R T Fv_init_KeptError Fv_where_Reader Fv_init_Opened
  have GDo : ∀ B2 : Heap, FnOk P w K mg B2 (L2.CX P w) 3 _ fdv_take_dot_Reader ["self", "place"] (spDot (He.ga K "Reader") (He.ga K "Opened") (He.ga K "Pair") (He.ga K "BadText")) := fun B2 => ok_dot Fv_take_dot_Reader R T Fv_init_KeptError Fv_where_Reader
  have GCl : ∀ B2 : Heap, FnOk P w K mg B2 (L2.CX P w) 5 _ fdv_take_closing_Reader ["self", "place"] (spClose (He.ga K "Reader") (He.ga K "Opened") (He.ga K "Pair") (He.ga K "BadText")) := fun B2 => ok_close Fv_take_closing_Reader R T Fv_init_KeptError Fv_where_Reader Lo Fv_list_of Fv_init_Pair Fv_put_Reader
  have GSg : ∀ B2 : Heap, FnOk P w K mg B2 (L2.CX P w) 5 _ fdv_take_single_Reader ["self", "datum", "place"] (spSingle (He.ga K "Reader") (He.ga K "Opened") (He.ga K "Pair") (He.ga K "BadText")) := fun B2 => ok_single Fv_take_single_Reader R T Fv_init_KeptError Fv_where_Reader Lo Fv_list_of Fv_init_Pair Fv_put_Reader
  have GTk : ∀ B2 : Heap, FnOk P w K mg B2 (L2.CX P w) 6 _ fdv_take_Reader ["self", "word", "place"] (spTakeE (He.ga K "Reader") (He.ga K "Opened") (He.ga K "Pair") (He.ga K "BadText")) := fun B2 => ok_takeE Fv_take_Reader R T Fv_init_KeptError (He.meth_ok (c.t.d.fact 88 (f := .meth "Reader" "take_dot") rfl)) (He.meth_ok (c.t.d.fact 89 (f := .meth "Reader" "take_closing") rfl)) W Fv_has_only Fv_is_integer Fv_is_name No Fv_number_of Fv_paired (GOp B2) (GDo B2) (GCl B2) (GSg B2) bv_take_opening_Reader bv_take_dot_Reader bv_take_closing_Reader bv_take_single_Reader
  have GAl : ∀ B2 : Heap, FnOk P w K mg B2 (L2.CX P w) 7 _ fdv_all_data ["words", "end"] (spLk (He.ga K "BadText") (runV S0) fineA (ansA (He.ga K "Pair"))) := fun B2 => (ok_all Fv_all_data T Fv_init_KeptError R MR (He.glo_ok X G (c.t.d.fact 36 (f := .glo "Reader") rfl)) Fv_init_Reader (GTk B2) bv_take_Reader (He.meth_ok (c.t.d.fact 90 (f := .meth "Reader" "take") rfl))).imp all_lk
  have GLo : ∀ B2 : Heap, FnOk P w K mg B2 (L2.CX P w) 7 _ fdv_lone_datum ["words", "end"] (spLk (He.ga K "BadText") (runW S0) fineL (ansL (He.ga K "Pair"))) := fun B2 => (ok_lone Fv_lone_datum T Fv_init_KeptError R MR (He.glo_ok X G (c.t.d.fact 36 (f := .glo "Reader") rfl)) Fv_init_Reader (GTk B2) bv_take_Reader (He.meth_ok (c.t.d.fact 90 (f := .meth "Reader" "take") rfl))).imp lone_lk
  have GBa : ∀ B2 : Heap, FnOk P w K mg B2 (L2.CX P w) 8 _ fdv_read_by ["look", "text"] (spReadBy K (He.ga K "BadText") (He.ga K "all_data") (runE S0) fineA (ansA (He.ga K "Pair"))) := fun B2 => ok_by runsA Fv_read_by T (of_decide_eq_true (exAt c 15 rfl)) Fv_init_KeptError Fv_bare_words (He.glo_ok X G (c.t.d.fact 0 (f := .glo "bare_words") rfl)) Fv_words_in Fv_line_words Fv_word_end W (He.glo_ok X G (c.t.d.fact 1 (f := .glo "words_in") rfl)) (He.glo_ok X G (c.t.d.fact 2 (f := .glo "line_words") rfl)) (He.glo_ok X G (c.t.d.fact 3 (f := .glo "word_end") rfl)) (GAl B2) bv_all_data Fv_all_data.kp
  have GBl : ∀ B2 : Heap, FnOk P w K mg B2 (L2.CX P w) 8 _ fdv_read_by ["look", "text"] (spReadBy K (He.ga K "BadText") (He.ga K "lone_datum") (runD S0) fineL (ansL (He.ga K "Pair"))) := fun B2 => ok_by runsL Fv_read_by T (of_decide_eq_true (exAt c 15 rfl)) Fv_init_KeptError Fv_bare_words (He.glo_ok X G (c.t.d.fact 0 (f := .glo "bare_words") rfl)) Fv_words_in Fv_line_words Fv_word_end W (He.glo_ok X G (c.t.d.fact 1 (f := .glo "words_in") rfl)) (He.glo_ok X G (c.t.d.fact 2 (f := .glo "line_words") rfl)) (He.glo_ok X G (c.t.d.fact 3 (f := .glo "word_end") rfl)) (GLo B2) bv_lone_datum Fv_lone_datum.kp
  have GDa : ∀ B2 : Heap, FnOk P w K mg B2 (L2.CX P w) 9 _ fdv_data_in ["text"] (spDataE K (He.ga K "BadText") (He.ga K "Pair")) := fun B2 => ok_dataE Fv_data_in (GBa B2) bv_read_by (He.glo_ok X G (c.t.d.fact 12 (f := .glo "read_by") rfl)) Fv_read_by.kp (He.glo_ok X G (c.t.d.fact 13 (f := .glo "all_data") rfl))
  have GDm : ∀ B2 : Heap, FnOk P w K mg B2 (L2.CX P w) 9 _ fdv_datum_in ["text"] (spDatumE K (He.ga K "BadText") (He.ga K "Pair")) := fun B2 => ok_datumE Fv_datum_in (GBl B2) bv_read_by (He.glo_ok X G (c.t.d.fact 12 (f := .glo "read_by") rfl)) Fv_read_by.kp (He.glo_ok X G (c.t.d.fact 14 (f := .glo "lone_datum") rfl))
  have GTx : ∀ B2 : Heap, FnOk P w K mg B2 CX0 5 _ fdv_datum_text ["datum"] (spText (He.ga K "Pair")) := fun B2 => ok_text Fv_datum_text Pr Fv_number_text (He.glo_ok X G (c.t.d.fact 21 (f := .glo "number_text") rfl)) Fv_chunks_of (He.glo_ok X G (c.t.d.fact 22 (f := .glo "chunks_of") rfl)) Fv_single_text (He.glo_ok X G (c.t.d.fact 20 (f := .glo "single_text") rfl)) Fv_text_behind (He.glo_ok X G (c.t.d.fact 19 (f := .glo "text_behind") rfl)) Fv_text_within (He.glo_ok X G (c.t.d.fact 18 (f := .glo "text_within") rfl))
  have GRd : ∀ B2 : Heap, FnOk P w K mg B2 (L2.CX P w) 10 _ fdv_read ["text"] (spReadE K (He.ga K "BadText")) := fun B2 => ok_readE Fv_read (He.free_ok X G (c.t.d.fact 50 (f := .free "tuple") rfl)) (He.glo_ok X G (c.t.d.fact 10 (f := .glo "data_in") rfl)) Fv_data_in.kp (GDa B2) bv_data_in (He.glo_ok X G (c.t.d.fact 17 (f := .glo "datum_text") rfl)) Fv_datum_text.kp (GTx B2) bv_datum_text
  have GPr : ∀ B2 : Heap, FnOk P w K mg B2 (L2.CX P w) 10 _ fdv_printed ["text"] (spPrintedE K (He.ga K "BadText")) := fun B2 => ok_printedE Fv_printed (He.glo_ok X G (c.t.d.fact 11 (f := .glo "datum_in") rfl)) Fv_datum_in.kp (GDm B2) bv_datum_in (He.glo_ok X G (c.t.d.fact 17 (f := .glo "datum_text") rfl)) Fv_datum_text.kp (GTx B2) bv_datum_text
  have xv : XvC K (He.ga K "BadText") := ⟨⟨(of_decide_eq_true (exAt c 16 rfl)), (of_decide_eq_true (exAt c 17 rfl)), (of_decide_eq_true (exAt c 2 rfl)), exAt c 18 rfl, (of_decide_eq_true (exAt c 19 rfl)), (of_decide_eq_true (exAt c 9 rfl)), (of_decide_eq_true (exAt c 10 rfl)), (of_decide_eq_true (exAt c 20 rfl))⟩, ⟨(of_decide_eq_true (exAt c 16 rfl)), (of_decide_eq_true (exAt c 17 rfl)), (of_decide_eq_true (exAt c 2 rfl)), exAt c 18 rfl⟩⟩
  have L : LT K mg (He.ga K "BadText") (He.ga K "KeptError") := ⟨xv, (of_decide_eq_true (exAt c 5 rfl)), (He.glo_ok X G (c.t.d.fact 34 (f := .glo "BadText") rfl)), (He.glo_ok X G (c.t.d.fact 33 (f := .glo "KeptError") rfl)), (He.free_ok X G (c.t.d.fact 48 (f := .free "isinstance") rfl)), (He.free_ok X G (c.t.d.fact 51 (f := .free "repr") rfl)), (of_decide_eq_true (exAt c 21 rfl)), (of_decide_eq_true (exAt c 22 rfl)), (of_decide_eq_true (exAt c 23 rfl)), (of_decide_eq_true (exAt c 24 rfl)), (He.free_ok X G (c.t.d.fact 55 (f := .free "ValueError") rfl))⟩
  have RR : RightT K mg (He.ga K "BadText") (He.ga K "KeptError") (He.ga K "_law_is_refused") (He.ga K "_law_odd") (He.ga K "_law_of") (He.ga K "_law_caught") (He.ga K "read") (He.ga K "printed") := ⟨L, B, (He.glo_ok X G (c.t.d.fact 28 (f := .glo "_law_is_refused") rfl)), (He.glo_ok X G (c.t.d.fact 29 (f := .glo "_law_odd") rfl)), (He.glo_ok X G (c.t.d.fact 25 (f := .glo "_law_of") rfl)), (He.glo_ok X G (c.t.d.fact 27 (f := .glo "_law_caught") rfl)), (He.glo_ok X G (c.t.d.fact 15 (f := .glo "read") rfl)), (He.glo_ok X G (c.t.d.fact 16 (f := .glo "printed") rfl)), Fv_L_is_refused.kp, Fv_L_odd.kp, Fv_L_of.kp, Fv_L_caught.kp, Fv_read.kp, Fv_printed.kp⟩
  have GCa : ∀ B2 : Heap, FnG P w K mg B2 CX0 12 _ fdv_L_caught ["call"] (spCaught P w K mg (He.ga K "KeptError") B2) := fun B2 => FnG.of (ok_caught Fv_L_caught L.gK)
  have GRf : ∀ B2 : Heap, FnG P w K mg B2 CX0 13 _ fdv_L_is_refused ["call", "word", "value"] (spRefused P w K mg (He.ga K "BadText") B2) := fun B2 => ok_refused Fv_L_is_refused L Fv_L_caught Fv_L_word (He.glo_ok X G (c.t.d.fact 27 (f := .glo "_law_caught") rfl)) (He.glo_ok X G (c.t.d.fact 30 (f := .glo "_law_word") rfl))
  have wRd : ∀ (s : Shared) (u : Value), K.In s.heap → BindsTo s fdv_read ⟨[], [(("text" : Str), u)]⟩ [(("text" : Str), u)] := fun s u _ => bindsKw Fv_read s u
  have wPr : ∀ (s : Shared) (u : Value), K.In s.heap → BindsTo s fdv_printed ⟨[], [(("text" : Str), u)]⟩ [(("text" : Str), u)] := fun s u _ => bindsKw2 Fv_printed s u
  have bLa := FunD.bindsA (ps := ["script"]) Fv_law fun _ _ _ _ _ _ us hl => match us, hl with | [_], _ => rfl
  refine ⟨fdv_law, fun s u => bLa s [u] rfl, fun base inB nsB TB => ?_⟩
  have GRi : FnG P w K mg base CX0 14 (He.ga K "_law_right") fdv_L_right ["pot"] (spRight (He.cT K rightAt).2) := by
    obtain ⟨oc, od, dV, kV, doc, pm, an, cdv, ct, osl, rfl, lk, hcd, _, _⟩ := Fv_L_right.ex
    obtain ⟨cc, rfl⟩ := He.codeIn_ref hcd
    have ec : (He.cT K rightAt).1 = cc := He.codeOf_eq (p := rightAt) lk rfl
    rw [ec] at TB
    exact ok_right lk hcd TB RR GRf (ok_lawodd Fv_L_odd B Fv_L_of Fv_L_take (He.glo_ok X G (c.t.d.fact 25 (f := .glo "_law_of") rfl)) (He.glo_ok X G (c.t.d.fact 24 (f := .glo "_law_take") rfl))) (ok_lawof Fv_L_of B Fv_L_take (He.glo_ok X G (c.t.d.fact 24 (f := .glo "_law_take") rfl))) GCa (GRd base) (GPr base) bv_L_is_refused bv_L_odd bv_L_of bv_L_caught bv_read bv_printed wRd wPr
  exact ok_law Fv_law B (ok_lawpot Fv_L_pot B) (ok_cells Fv_L_cells B) GRi bv_L_pot bv_L_cells bv_L_right (He.glo_ok X G (c.t.d.fact 23 (f := .glo "_law_pot") rfl)) (He.glo_ok X G (c.t.d.fact 26 (f := .glo "_law_cells") rfl)) (He.glo_ok X G (c.t.d.fact 31 (f := .glo "_law_right") rfl)) Fv_L_pot.kp Fv_L_cells.kp Fv_L_right.kp
end
end Kg
set_option maxHeartbeats 0
open PySem PySem.W PySem.Calls PyProof.Rows
theorem PySem.Challenge.cw_keptagain_k05_what_reading_refuses_holds : PySem.Challenge.rw_keptagain_k05_what_reading_refuses.Holds := by
  w_on; o_law
  refine HandSHeadRun.head_any (r := Kg.RWK) (q := view Kg.RWK.prog [62]) (H := Kg.hk) (ob := Kg.obK) (M := 6000) (loose := Kg.looseL) (d := HandSHeadRun.topDef Kg.RWK.prog 62) (kwd := []) Kg.obK_eq
    (by kernel_rfl) (fun s => by kernel_rfl) Kg.runK (by kernel_rfl) (by kernel_rfl) (by kernel_rfl) (by rfl) (by first | assumption | decide +kernel) (by decide +kernel) ⟨rfl, rfl, rfl, rfl, rfl, by decide +kernel⟩ ?hw ?hc
  case hw => w_witness2
  case hc =>
    refine Att.attach_callB (l := PySem.Challenge.rw_keptagain_k05_what_reading_refuses) (n := 63) rfl (by kernel_rfl) fun w s₀ u₀ mg mb fa o pm cd doc a its ns G Y ho hd hcd hmg0 lst allInt short hbits noGen => ?_
    obtain ⟨K, inK, c⟩ := Y
    have hmg : mg ("law" : PySem.Str) = some (.ref fa) := by
      have e : (HandSHeadRun.topDef Kg.RWK.prog 62).name = ("law" : PySem.Str) := by kernel_rfl
      rw [← e]
      exact hmg0
    obtain ⟨fd, bound, F⟩ := Kg.kept (P := PySem.Challenge.rw_keptagain_k05_what_reading_refuses.prog) (w := w) inK G.T.g hmg c
    have few : ns.length ≤ 100 := Nat.le_trans short (by decide)
    have at0 := List.mem_singleton.mpr (rfl : Kg.rightAt = Kg.rightAt)
    exact Kg.law_atG (k := 15) inK G.T.g G.T.b G.T.builtins G.T.nolimit noGen (c.empty _ at0) (c.out _ at0) (codeHd_of_K inK (c.hd _ at0)) G.T.bmain lst allInt (Nat.le_trans few (by decide)) ⟨rfl, by decide, by decide⟩ F bound
      fun H tab seq => ⟨a, ns, rfl, seq, few, fun p hp => by rw [List.mem_singleton.mp hp]; exact LamX.TabS.nil tab, fun _ => rfl⟩
