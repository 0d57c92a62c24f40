import PyProof.Rows.All
import Wide.All
import OpenK.AllK
import Wide.FinOn
import KE.KStateDown
import HandS.ForMost
import HandS.StrMore
import HandS.Walk
import HandS.Defaults
import HandS.IsInst
import KE.GoesEnumKw
import HandS.Exc
import HandS.ExcInit
import HandS.WordsExc
import HandS.ForExc
import HandS.Lambda
import KE.KExcIs
import PyProof.ReprRoads
import HandS.ExcIs
import HandS.ExcField
import HandS.Conv
import HandS.Dict
import HandS.Text
import HandS.Ends
import HandS.More
import HandS.Words
import HandS.Head0
import HandS.Head1
import HandS.Head2
import HandS.HeadEnd
import HandS.HeadHook1
import HandS.HeadHook2
import HandS.HeadHook3
import HandS.HeadHook4
import HandS.EndBits
import HandS.EndTab
import HandS.HeadWalk
import PySem.Challenge.RW_keptagain_k05_what_reading_refuses
set_option Elab.async false
set_option linter.all false
set_option maxRecDepth 100000
set_option maxHeartbeats 4000000
namespace Kg
open PySem PySem.Spec PyProof.Rows L2
def top (i : Nat) : Stmt := PySem.Challenge.pw_keptagain_k05_what_reading_refuses.main.body.getD i (.Pass ⟨0, 0, 0, 0⟩)
abbrev FnP (K : PySem.W.Frag) (x q : Str) (st : Stmt) (f : Addr) (fd : FuncData) : Prop := FunD K x q (defArgs st) (defBody st) (defScope st) [] [] f fd
abbrev sHas : Stmt := top 28
abbrev sIsInt : Stmt := top 26
abbrev sIsName : Stmt := top 27
abbrev sWordEnd : Stmt := top 25
section
variable {X : Cx} {x z : Str} {i : Int} {t : Tok} {pos : Pos}
/-- a text, a number of the module -/
theorem pgS (hm : X.mg x = some (.str z t)) (hg : Gl X x := by rfl) (hd : (x == ("__debug__" : Str)) = false := by decide) : PE X (.Name x pos) (tC (.str z)) := pe_glob (v := .str z) hg hm ⟨t, rfl⟩ hd
theorem pgI (hm : X.mg x = some (.int i t)) (hg : Gl X x := by rfl) (hd : (x == ("__debug__" : Str)) = false := by decide) : PE X (.Name x pos) (tC (.int i)) := pe_glob (v := .int i) hg hm ⟨t, rfl⟩ hd
end
theorem ifD {p : Prop} [Decidable p] {A B : Prop} (h1 : p → A) (h2 : ¬ p → B) : if decide p = true then A else B := by
  by_cases h : p
  · rw [decide_eq_true h, if_pos rfl]
    exact h1 h
  · rw [decide_eq_false h, if_neg Bool.false_ne_true]
    exact h2 h
theorem ifS {x y : Str} {A B : Prop} (h1 : x = y → A) (h2 : ¬ x = y → B) : if decide (V.str x = V.str y) = true then A else B :=
  ifD (fun h => h1 (V.str.inj h)) (fun h => h2 fun q => h (congrArg V.str q))
theorem ifN {p : Prop} [Decidable p] {A B : Prop} (h1 : ¬ p → A) (h2 : p → B) : if (!decide p) = true then A else B := by
  by_cases h : p
  · rw [decide_eq_true h, if_neg (by decide)]
    exact h2 h
  · rw [decide_eq_false h, if_pos (by decide)]
    exact h1 h
theorem ifB {b : Bool} {A B : Prop} (h1 : b = true → A) (h2 : b = false → B) : if b = true then A else B := by
  cases b with
  | true => rw [if_pos rfl]; exact h1 rfl
  | false => rw [if_neg Bool.false_ne_true]; exact h2 rfl
theorem yesI {σ : L2.St} {H : Hp} {A B : Hp → Prop} (h : A H) : tYes σ H (fun b H3 => if b = true then A H3 else B H3) := (if_pos rfl : (if (true : Bool) = true then A H else B H) = A H).mpr h
/-- every sign of w is one of s's -/
def subset (w s : Str) : Bool := w.cps.toList.all fun c => decide (c ∈ s.cps.toList)
def hasOnly (w s : Str) : Bool := !decide (w = ("" : Str)) && subset w s
def spHas : Sp := fun vs H Q _ => ∃ w s : Str, vs = [.str w, .str s] ∧ w.length ≤ 1000000 ∧ ∀ H', Same H H' → Q (.bl (hasOnly w s)) H'
section
variable {P : Program} {w : World} {K : PySem.W.Frag} {mg : Str → Option Value} {base : Heap} {f : Addr} {fd : FuncData}
theorem scHas : FnScope ["word", "signs", "sign"] ["word", "signs"] (defScope sHas) := ⟨rfl, rfl, rfl, by decide +kernel, rfl, by decide +kernel, by decide +kernel⟩
theorem ok_has (F : FnP K "has_only" "has_only" sHas f fd) (gAll : mg "all" = none) : FnOk P w K mg base CX0 1 f fd ["word", "signs"] spHas := by
  refine F.ok scHas (fun vs H Q E h => ?_) (fun cdv A outer s H vs Q E hr h => ?_)
  · obtain ⟨x, y, rfl, _⟩ := h
    rfl
  · obtain ⟨x, y, rfl, hl, k⟩ := h
    refine ⟨_, PSs.nox (pss_one (ps_ret (pe_and (pe_cmpR op_ne (pv 0) pe_str (nomark _)) (pe_one (pe_callB (cr_all rfl) (by rfl) gAll (by decide +kernel)
      (pa_cons (pe_lc (own := [("sign", 2)]) (g := gName 2) (tt := tYes) rfl scHas.nd (pi_str (pv 0)) (blkOk_by (own := [("sign", 2)]) (N := ["word", "signs", "sign"]) (sc := defScope sHas) (by decide +kernel))
        (fun _ _ _ _ _ => pg_name (i := 2) scHas.nd rfl (Or.inl rfl)) (fun _ _ _ _ _ => pts_nil) (fun _ _ _ _ _ => pe_cmpR op_in_sign (pv 2) (pv 1) (by rfl))) pa_nil)))))), ?_⟩
    refine ⟨_, rfl, rfl, _, rfl, ?_⟩
    by_cases hx : x = ("" : Str)
    · have e : (!decide (V.str x = V.str ("" : Str))) = false := by rw [hx, decide_eq_true rfl]; rfl
      have e2 : hasOnly x y = false := by unfold hasOnly; rw [hx, decide_eq_true rfl]; rfl
      show if (!decide (V.str x = V.str ("" : Str))) = true then _ else _
      rw [e]
      refine iteF ?_
      rw [← e2]
      exact k _ (Same.refl _)
    · have e : (!decide (V.str x = V.str ("" : Str))) = true := by rw [decide_eq_false (fun q => hx (V.str.inj q))]; rfl
      show if (!decide (V.str x = V.str ("" : Str))) = true then _ else _
      rw [e]
      refine iteT ?_
      have hz : x.cps.size ≤ 1000000 := hl
      have hz2 : x.cps.toList.length ≤ 1000000 := by rw [Array.length_toList]; exact hz
      refine ⟨_, rfl, x, rfl, fun D nD => lc_it (walk_str (z := x))
        (fun i H' => Same H H' ∧ H' D = some (.lst ((x.cps.toList.take i).map fun c => V.bl (decide (c ∈ y.cps.toList))))) ⟨fun b o q => by rw [upd_ne (ne_of_none q nD)]; exact q, upd_same⟩ (fun _ _ _ _ => True.intro) ?_ ?_⟩
      · rintro i v H1 H2 hi ⟨s1, d1⟩ ⟨rfl, c, hc, rfl⟩
        refine ⟨rfl, ?_⟩
        refine yesI ?_
        refine ⟨_, rfl, _, rfl, c, y, rfl, rfl, _, d1, ?_, fun b o q => ?_, ?_⟩
        · rw [List.length_map, List.length_take]
          exact Nat.lt_of_le_of_lt (Nat.min_le_right _ _) (Nat.lt_of_le_of_lt hz2 (by decide))
        · rw [upd_ne (ne_of_none q nD)]
          exact s1 b o q
        · rw [upd_same, List.take_add_one]
          have hc' : x.cps.toList[i]? = some c := by rw [Array.getElem?_toList]; exact hc
          rw [hc']
          simp
      · rintro H1 ⟨s1, d1⟩
        refine ⟨D, x.cps.toList.map fun c => decide (c ∈ y.cps.toList), rfl, SqL.of ?_, ?_⟩
        · rw [d1]
          have : x.cps.toList.take x.cps.size = x.cps.toList := by rw [← Array.length_toList]; exact List.take_length
          rw [this]
          simp [List.map_map, Function.comp_def]
        · have e3 : (List.all (x.cps.toList.map fun c => decide (c ∈ y.cps.toList)) id) = hasOnly x y := by
            unfold hasOnly subset
            rw [decide_eq_false hx]
            simp
          rw [e3]
          exact k _ s1
end
end Kg
namespace Kg
open PySem PySem.Spec PyProof.Rows L2
def FIG : Str := "0123456789"
def SIGNS : Str := "abcdefghijklmnopqrstuvwxyz0123456789-?!*<=>+/."
def isInt (x : Str) : Bool := decide (x = ("0" : Str)) || (hasOnly (Txt.removeprefix x ("-" : Str)) FIG && !(Txt.startswith (Txt.removeprefix x ("-" : Str)) ("0" : Str)))
def isName (x : Str) : Bool := !(decide ((16 : Int) < x.length) || decide (x = ("." : Str))) && (hasOnly x SIGNS && !(hasOnly x (FIG ++ ("-" : Str))))
def spIsInt : Sp := fun vs H Q _ => ∃ x : Str, vs = [.str x] ∧ x.length ≤ 1000000 ∧ ∀ H', Same H H' → Q (.bl (isInt x)) H'
def spIsName : Sp := fun vs H Q _ => ∃ x : Str, vs = [.str x] ∧ x.length ≤ 1000000 ∧ ∀ H', Same H H' → Q (.bl (isName x)) H'
/-- where the word that begins at a ends, b the place behind the signs -/
def wordGo (l : List Nat) : Nat := (l.takeWhile fun c => decide (c ∈ SIGNS.cps.toList)).length
def wordEnd (x : Str) (a : Nat) : Nat := max (a + wordGo (x.cps.toList.drop a)) (a + 1)
def spWordEnd : Sp := fun vs H Q _ => ∃ (x : Str) (a : Nat), vs = [.str x, .int a] ∧ x.length ≤ 1000000 ∧ a < x.length ∧ Q (.int (wordEnd x a)) H
theorem rp_le (x y : Str) : (Txt.removeprefix x y).length ≤ x.length := by
  unfold Txt.removeprefix Txt.affix
  split
  · split
    · exact Nat.le_refl _
    · exact strSub_length_le _ _ _
  · exact Nat.le_refl _
section
variable {P : Program} {w : World} {K : PySem.W.Frag} {mg : Str → Option Value} {base : Heap} {f fH : Addr} {fd fdH : FuncData}
theorem scIsInt : FnScope ["word", "figures"] ["word"] (defScope sIsInt) := ⟨rfl, rfl, rfl, by decide +kernel, rfl, by decide +kernel, by decide +kernel⟩
theorem ok_isInt (F : FnP K "is_integer" "is_integer" sIsInt f fd) (FH : FnP K "has_only" "has_only" sHas fH fdH) (gH : mg "has_only" = some (.ref fH)) (gAll : mg "all" = none) {t : Tok} (gF : mg "FIGURES" = some (.str FIG t)) :
    FnOk P w K mg base CX0 2 f fd ["word"] spIsInt := by
  have GH : FnOk P w K mg base CX0 1 fH fdH ["word", "signs"] spHas := ok_has FH gAll
  have bH : Binds K fdH ["word", "signs"] [] := FH.bindsN fun _ _ _ _ _ _ us hl => match us, hl with | [_, _], _ => rfl
  refine F.ok scIsInt (fun vs H Q E h => ?_) (fun cdv A outer s H vs Q E hr h => ?_)
  · obtain ⟨x, rfl, _⟩ := h
    rfl
  · obtain ⟨x, rfl, hl, k⟩ := h
    refine ⟨_, PSs.nox (pss_cons (ps_set (i := 1) scIsInt.nd rfl (Or.inl rfl) (pe_m1 PySem.F.slot_str_removeprefix PySem.F.type_str_removeprefix mt_removeprefix (pv 0) pe_str))
      (pss_cons (ps_if (pt_cmpR op_eq (pv 0) pe_str (nomark _)) (pss_one (ps_ret pe_bl)) pss_nil)
      (pss_one (ps_ret (pe_and (pe_call GH hr rfl gH FH.kp bH .nil pass0 (pa_cons (pv 1) (pa_cons (pgS gF) pa_nil)))
        (pe_one (pe_not (pe_m1 PySem.F.slot_str_startswith PySem.F.type_str_startswith mt_startswith (pv 1) pe_str)))))))), ?_⟩
    refine ⟨_, rfl, ⟨_, rfl⟩, _, _, rfl, rfl, Nat.le_trans hl (by decide), _, rfl, rfl, _, rfl, ?_⟩
    by_cases h0 : x = ("0" : Str)
    · have e : decide (V.str x = V.str ("0" : Str)) = true := decide_eq_true (by rw [h0])
      show if decide (V.str x = V.str ("0" : Str)) = true then _ else _
      rw [e]
      refine iteT ?_
      have e2 : isInt x = true := by unfold isInt; rw [decide_eq_true h0]; rfl
      show Q (.bl true) _
      rw [← e2]
      exact k _ (Same.refl _)
    · have e : decide (V.str x = V.str ("0" : Str)) = false := decide_eq_false fun q => h0 (V.str.inj q)
      show if decide (V.str x = V.str ("0" : Str)) = true then _ else _
      rw [e]
      refine iteF ?_
      refine ⟨_, rfl, _, _, rfl, Nat.le_trans (rp_le _ _) hl, fun H' s1 => ⟨_, rfl, ?_⟩⟩
      have e2 : isInt x = (hasOnly (Txt.removeprefix x ("-" : Str)) FIG && !(Txt.startswith (Txt.removeprefix x ("-" : Str)) ("0" : Str))) := by unfold isInt; rw [decide_eq_false h0]; rfl
      cases hh : hasOnly (Txt.removeprefix x ("-" : Str)) FIG with
      | true =>
        refine iteT ⟨_, rfl, ⟨_, rfl⟩, _, _, rfl, rfl, _, rfl, ?_⟩
        rw [hh] at e2
        have e3 : (!(Txt.startswith (Txt.removeprefix x ("-" : Str)) ("0" : Str))) = isInt x := by rw [e2]; rfl
        rw [e3]
        exact k _ s1
      | false =>
        refine iteF ?_
        rw [hh] at e2
        have e3 : false = isInt x := by rw [e2]; rfl
        rw [e3]
        exact k _ s1
theorem scIsName : FnScope ["word"] ["word"] (defScope sIsName) := ⟨rfl, rfl, rfl, by decide +kernel, rfl, by decide +kernel, by decide +kernel⟩
theorem ok_isName (F : FnP K "is_name" "is_name" sIsName f fd) (FH : FnP K "has_only" "has_only" sHas fH fdH) (gH : mg "has_only" = some (.ref fH)) (gAll : mg "all" = none) (gLen : mg "len" = none) {t1 t2 t3 t4 : Tok} (gF : mg "FIGURES" = some (.str FIG t1))
    (gS : mg "WORD_SIGNS" = some (.str SIGNS t2)) (gN : mg "LONGEST_NAME" = some (.int 16 t3)) (gD : mg "DOT" = some (.str "." t4)) :
    FnOk P w K mg base CX0 2 f fd ["word"] spIsName := by
  have GH : FnOk P w K mg base CX0 1 fH fdH ["word", "signs"] spHas := ok_has FH gAll
  have bH : Binds K fdH ["word", "signs"] [] := FH.bindsN fun _ _ _ _ _ _ us hl => match us, hl with | [_, _], _ => rfl
  refine F.ok scIsName (fun vs H Q E h => ?_) (fun cdv A outer s H vs Q E hr h => ?_)
  · obtain ⟨x, rfl, _⟩ := h
    rfl
  · obtain ⟨x, rfl, hl, k⟩ := h
    refine ⟨_, PSs.nox (pss_cons (ps_if (PW.pt (pw_or (pt_cmpR op_gt (pe_callB call_len_str (by rfl) gLen PySem.boot_len (pa_cons (pv 0) pa_nil)) (pgI gN) (nomark _)) (pw_or1 (pt_cmpR op_eq (pv 0) (pgS gD) (nomark _)))))
        (pss_one (ps_ret pe_bl)) pss_nil)
      (pss_one (ps_ret (pe_and (pe_call GH hr rfl gH FH.kp bH .nil pass0 (pa_cons (pv 0) (pa_cons (pgS gS) pa_nil)))
        (pe_one (pe_not (pe_call GH hr rfl gH FH.kp bH .nil pass0 (pa_cons (pv 0) (pa_cons (pe_op op_add_str (pgS gF) pe_str) pa_nil))))))))), ?_⟩
    refine ⟨_, rfl, _, rfl, Nat.le_trans hl (by decide), _, _, rfl, rfl, _, rfl, ?_⟩
    have fin : ∀ b : Bool, b = isName x → ∀ H', Same H H' → Q (.bl b) H' := fun b e H' s1 => by rw [e]; exact k _ s1
    refine ifD (fun h1 => ?_) (fun h1 => ?_)
    · refine iteT (fin _ ?_ _ (Same.refl _))
      unfold isName
      rw [decide_eq_true h1]
      rfl
    refine ⟨_, rfl, rfl, _, rfl, ?_⟩
    refine ifS (fun h2 => ?_) (fun h2 => ?_)
    · refine fin _ ?_ _ (Same.refl _)
      unfold isName
      rw [decide_eq_true h2, Bool.or_true]
      rfl
    have e2 : isName x = (hasOnly x SIGNS && !(hasOnly x (FIG ++ ("-" : Str)))) := by
      unfold isName
      rw [decide_eq_false h1, decide_eq_false h2]
      rfl
    refine ⟨_, rfl, _, _, rfl, hl, fun H' s1 => ⟨_, rfl, ?_⟩⟩
    refine ifB (fun h3 => ?_) (fun h3 => ?_)
    · refine ⟨_, rfl, _, _, rfl, rfl, (by decide +kernel), _, _, rfl, hl, fun H2 s2 => ⟨_, rfl, fin _ ?_ _ (s1.trans s2)⟩⟩
      rw [e2, h3]
      rfl
    · refine fin _ ?_ _ s1
      rw [e2, h3]
      rfl
theorem scWordEnd : FnScope ["code", "at", "end"] ["code", "at"] (defScope sWordEnd) := ⟨rfl, rfl, rfl, by decide +kernel, rfl, by decide +kernel, by decide +kernel⟩
theorem ok_wordEnd (F : FnP K "word_end" "word_end" sWordEnd f fd) (gLen : mg "len" = none) (gMax : mg "max" = none) {t2 : Tok} (gS : mg "WORD_SIGNS" = some (.str SIGNS t2)) :
    FnOk P w K mg base CX0 1 f fd ["code", "at"] spWordEnd := by
  refine F.ok scWordEnd (fun vs H Q E h => ?_) (fun cdv A outer s H vs Q E hr h => ?_)
  · obtain ⟨x, a, rfl, _⟩ := h
    rfl
  · obtain ⟨x, a, rfl, hl, ha, k⟩ := h
    refine ⟨_, PSs.nox (pss_cons (ps_set (i := 2) scWordEnd.nd rfl (Or.inl rfl) (pv 1))
      (pss_cons (ps_while PassesOwn.never (PW.pt (pw_and (pt_cmpR op_lt (pv 2) (pe_callB call_len_str (by rfl) gLen PySem.boot_len (pa_cons (pv 0) pa_nil)) (nomark _)) (pw_and1 (pt_cmpR op_in_sign (pe_item_str (pv 0) (pv 2) (fun _ _ => rfl)) (pgS gS) (by rfl)))))
        (pss_one (ps_aug (i := 2) scWordEnd.nd rfl (Or.inl rfl) pe_int ip_add)))
      (pss_one (ps_ret (pe_callB (call_max2 rfl) (by rfl) gMax (by decide +kernel) (pa_cons (pv 2) (pa_cons (pe_op op_add (pv 1) pe_int) pa_nil))))))), ?_⟩
    refine ⟨_, rfl, ?_⟩
    refine while_by (fun σ H' => ∃ n : Nat, σ = [some (.str x), some (.int a), some (.int n)] ∧ H' = H ∧ a ≤ n ∧ n ≤ x.length ∧ wordGo (x.cps.toList.drop a) = (n - a) + wordGo (x.cps.toList.drop n)) (fun σ _ => match σ with | [_, _, some (.int n)] => x.length - n.toNat | _ => 0) ⟨a, rfl, rfl, Nat.le_refl _, Nat.le_of_lt ha, by simp⟩ ?_ ?_
    · rintro σ H' ⟨n, rfl, rfl, h1, h2, h3⟩
      refine ⟨_, rfl, _, rfl, _, rfl, Nat.le_trans hl (by decide), _, _, rfl, rfl, _, rfl, ?_⟩
      have out : wordGo (x.cps.toList.drop n) = 0 → Q (V.int (if ((a : Int) + 1) > (n : Int) then (a : Int) + 1 else (n : Int))) H' := fun h4 => by
        have e : (if ((a : Int) + 1) > (n : Int) then (a : Int) + 1 else (n : Int)) = ((wordEnd x a : Nat) : Int) := by
          unfold wordEnd
          rw [h3, h4]
          split <;> omega
        rw [e]
        exact k
      refine ifD (fun h4 => ?_) (fun h4 => ?_)
      · have hn : n < x.cps.size := by
          have q : (n : Int) < (x.length : Nat) := h4
          have q2 : x.length = x.cps.size := rfl
          omega
        have hc : x.cps[n]? = some x.cps[n] := by simp [hn]
        have hd : x.cps.toList.drop n = x.cps[n] :: x.cps.toList.drop (n + 1) := by
          have e := List.drop_eq_getElem_cons (l := x.cps.toList) (i := n) (by simpa using hn)
          rw [e]
          simp
        refine ⟨_, rfl, _, rfl, x, (n : Int), x.cps[n], rfl, rfl, by omega, by omega, h4, hc, _, SIGNS, rfl, rfl, _, rfl, ?_⟩
        refine ifD (fun h5 => ?_) (fun h5 => ?_)
        · refine ⟨_, rfl, _, _, rfl, rfl, ⟨n + 1, rfl, rfl, by omega, by have q2 : x.length = x.cps.size := rfl; omega, ?_⟩, ?_⟩
          · rw [h3, hd]
            unfold wordGo
            rw [List.takeWhile_cons, decide_eq_true h5]
            simp
            omega
          · show x.length - ((n : Int) + 1).toNat < x.length - ((n : Int)).toNat
            have q2 : x.length = x.cps.size := rfl
            omega
        · refine ⟨_, rfl, _, rfl, _, _, rfl, rfl, _, _, rfl, out ?_⟩
          rw [hd]
          unfold wordGo
          rw [List.takeWhile_cons, decide_eq_false h5]
          rfl
      · refine iteF ?_
        refine ⟨_, rfl, _, rfl, _, _, rfl, rfl, _, _, rfl, out ?_⟩
        have hn : x.cps.toList.length ≤ n := by
          have q : ¬ (n : Int) < (x.length : Nat) := h4
          have q2 : x.length = x.cps.toList.length := by rw [Array.length_toList]; rfl
          omega
        rw [List.drop_eq_nil_of_le hn]
        rfl
    · intro σ H' Q1 Q2 h12 ⟨v1, e1, v2, e2, v3, e3, hz, i, j, e4, e5, k', e6, h⟩
      refine ⟨v1, e1, v2, e2, v3, e3, hz, i, j, e4, e5, k', e6, ?_⟩
      cases k' with
      | false => exact h12 false H' h
      | true =>
        obtain ⟨v4, e7, v5, e8, z, i2, c, e9, e10, e11, e12, e13, e14, c2, z2, e15, e16, k2, e17, h⟩ := h
        exact ⟨v4, e7, v5, e8, z, i2, c, e9, e10, e11, e12, e13, e14, c2, z2, e15, e16, k2, e17, h12 _ _ h⟩
end
end Kg
namespace Kg
open PySem PySem.Spec PyProof.Rows L2
/-! enumerate(xs, start=k) of a list -/
def ItS (K : PySem.W.Frag) (a : Addr) (k : Int) : It :=
  ⟨fun i H => ∃ (xs : List V) (x : V), SqL K H a xs ∧ xs[i]? = some x,
   fun i H v H' => ∃ T x, v = .ref T ∧ H T = none ∧ H' = upd H T (.tup [.int (k + (i : Nat)), x]) ∧ ∀ xs, SqL K H a xs → xs[i]? = some x,
   fun i H => ∃ xs : List V, SqL K H a xs ∧ xs.length = i⟩
theorem walk_enumS {K : PySem.W.Frag} {a : Addr} {k : Int} {xs : List V} : Walk (ItS K a k) xs.length (fun H => SqL K H a xs) (YPair (fun i => some (.int (k + (i : Nat)))) (fun i => xs[i]?)) := by
  refine ⟨fun i _ hi q => ⟨xs, xs[i], q, by simp [hi]⟩, fun _ q => ⟨xs, q, rfl⟩, fun i H v H' _ q y => ?_⟩
  obtain ⟨T, x, h1, h2, h3, h4⟩ := y
  exact ⟨T, .int (k + (i : Nat)), x, h1, h2, h3, rfl, h4 xs q⟩
theorem turn_enumS {P : Program} {w : World} {K : PySem.W.Frag} {elts : List Expr} {kk : Nat} {tpos : Pos} (a e it : Addr) (k : Int) :
    Turn P w K (.Tuple elts kk tpos) (ItS K a k) [e, it] e (fun i h => (∃ old, IsEnum h e it (k + (i : Nat)) old) ∧ h.IsListIter it a i ∧ e ≠ it ∧ a ≠ it ∧ e ≠ a) where
  mem := by simp
  obj := fun i h st b hb => by
    obtain ⟨⟨old, he⟩, ⟨o, ho, hc, hd⟩, _⟩ := st
    rcases (show b = e ∨ b = it by simpa using hb) with z | z
    · rw [z]
      exact ⟨_, he, fun v q => nomatch q⟩
    · rw [z]
      exact ⟨o, ho, fun v q => by rw [hd] at q; cases q⟩
  keep := fun i h h' st q => by
    obtain ⟨⟨old, he⟩, hi, r⟩ := st
    exact ⟨⟨old, q e (by simp) _ he⟩, hi.at fun o z => q it (by simp) o z, r⟩
  item := by
    intro X hP hw hK hc i pins s σ H E I hf st hg
    subst hP hw hK
    obtain ⟨⟨old, he⟩, hit, hne, hai, hea⟩ := st
    obtain ⟨xs, x, hq, hx⟩ := hg
    obtain ⟨its, rv, p, hz⟩ := I.list hq
    obtain ⟨u, hu, ru⟩ := rv.get hx
    have hel : e < s.heap.objs.size := Heap.lt_size he
    have hil : it < s.heap.objs.size := by obtain ⟨_, q, _⟩ := hit; exact Heap.lt_size q
    have hil2 : i < its.toArray.size := by
      have := (List.getElem?_eq_some_iff.mp hu).1
      simpa using this
    refine wpAny_pyNext_enum_itemC (Draws.list (A := X.A.in1) (I.ok.hd hc) it a hai its.toArray) he ⟨hit, p.isList⟩ hil2 hne (by simp; exact ⟨hne, hea⟩) fun x' h' tk hx' ho hit' hT hsz hk => ?_
    have ex : x' = u := by
      have q : its.toArray[i]? = some u := by simpa using hu
      rw [q] at hx'
      exact (Option.some.inj hx').symm
    subst ex
    refine ⟨_, rfl, wpAny_letOwnedTupleGo_enum (s := { s with heap := h', toks := tk + 1 }) ho fun h'' he' sb => ?_⟩
    have hT2 : h''.get? s.heap.objs.size = some { cls := .type "tuple", data := .seq #[.int (k + (i : Nat)) tk, x'] } := (sb.2 _ (Nat.ne_of_gt hel)).trans hT
    have new : ObjOk X.prog X.w (upd H s.heap.objs.size (.tup [.int (k + (i : Nat)), x])) h'' s.heap.objs.size (.tup [.int (k + (i : Nat)), x]) :=
      ⟨by show 2 ≤ sizeLine; decide, [.int (k + (i : Nat)) tk, x'], .cons ⟨_, rfl⟩ (.cons ru .nil), ⟨_, hT2, rfl, _, rfl⟩⟩
    have I1 : Inv X pins σ (upd H s.heap.objs.size (.tup [.int (k + (i : Nat)), x])) { s with heap := h'', toks := tk + 1 } :=
      I.turnedNew (ch := [e, it]) (fun b ob hb q => by
        have h1 : b ≠ e := fun z => hb (by simp [z])
        have h2 : b ≠ it := fun z => hb (by simp [z])
        exact (sb.2 b h1).trans (hk b ob h1 h2 q)) hf (Nat.le_refl _) new
    refine ⟨.ref s.heap.objs.size, _, I1, rfl, ⟨_, x, rfl, I.hok.fresh (Nat.le_refl _), rfl, fun ys hy => by rw [I.list_inj hy hq]; exact hx⟩, ⟨⟨x', ?_⟩, hit'.1.at fun o q => (sb.2 it (Ne.symm hne)).trans q, hne, hai, hea⟩, fun b hb => ?_⟩
    · have e1 : k + ((i + 1 : Nat) : Int) = k + (i : Nat) + 1 := by omega
      rw [e1]
      exact he'
    · have hb' : b < s.heap.objs.size := by
        rcases (show b = e ∨ b = it by simpa using hb) with z | z
        · rw [z]; exact hel
        · rw [z]; exact hil
      rw [upd_ne (Nat.ne_of_lt hb')]
      exact (hf b hb).1
  done := by
    intro X hP hw hK hc i pins s σ H E I hf st hg
    subst hP hw hK
    obtain ⟨⟨old, he⟩, hit, hne, hai, hea⟩ := st
    obtain ⟨xs, hq, hx⟩ := hg
    obtain ⟨its, rv, p, hz⟩ := I.list hq
    obtain ⟨f0, f1, f2, f3, f4, f5⟩ := hf it (by simp)
    have hl := rv.length
    have hi : i = its.toArray.size := by rw [← hx, hl]; simp
    subst hi
    exact wpAny_pyNext_enum_endD (Draws.list (A := X.A.in1) (I.ok.hd hc) it a hai its.toArray) he ⟨hit, p.isList⟩ fun h' eb => ⟨rfl, I.turned (t' := s.toks) (fun b o hb q => eb b o hb q) f0 f1 f3 f4 f5⟩
  self := fun A i s Q E st h => by
    obtain ⟨⟨_, he⟩, _⟩ := st
    exact wpAny_pyIter_enum he h
def iEnumS (K : PySem.W.Frag) (ta : TA) (tk : TA) : TI := fun σ H R => ta σ H fun vs H1 => tk σ H1 fun zs H2 => ∃ a xs k, vs = [.ref a] ∧ zs = [.int k] ∧ -(2 ^ 63) ≤ k ∧ k < 2 ^ 63 ∧ SqL K H2 a xs ∧ R (ItS K a k) H2
theorem pi_enumS {X : Cx} {e ke : Expr} {ta tk : TA} {p pos tpos kpos : Pos} {elts : List Expr} {kk : Nat} (hg : Gl X "enumerate") (hm : X.mg "enumerate" = none) (ha : PA X [e] ta) (hkw : PK X [⟨some "start", ke, kpos⟩] tk)
    (he : starEach [e] X.env = (false, eval e X.env) :: starEach [] X.env := by rfl) :
    PI X (.Tuple elts kk tpos) (.Call (.Name "enumerate" p) [e] [⟨some "start", ke, kpos⟩] pos) (iEnumS X.K ta tk) := by
  refine ⟨fun pins s σ H R I h => ?_⟩
  refine wpAny_Call_Name_kw (ld_blt I hg hm boot_enumerate ?_)
  refine PySem.W.callWith_of (P := fun h => X.K.In h) (by rw [he]; rfl) (fun h0 _ => ⟨.machine, .inr (.inl rfl), PySem.W.Looks.of_pure rfl⟩) (PyProof.Rows.evalArgs_kw2 (by rfl) (thn (ha.run pos pins s σ H _ I h) fun us s1 ⟨vs, H1, I1, r, q⟩ => ?_) he)
  refine thn (hkw.run pos pins s1 σ H1 _ I1 q) fun ws s2 ⟨zs, H2, I2, rz, q2⟩ => ⟨I2.kIn, ?_⟩
  obtain ⟨a, xs, k, ev, ez, hk0, hk1, hq, q3⟩ := q2
  subst ev ez
  cases r with
  | cons r rr =>
    cases rr
    cases r
    cases rz with
    | cons r2 rr2 =>
      cases rr2
      obtain ⟨t, rfl⟩ := r2
      obtain ⟨its, rv, p', hz⟩ := I2.list hq
      show wpAny _ _ (call (.type "enumerate") [.ref a] [(Str.ofString "start", .int k t)]) _ _ _
      refine enum_begins_start (begins_list a its.toArray) p'.isList hk0 hk1 fun h' he' hit hsz hkk => wpAny_pyIter_enum he' ?_
      have I3 : Inv X pins σ H2 { s2 with heap := h' } := I2.kept (t' := s2.toks) hkk
      have hla : a < s2.heap.objs.size := by obtain ⟨o, q, _⟩ := p'.isList; exact Heap.lt_size q
      refine ⟨s2.heap.objs.size + 1, [s2.heap.objs.size + 1, s2.heap.objs.size], _, _, H2, rfl, I3, turn_enumS a (s2.heap.objs.size + 1) s2.heap.objs.size k, ⟨⟨.none, by simpa using he'⟩, ⟨_, hit, rfl, rfl⟩, Nat.succ_ne_self _, Nat.ne_of_lt hla, Nat.ne_of_gt (Nat.lt_succ_of_lt hla)⟩, fun b hb => ?_, q3⟩
      have hle : s2.heap.objs.size ≤ b := by
        rcases (show b = s2.heap.objs.size + 1 ∨ b = s2.heap.objs.size by simpa using hb) with z | z
        · rw [z]; exact Nat.le_succ _
        · rw [z]; exact Nat.le_refl _
      exact I2.fpOk hle (I2.hok.fresh hle)
end Kg
namespace Kg
open PySem PySem.Spec PyProof.Rows L2
abbrev sLineWords : Stmt := top 24
abbrev sWordsIn : Stmt := top 23
theorem paired_snoc {α β : Type} {R : α → β → Prop} {a : α} {b : β} (r : R a b) : ∀ {l₁ : List α} {l₂ : List β}, Paired R l₁ l₂ → Paired R (l₁ ++ [a]) (l₂ ++ [b])
  | _, _, .nil => .cons r .nil
  | _, _, .cons q t => .cons q (paired_snoc r t)
theorem paired_imp {α β : Type} {R S : α → β → Prop} (h : ∀ a b, R a b → S a b) : ∀ {l₁ : List α} {l₂ : List β}, Paired R l₁ l₂ → Paired S l₁ l₂
  | _, _, .nil => .nil
  | _, _, .cons q t => .cons (h _ _ q) (paired_imp h t)
/-- a word with the number of its first sign, as a tuple -/
def WR (H : Hp) (v : V) (p : Nat × Str) : Prop := ∃ T, v = .ref T ∧ H T = some (.tup [.int (p.1 : Nat), .str p.2])
theorem WR.same {H H' : Hp} (s : Same H H') {v : V} {p : Nat × Str} (r : WR H v p) : WR H' v p := by
  obtain ⟨T, e, h⟩ := r
  exact ⟨T, e, s _ _ h⟩
/-- the words of a line's code from place a on -/
def lwGo (x : Str) : Nat → Nat → List (Nat × Str)
  | 0, _ => []
  | f + 1, a => if a < x.length then (if x.cps[a]? = some 32 then [] else [(a + 1, cutS x (some (a : Nat)) (some (wordEnd x a : Nat)))]) ++ lwGo x f (wordEnd x a) else []
def codeOfLine (x : Str) : Str := (Txt.partition x (";" : Str)).1
def lineWords (x : Str) : List (Nat × Str) := lwGo (codeOfLine x) (codeOfLine x).length 0
def spLine : Sp := fun vs H Q _ => ∃ x : Str, vs = [.str x] ∧ x.length ≤ 1000000 ∧ (codeOfLine x).length ≤ 1000000 ∧ ∀ H' p us, Same H H' → H p = none → H' p = some (.lst us) → Paired (WR H') us (lineWords x) → Q (.ref p) H'
theorem wordEnd_gt (x : Str) (a : Nat) : a < wordEnd x a := by unfold wordEnd; omega
theorem wordEnd_le (x : Str) (a : Nat) (h : a < x.length) : wordEnd x a ≤ x.length := by
  unfold wordEnd wordGo
  have h1 : ((x.cps.toList.drop a).takeWhile fun c => decide (c ∈ SIGNS.cps.toList)).length ≤ (x.cps.toList.drop a).length := (List.takeWhile_sublist _).length_le
  rw [List.length_drop] at h1
  have h3 : x.cps.toList.length = x.length := Array.length_toList
  rw [h3] at h1
  exact Nat.max_le.mpr ⟨by omega, by omega⟩
theorem lwGo_more (x : Str) : ∀ (f g a : Nat), x.length - a ≤ f → x.length - a ≤ g → lwGo x f a = lwGo x g a
  | 0, 0, _, _, _ => rfl
  | 0, g + 1, a, h, _ => by
    unfold lwGo
    rw [if_neg (by omega)]
  | f + 1, 0, a, _, h => by
    unfold lwGo
    rw [if_neg (by omega)]
  | f + 1, g + 1, a, h1, h2 => by
    unfold lwGo
    by_cases h : a < x.length
    · rw [if_pos h, if_pos h]
      have := wordEnd_gt x a
      rw [lwGo_more x f g (wordEnd x a) (by omega) (by omega)]
    · rw [if_neg h, if_neg h]
section
variable {P : Program} {w : World} {K : PySem.W.Frag} {mg : Str → Option Value} {base : Heap} {f fE : Addr} {fd fdE : FuncData}
theorem scLine : FnScope ["line", "code", "found", "at", "end"] ["line"] (defScope sLineWords) := ⟨rfl, rfl, rfl, by decide +kernel, rfl, by decide +kernel, by decide +kernel⟩
theorem ok_line (F : FnP K "line_words" "line_words" sLineWords f fd) (FE : FnP K "word_end" "word_end" sWordEnd fE fdE) (gE : mg "word_end" = some (.ref fE)) (gLen : mg "len" = none) (gMax : mg "max" = none) {t2 : Tok} (gS : mg "WORD_SIGNS" = some (.str SIGNS t2)) :
    FnOk P w K mg base CX0 2 f fd ["line"] spLine := by
  have GE : FnOk P w K mg base CX0 1 fE fdE ["code", "at"] spWordEnd := ok_wordEnd FE gLen gMax gS
  have bE : Binds K fdE ["code", "at"] [] := FE.bindsN fun _ _ _ _ _ _ us hl => match us, hl with | [_, _], _ => rfl
  refine F.ok scLine (fun vs H Q E h => ?_) (fun cdv A outer s H vs Q E hr h => ?_)
  · obtain ⟨x, rfl, _⟩ := h
    rfl
  · obtain ⟨x, rfl, hl, hl2, k⟩ := h
    refine ⟨_, PSs.nox (pss_cons (ps_set (i := 1) scLine.nd rfl (Or.inl rfl) (pe_ix ix_tup (pe_partition (pv 0) pe_str) pe_int (fun _ _ => rfl)))
      (pss_cons (ps_set (i := 2) scLine.nd rfl (Or.inl rfl) (pe_lst pa_nil))
      (pss_cons (ps_set (i := 3) scLine.nd rfl (Or.inl rfl) pe_int)
      (pss_cons (ps_while PassesOwn.never (pt_cmpR op_lt (pv 3) (pe_callB call_len_str (by rfl) gLen PySem.boot_len (pa_cons (pv 1) pa_nil)) (nomark _))
        (pss_cons (ps_set (i := 4) scLine.nd rfl (Or.inl rfl) (pe_call GE hr rfl gE FE.kp bE .nil pass0 (pa_cons (pv 1) (pa_cons (pv 3) pa_nil))))
        (pss_cons (ps_if (pt_cmpR op_ne (pe_item_str (pv 1) (pv 3) (fun _ _ => rfl)) pe_str (nomark _))
          (pss_one (ps_expr (pe_bm PySem.F.plainAttrs_list PySem.F.slot_list_append PySem.F.type_list_append mt_append (pv 2) (pa_cons (pe_tup (pa_cons (pe_op op_add (pv 3) pe_int) (pa_cons (pe_slice sl_str (pv 1) (po_some (pv 3)) (po_some (pv 4))) pa_nil))) pa_nil)))) pss_nil)
        (pss_one (ps_set (i := 3) scLine.nd rfl (Or.inl rfl) (pv 4))))))
      (pss_one (ps_ret (pv 2))))))), ?_⟩
    refine ⟨_, rfl, ⟨_, rfl⟩, _, _, rfl, rfl, (by decide +kernel), Nat.le_trans hl (by decide), fun p np => ?_⟩
    refine ⟨p, _, (0 : Int), .str (codeOfLine x), rfl, rfl, SqT.of upd_same, atI_nat (j := 0) rfl, ?_⟩
    refine ⟨Nat.zero_le _, fun l nl => ?_⟩
    have nHl : H l = none := by
      cases q : H l with
      | none => rfl
      | some o =>
        have z : l ≠ p := ne_of_none q np
        rw [upd_ne z, q] at nl
        cases nl
    have s0 : Same H (upd (upd H p (.tup [.str (Txt.partition x (";" : Str)).1, .str (Txt.partition x (";" : Str)).2.1, .str (Txt.partition x (";" : Str)).2.2])) l (.lst [])) := fun b o q => by
      rw [upd_ne (ne_of_none q nHl), upd_ne (ne_of_none q np)]
      exact q
    refine while_by (fun σ H' => ∃ (n : Nat) (us : List V) (done : List (Nat × Str)) (v : Option V), σ = [some (.str x), some (.str (codeOfLine x)), some (.ref l), some (.int n), v] ∧ Same H H' ∧ H' l = some (.lst us) ∧ Paired (WR H') us done ∧
      done ++ lwGo (codeOfLine x) ((codeOfLine x).length - n) n = lineWords x ∧ us.length ≤ n ∧ n ≤ (codeOfLine x).length) (fun σ _ => match σ with | [_, _, _, some (.int n), _] => (codeOfLine x).length - n.toNat | _ => 0)
      ⟨0, [], [], none, rfl, s0, upd_same, .nil, rfl, Nat.le_refl _, Nat.zero_le _⟩ ?_ ?_
    · rintro σ H' ⟨n, us, done, v, rfl, s1, hL, hP, hD, hn, hn2⟩
      refine ⟨_, rfl, _, rfl, _, rfl, Nat.le_trans hl2 (by decide), _, _, rfl, rfl, _, rfl, ?_⟩
      refine ifD (fun h4 => ?_) (fun h4 => ?_)
      · have h4' : n < (codeOfLine x).length := by omega
        have hc : (codeOfLine x).cps[n]? = some ((codeOfLine x).cps[n]'h4') := Array.getElem?_eq_getElem h4'
        generalize hcc : (codeOfLine x).cps[n]'h4' = c at hc
        have hw1 := wordEnd_gt (codeOfLine x) n
        have hw2 := wordEnd_le (codeOfLine x) n h4'
        have step : lwGo (codeOfLine x) ((codeOfLine x).length - n) n = (if c = 32 then [] else [(n + 1, cutS (codeOfLine x) (some (n : Nat)) (some (wordEnd (codeOfLine x) n : Nat)))]) ++ lwGo (codeOfLine x) ((codeOfLine x).length - wordEnd (codeOfLine x) n) (wordEnd (codeOfLine x) n) := by
          have e : (codeOfLine x).length - n = ((codeOfLine x).length - n - 1) + 1 := by omega
          rw [e]
          conv => lhs; unfold lwGo
          rw [if_pos h4', hc, lwGo_more (codeOfLine x) ((codeOfLine x).length - n - 1) ((codeOfLine x).length - wordEnd (codeOfLine x) n) _ (by omega) (by omega)]
          congr 1
          by_cases h : c = 32
          · rw [if_pos h, if_pos (by rw [h])]
          · rw [if_neg h, if_neg (fun q => h (Option.some.inj q))]
        have back : ∀ (H2 : Hp) (us' : List V) (done' : List (Nat × Str)), Same H H2 → H2 l = some (.lst us') → Paired (WR H2) us' done' → done' ++ lwGo (codeOfLine x) ((codeOfLine x).length - wordEnd (codeOfLine x) n) (wordEnd (codeOfLine x) n) = lineWords x → us'.length ≤ n + 1 →
            (∃ (n2 : Nat) (us2 : List V) (done2 : List (Nat × Str)) (v2 : Option V), ([some (.str x), some (.str (codeOfLine x)), some (.ref l), some (.int (wordEnd (codeOfLine x) n : Nat)), some (.int (wordEnd (codeOfLine x) n : Nat))] : L2.St) = [some (.str x), some (.str (codeOfLine x)), some (.ref l), some (.int n2), v2] ∧ Same H H2 ∧ H2 l = some (.lst us2) ∧ Paired (WR H2) us2 done2 ∧
              done2 ++ lwGo (codeOfLine x) ((codeOfLine x).length - n2) n2 = lineWords x ∧ us2.length ≤ n2 ∧ n2 ≤ (codeOfLine x).length) ∧ (codeOfLine x).length - ((wordEnd (codeOfLine x) n : Nat) : Int).toNat < (codeOfLine x).length - ((n : Nat) : Int).toNat := by
          intro H2 us' done' a1 a2 a3 a4 a5
          exact ⟨⟨_, us', done', _, rfl, a1, a2, a3, a4, by omega, hw2⟩, by omega⟩
        refine ⟨_, rfl, _, rfl, codeOfLine x, n, rfl, hl2, h4', ?_⟩
        refine ⟨_, rfl, _, rfl, codeOfLine x, n, c, rfl, rfl, by omega, by omega, by exact_mod_cast h4', hc, rfl, _, rfl, ?_⟩
        refine ifN (fun h5 => ?_) (fun h5 => ?_)
        · have h6 : ¬ c = 32 := fun q => h5 (by rw [q]; rfl)
          refine ⟨_, rfl, .inl ⟨rfl, _, SqL.of hL⟩, _, rfl, _, _, rfl, rfl, _, rfl, _, rfl, _, rfl, _, rfl, _, rfl, _, rfl, Nat.le_trans hl2 (by decide), (by show 2 ≤ sizeLine; decide), fun T nT => ?_⟩
          have nTl : l ≠ T := ne_of_none hL nT
          refine ⟨l, us, _, rfl, rfl, by rw [upd_ne nTl]; exact hL, Nat.lt_of_le_of_lt hn (Nat.lt_of_le_of_lt (Nat.le_trans hn2 hl2) (by decide)), _, rfl, ?_⟩
          have s2 : ∀ b o, b ≠ l → H' b = some o → upd (upd H' T (.tup [.int ((n : Nat) + 1), .str (cutS (codeOfLine x) (some (n : Nat)) (some (wordEnd (codeOfLine x) n : Nat)))])) l (.lst (us ++ [.ref T])) b = some o := fun b o hb q => by
            rw [upd_ne hb, upd_ne (ne_of_none q nT)]
            exact q
          have hP2 : Paired (WR (upd (upd H' T (.tup [.int ((n : Nat) + 1), .str (cutS (codeOfLine x) (some (n : Nat)) (some (wordEnd (codeOfLine x) n : Nat)))])) l (.lst (us ++ [.ref T])))) us done := paired_imp (fun a b r => by
            obtain ⟨T2, e2, h2⟩ := r
            exact ⟨T2, e2, s2 _ _ (ne_of h2 hL (fun z => by cases z)) h2⟩) hP
          refine back _ _ (done ++ [(n + 1, cutS (codeOfLine x) (some (n : Nat)) (some (wordEnd (codeOfLine x) n : Nat)))]) (fun b o q => s2 b o (ne_of_none q nHl) (s1 b o q)) upd_same (paired_snoc ⟨T, rfl, by rw [upd_ne (Ne.symm nTl), upd_same]; rfl⟩ hP2) ?_ ?_
          · rw [step, if_neg h6] at hD
            rw [← hD]
            simp
          · simp
            omega
        · have h6 : c = 32 := by
            have q := V.str.inj h5
            have q2 : (#[c] : Array Nat) = #[32] := congrArg Str.cps q
            simpa using q2
          refine ⟨_, rfl, ?_⟩
          rw [step, if_pos h6] at hD
          exact back _ us done s1 hL hP (by simpa using hD) (by omega)
      · have h4' : (codeOfLine x).length ≤ n := by omega
        refine ⟨_, rfl, k _ l us s1 nHl hL ?_⟩
        have e : lwGo (codeOfLine x) ((codeOfLine x).length - n) n = [] := by
          rw [Nat.sub_eq_zero_of_le h4']
          rfl
        rw [e, List.append_nil] at hD
        rw [← hD]
        exact hP
    · intro σ H' Q1 Q2 h12 ⟨v1, e1, v2, e2, v3, e3, hz, i, j, e4, e5, k', e6, h⟩
      exact ⟨v1, e1, v2, e2, v3, e3, hz, i, j, e4, e5, k', e6, h12 _ _ h⟩
end
end Kg
namespace Kg
open PySem PySem.Spec PyProof.Rows L2
def wordsGo : Nat → List Str → List (Str × Nat × Nat)
  | _, [] => []
  | n, l :: ls => (lineWords l).map (fun p => (p.2, n, p.1)) ++ wordsGo (n + 1) ls
def linesOf (x : Str) : List Str := Txt.split x ("\n" : Str)
def textWords (x : Str) : List (Str × Nat × Nat) := wordsGo 1 (linesOf x)
def textEnd (x : Str) : Nat × Nat := ((linesOf x).length, ((linesOf x).getLastD ("" : Str)).length + 1)
/-- a text of a usual size -/
structure Fits (x : Str) : Prop where
  len : x.length ≤ 1000000
  ne : linesOf x ≠ []
  many : (linesOf x).length ≤ 1000000
  line : ∀ l ∈ linesOf x, l.length ≤ 1000000 ∧ (codeOfLine l).length ≤ 1000000
  word : (textWords x).length ≤ 1000000
/-- a word with its place, as tuples -/
def PR (H : Hp) (v : V) (p : Str × Nat × Nat) : Prop := ∃ T T2, v = .ref T ∧ H T = some (.tup [.str p.1, .ref T2]) ∧ H T2 = some (.tup [.int (p.2.1 : Nat), .int (p.2.2 : Nat)])
theorem PR.same {H H' : Hp} (s : Same H H') {v : V} {p : Str × Nat × Nat} (r : PR H v p) : PR H' v p := by
  obtain ⟨T, T2, e, h1, h2⟩ := r
  exact ⟨T, T2, e, s _ _ h1, s _ _ h2⟩
/-- the tuple of the words and the end -/
def WordsR (H : Hp) (a : Addr) (x : Str) : Prop := ∃ l T us, H a = some (.tup [.ref l, .ref T]) ∧ H l = some (.lst us) ∧ Paired (PR H) us (textWords x) ∧ H T = some (.tup [.int ((textEnd x).1 : Nat), .int ((textEnd x).2 : Nat)])
def spWords : Sp := fun vs H Q _ => ∃ x : Str, vs = [.str x] ∧ Fits x ∧ ∀ H' a, Same H H' → WordsR H' a x → Q (.ref a) H'
theorem free_of {H : Hp} {a l : Addr} {o : HO} (nl : upd H a o l = none) : H l = none := by
  by_cases z : l = a
  · rw [z, upd_same] at nl
    cases nl
  · rw [upd_ne z] at nl
    exact nl
theorem same_upd {H : Hp} {a : Addr} {o : HO} (n : H a = none) : Same H (upd H a o) := fun b u q => by
  rw [upd_ne (ne_of_none q n)]
  exact q
theorem paired_get {α β : Type} {R : α → β → Prop} : ∀ {l₁ : List α} {l₂ : List β} {i : Nat} {a : α}, Paired R l₁ l₂ → l₁[i]? = some a → ∃ b, l₂[i]? = some b ∧ R a b
  | _, _, i, a, .nil, e => by simp at e
  | _, _, 0, a, .cons r _, e => by simp at e; subst e; exact ⟨_, rfl, r⟩
  | _, _, i + 1, a, .cons _ t, e => by
    obtain ⟨b, h1, h2⟩ := paired_get (i := i) (a := a) t (by simpa using e)
    exact ⟨b, by simpa using h1, h2⟩
theorem lastD_eq {α : Type} {l : List α} {d : α} (h : l ≠ []) : l.getLastD d = l.getLast h := by
  cases l with
  | nil => exact absurd rfl h
  | cons a t => rfl
theorem take_more {α : Type} {l : List α} {i : Nat} {a : α} (h : l[i]? = some a) : l.take (i + 1) = l.take i ++ [a] := by
  rw [List.take_add_one, h]
  rfl
section
variable {P : Program} {w : World} {K : PySem.W.Frag} {mg : Str → Option Value} {base : Heap} {f fE fL : Addr} {fd fdE fdL : FuncData}
theorem scWords : FnScope ["text", "lines", "found", "number", "line", "column", "word"] ["text"] (defScope sWordsIn) := ⟨rfl, rfl, rfl, by decide +kernel, rfl, by decide +kernel, by decide +kernel⟩
theorem ok_words (F : FnP K "words_in" "words_in" sWordsIn f fd) (FL : FnP K "line_words" "line_words" sLineWords fL fdL) (FE : FnP K "word_end" "word_end" sWordEnd fE fdE) (gL : mg "line_words" = some (.ref fL)) (gE : mg "word_end" = some (.ref fE)) (gLen : mg "len" = none) (gMax : mg "max" = none) (gEn : mg "enumerate" = none) {t2 : Tok} (gS : mg "WORD_SIGNS" = some (.str SIGNS t2)) :
    FnOk P w K mg base CX0 3 f fd ["text"] spWords := by
  have GL : FnOk P w K mg base CX0 2 fL fdL ["line"] spLine := ok_line FL FE gE gLen gMax gS
  have bL : Binds K fdL ["line"] [] := FL.bindsN fun _ _ _ _ _ _ us hl => match us, hl with | [_], _ => rfl
  refine F.ok scWords (fun vs H Q E h => ?_) (fun cdv A outer s H vs Q E hr h => ?_)
  · obtain ⟨x, rfl, _⟩ := h
    rfl
  · obtain ⟨x, rfl, fx, k⟩ := h
    refine ⟨_, PSs.nox (pss_cons (ps_set (i := 1) scWords.nd rfl (Or.inl rfl) (pe_split (pv 0) pe_str))
      (pss_cons (ps_set (i := 2) scWords.nd rfl (Or.inl rfl) (pe_lst pa_nil))
      (pss_cons (ps_for PassesOwn.never rfl (pi_enumS rfl gEn (pa_cons (pv 1) pa_nil) (pk_cons pe_int pk_nil)) (pg_tup rfl (pgs_cons (pg_name (i := 3) scWords.nd rfl (Or.inl rfl)) (pgs_cons (pg_name (i := 4) scWords.nd rfl (Or.inl rfl)) pgs_nil)))
        (pss_one (ps_for PassesOwn.never rfl (pi_list (pe_call GL hr rfl gL FL.kp bL .nil pass0 (pa_cons (pv 4) pa_nil))) (pg_tup rfl (pgs_cons (pg_name (i := 5) scWords.nd rfl (Or.inl rfl)) (pgs_cons (pg_name (i := 6) scWords.nd rfl (Or.inl rfl)) pgs_nil)))
          (pss_one (ps_expr (pe_bm PySem.F.plainAttrs_list PySem.F.slot_list_append PySem.F.type_list_append mt_append (pv 2) (pa_cons (pe_tup (pa_cons (pv 6) (pa_cons (pe_tup (pa_cons (pv 3) (pa_cons (pv 5) pa_nil))) pa_nil))) pa_nil)))))))
      (pss_one (ps_ret (pe_tup (pa_cons (pv 2) (pa_cons (pe_tup (pa_cons (pe_callB call_len_seq (by rfl) gLen PySem.boot_len (pa_cons (pv 1) pa_nil)) (pa_cons (pe_op op_add (pe_callB call_len_str (by rfl) gLen PySem.boot_len (pa_cons (pe_ix ix_list (pv 1) (pe_un un_neg pe_int) (fun _ _ => rfl)) pa_nil)) pe_int) pa_nil))) pa_nil)))))))), ?_⟩
    refine ⟨_, rfl, ⟨_, rfl⟩, x, _, rfl, rfl, (by decide +kernel), Nat.le_trans (Nat.add_le_add_right fx.len 2) (by decide), fun ls nls => ?_⟩
    refine ⟨Nat.zero_le _, fun l nl => ?_⟩
    have nHl : H l = none := free_of nl
    have nll : ls ≠ l := fun z => by rw [z, upd_same] at nl; cases nl
    have s0 : Same H (upd (upd H ls (.lst ((linesOf x).map V.str))) l (.lst [])) := (same_upd nls).trans (same_upd nl)
    have hlen : ((linesOf x).map V.str).length = (linesOf x).length := by simp
    refine ⟨_, rfl, ls, (linesOf x).map V.str, 1, rfl, rfl, by decide, by decide, SqL.of (by rw [upd_ne nll]; exact upd_same), for_it (walk_enumS (K := K) (a := ls) (k := 1) (xs := (linesOf x).map V.str))
      (fun i σ H' => ∃ (us : List V) (done : List (Str × Nat × Nat)) (v3 v4 v5 v6 : Option V), σ = [some (.str x), some (.ref ls), some (.ref l), v3, v4, v5, v6] ∧ Same H H' ∧ H' ls = some (.lst ((linesOf x).map V.str)) ∧ H' l = some (.lst us) ∧ Paired (PR H') us done ∧
        done ++ wordsGo (i + 1) ((linesOf x).drop i) = textWords x)
      ⟨[], [], none, none, none, none, rfl, s0, by rw [upd_ne nll]; exact upd_same, upd_same, .nil, rfl⟩ (fun i σ H' _ ⟨_, _, _, _, _, _, _, _, h, _⟩ => SqL.of h) ?_ ?_⟩
    · rintro i v σ H1 H2 hi ⟨us, done, v3, v4, v5, v6, rfl, s1, hls, hL, hP, hD⟩ ⟨T, a, b, rfl, nT, rfl, ea, eb⟩
      cases ea
      replace eb : ((linesOf x).map V.str)[i]? = some b := eb
      rw [List.getElem?_map] at eb
      cases eln : (linesOf x)[i]? with
      | none => rw [eln] at eb; cases eb
      | some ln =>
        rw [eln] at eb
        cases eb
        have hmem : ln ∈ linesOf x := List.mem_of_getElem? eln
        obtain ⟨hf1, hf2⟩ := fx.line ln hmem
        have nlsT : ls ≠ T := ne_of_none hls nT
        have nlT : l ≠ T := ne_of_none hL nT
        have hdrop : (linesOf x).drop i = ln :: (linesOf x).drop (i + 1) := by
          obtain ⟨h1, h2⟩ := List.getElem?_eq_some_iff.mp eln
          rw [List.drop_eq_getElem_cons h1, h2]
        have hD2 : (done ++ (lineWords ln).map (fun p => (p.2, i + 1, p.1))) ++ wordsGo (i + 1 + 1) ((linesOf x).drop (i + 1)) = textWords x := by
          rw [hdrop] at hD
          rw [← hD]
          show _ = done ++ ((lineWords ln).map (fun p => (p.2, i + 1, p.1)) ++ wordsGo (i + 1 + 1) ((linesOf x).drop (i + 1)))
          simp
        refine ⟨T, _, rfl, SqT.of upd_same, rfl, _, _, rfl, _, _, rfl, rfl, ?_⟩
        have sT : Same H1 (upd H1 T (.tup [.int (1 + (i : Nat)), .str ln])) := same_upd nT
        refine ⟨_, rfl, ln, rfl, hf1, hf2, fun H3 q us1 s3 nq hq hP1 => ⟨q, rfl, ⟨_, SqL.of hq⟩, ?_⟩⟩
        have nHq : H1 q = none := sT.free nq
        have nqls : ls ≠ q := ne_of_none hls nHq
        have nql : l ≠ q := ne_of_none hL nHq
        have s13 : Same H1 H3 := sT.trans s3
        refine for_list (K := K) (a := q) (xs := us1) (fun j σ H' => ∃ (us2 : List V) (v5 v6 : Option V), σ = [some (.str x), some (.ref ls), some (.ref l), some (.int (1 + (i : Nat))), some (.str ln), v5, v6] ∧ Same H H' ∧ H' ls = some (.lst ((linesOf x).map V.str)) ∧ H' l = some (.lst us2) ∧
            H' q = some (.lst us1) ∧ Paired (WR H') us1 (lineWords ln) ∧ Paired (PR H') us2 (done ++ ((lineWords ln).take j).map (fun p => (p.2, i + 1, p.1))))
          ⟨us, v5, v6, rfl, s1.trans s13, s13 _ _ hls, s13 _ _ hL, hq, hP1, by simpa using paired_imp (fun a b r => PR.same s13 r) hP⟩ (fun j σ H' _ ⟨_, _, _, _, _, _, _, h, _⟩ => SqL.of h) ?_ ?_
        · rintro j y σ H4 hj ⟨us2, v5, v6, rfl, s4, hls4, hL4, hq4, hP4, hP5⟩
          obtain ⟨p, hp, T2, rfl, hT2⟩ := paired_get hP4 hj
          refine ⟨T2, _, rfl, SqT.of hT2, rfl, _, _, rfl, _, _, rfl, rfl, ?_⟩
          refine ⟨_, rfl, .inl ⟨rfl, _, SqL.of hL4⟩, _, rfl, _, rfl, _, rfl, (by show 2 ≤ sizeLine; decide), fun A2 nA2 => ⟨(by show 2 ≤ sizeLine; decide), fun A1 nA1 => ?_⟩⟩
          have nA1' : H4 A1 = none := free_of nA1
          have n12 : A2 ≠ A1 := fun z => by rw [z, upd_same] at nA1; cases nA1
          have nlA2 : l ≠ A2 := ne_of_none hL4 nA2
          have nlA1 : l ≠ A1 := ne_of_none hL4 nA1'
          have hb : us2.length < sizeLine := by
            have e1 := Paired.length hP5
            have e2 : (done ++ ((lineWords ln).take j).map (fun p => (p.2, i + 1, p.1))).length ≤ (textWords x).length := by
              rw [← hD2]
              simp only [List.length_append, List.length_map, List.length_take]
              omega
            have e3 := fx.word
            exact Nat.lt_of_le_of_lt (by omega : us2.length ≤ 1000000) (by decide)
          refine ⟨l, us2, _, rfl, rfl, by rw [upd_ne nlA1, upd_ne nlA2]; exact hL4, hb, ?_⟩
          have sA : Same H4 (upd (upd H4 A2 (.tup [.int (1 + (i : Nat)), .int (p.1 : Nat)])) A1 (.tup [.str p.2, .ref A2])) := (same_upd nA2).trans (same_upd nA1)
          have sL : ∀ b o, b ≠ l → H4 b = some o → upd (upd (upd H4 A2 (.tup [.int (1 + (i : Nat)), .int (p.1 : Nat)])) A1 (.tup [.str p.2, .ref A2])) l (.lst (us2 ++ [.ref A1])) b = some o := fun b o hb q => by
            rw [upd_ne hb]
            exact sA b o q
          refine ⟨_, _, _, rfl, fun b o q => sL b o (ne_of_none q nHl) (s4 b o q), sL _ _ nll hls4, upd_same, sL _ _ (Ne.symm nql) hq4, paired_imp (fun a b r => ?_) hP4, ?_⟩
          · obtain ⟨T3, e3, h3⟩ := r
            exact ⟨T3, e3, sL _ _ (ne_of h3 hL4 (fun z => by cases z)) h3⟩
          · rw [take_more hp, List.map_append, ← List.append_assoc]
            have hnew : PR (upd (upd (upd H4 A2 (.tup [.int (1 + (i : Nat)), .int (p.1 : Nat)])) A1 (.tup [.str p.2, .ref A2])) l (.lst (us2 ++ [.ref A1]))) (.ref A1) (p.2, i + 1, p.1) := by
              refine ⟨A1, A2, rfl, ?_, ?_⟩
              · rw [upd_ne (Ne.symm nlA1), upd_same]
              · rw [upd_ne (Ne.symm nlA2), upd_ne n12, upd_same]
                have e : (1 + ((i : Nat) : Int)) = (((i + 1 : Nat)) : Int) := by omega
                rw [e]
            refine paired_snoc hnew (paired_imp (fun a b r => ?_) hP5)
            obtain ⟨T3, T4, e3, h3, h4⟩ := r
            exact ⟨T3, T4, e3, sL _ _ (ne_of h3 hL4 (fun z => by cases z)) h3, sL _ _ (ne_of h4 hL4 (fun z => by cases z)) h4⟩
        · rintro σ H4 ⟨us2, v5, v6, rfl, s4, hls4, hL4, hq4, hP4, hP5⟩
          refine ⟨us2, _, _, _, _, _, rfl, s4, hls4, hL4, hP5, ?_⟩
          have e1 := Paired.length hP4
          rw [e1, List.take_length]
          exact hD2
    · rintro σ H1 ⟨us, done, v3, v4, v5, v6, rfl, s1, hls, hL, hP, hD⟩
      rw [hlen, List.drop_length] at hD
      have hD2 : done = textWords x := by simpa [wordsGo] using hD
      have hlast : atI ((linesOf x).map V.str) (-1) = some (.str ((linesOf x).getLastD ("" : Str))) := by
        have e : linesOf x = (linesOf x).dropLast ++ [(linesOf x).getLast fx.ne] := (List.dropLast_concat_getLast fx.ne).symm
        have e2 : (linesOf x).getLastD ("" : Str) = (linesOf x).getLast fx.ne := lastD_eq fx.ne
        rw [e2]
        conv => lhs; rw [e]
        rw [List.map_append]
        exact atI_last _ _
      have hlm : (linesOf x).getLastD ("" : Str) ∈ linesOf x := by
        rw [lastD_eq fx.ne]
        exact List.getLast_mem fx.ne
      refine ⟨_, rfl, _, rfl, ls, _, rfl, .inl (SqL.of hls), _, rfl, 1, rfl, ls, _, _, _, rfl, rfl, SqL.of hls, hlast, _, rfl, Nat.le_trans (fx.line _ hlm).1 (by decide), _, _, rfl, rfl, (by show 2 ≤ sizeLine; decide), fun A2 nA2 => ⟨(by show 2 ≤ sizeLine; decide), fun A1 nA1 => ?_⟩⟩
      have n12 : A2 ≠ A1 := fun z => by rw [z, upd_same] at nA1; cases nA1
      have sA := (same_upd (o := .tup [.int (((linesOf x).map V.str).length : Nat), .int ((((linesOf x).getLastD ("" : Str)).length : Nat) + 1)]) nA2).trans (same_upd (o := .tup [.ref l, .ref A2]) nA1)
      refine k _ A1 (s1.trans sA) ⟨l, A2, us, upd_same, sA _ _ hL, ?_, ?_⟩
      · rw [← hD2]
        exact paired_imp (fun a b r => PR.same sA r) hP
      · rw [upd_ne n12, upd_same, hlen]
        rfl
end
end Kg
namespace Kg
open PySem PySem.Spec PyProof.Rows L2
/-! ### the reader -/
abbrev sOInit : Stmt := inClass (top 37) 0
abbrev sRInit : Stmt := inClass (top 38) 0
abbrev sWhere : Stmt := inClass (top 38) 1
abbrev sTake : Stmt := inClass (top 38) 2
abbrev sTakeOp : Stmt := inClass (top 38) 3
abbrev sTakeSg : Stmt := inClass (top 38) 6
abbrev sPut : Stmt := inClass (top 38) 7
def QUOTE : Str := "behind a quote"
def INLIST : Str := "in a list"
def DOTTED : Str := "behind a dot"
def TAILED : Str := "behind the tail"
inductive D where
  | int (i : Int) | str (s : Str) | pair (a b : D)
  deriving DecidableEq
structure Op where
  state : Str
  data : List D
structure RS where
  data : List D
  stack : List Op
theorem look_hd {f : Str} {v : V} {l : List (Str × V)} : List.lookup f ((f, v) :: l) = some v := by simp [List.lookup]
theorem look_tl {f g : Str} {v : V} {l : List (Str × V)} (h : (f == g) = false) : List.lookup f ((g, v) :: l) = List.lookup f l := by simp [List.lookup, h]
def pairF (h t : V) : List (Str × V) := [("head", h), ("tail", t)]
def openF (s : Str) (l : Addr) : List (Str × V) := [("state", .str s), ("data", .ref l)]
def readF (d o : Addr) : List (Str × V) := [("data", .ref d), ("opened", .ref o)]
theorem openF_state (s : Str) (l : Addr) : (openF s l).lookup ("state" : Str) = some (.str s) := look_hd
theorem openF_data (s : Str) (l : Addr) : (openF s l).lookup ("data" : Str) = some (.ref l) := (look_tl (by decide +kernel)).trans look_hd
theorem readF_data (d o : Addr) : (readF d o).lookup ("data" : Str) = some (.ref d) := look_hd
theorem readF_opened (d o : Addr) : (readF d o).lookup ("opened" : Str) = some (.ref o) := (look_tl (by decide +kernel)).trans look_hd
theorem putF_new {f : Str} {v : V} {g : Str} {u : V} (h : ¬ g = f) : putF f v [(g, u)] = [(g, u), (f, v)] := by
  unfold putF
  rw [if_neg h]
  rfl
/-- data in the heap: pairs at C -/
inductive DR (C : Addr) (H : Hp) : V → D → Prop where
  | int (i : Int) : DR C H (.int i) (.int i)
  | str (s : Str) : DR C H (.str s) (.str s)
  | pair {a dx : Addr} {h t : V} {dh dt : D} (e : H a = some (.ins C dx (pairF h t))) (rh : DR C H h dh) (rt : DR C H t dt) : DR C H (.ref a) (.pair dh dt)
/-- pairs stay -/
def KeepP (C : Addr) (H H' : Hp) : Prop := ∀ a dx h t, H a = some (.ins C dx (pairF h t)) → H' a = some (.ins C dx (pairF h t))
theorem DR.keep {C : Addr} {H H' : Hp} (k : KeepP C H H') {v : V} {d : D} (r : DR C H v d) : DR C H' v d := by
  induction r with
  | int i => exact .int i
  | str s => exact .str s
  | pair e _ _ ih1 ih2 => exact .pair (k _ _ _ _ e) ih1 ih2
theorem Same.keepP {C : Addr} {H H' : Hp} (s : Same H H') : KeepP C H H' := fun a dx h t e => s _ _ e
/-- one opened bracket: its instance at p.1, its list at p.2 -/
def OR (CO CP : Addr) (H : Hp) (p : Addr × Addr) (s : Op) : Prop := ∃ dx us, H p.1 = some (.ins CO dx (openF s.state p.2)) ∧ H p.2 = some (.lst us) ∧ Paired (DR CP H) us s.data
/-- the reader at r stands as S does; behind H0 all is kept, and the reader's things are new -/
structure RInv (CR CO CP : Addr) (H0 H : Hp) (r : Addr) (S : RS) (dx ld lo : Addr) (us : List V) (ps : List (Addr × Addr)) : Prop where
  same : Same H0 H
  obj : H r = some (.ins CR dx (readF ld lo))
  ldat : H ld = some (.lst us)
  lopn : H lo = some (.lst ((ps.map fun p => V.ref p.1).reverse))
  data : Paired (DR CP H) us S.data
  open_ : Paired (OR CO CP H) ps S.stack
  nr : H0 r = none
  nd : H0 ld = none
  no : H0 lo = none
  np : ∀ p ∈ ps, H0 p.1 = none ∧ H0 p.2 = none
  apart : (ld :: lo :: ps.map (·.2)).Nodup
  apart1 : (ps.map (·.1)).Nodup
def whereS (S : RS) : V := match S.stack with
  | [] => .non
  | o :: _ => .str o.state
section
variable {P : Program} {w : World} {K : PySem.W.Frag} {mg : Str → Option Value} {base : Heap} {f CR CO CP : Addr} {fd : FuncData}
def spOInit (C : Addr) : Sp := fun vs H Q _ => ∃ (p dx : Addr) (s : Str), vs = [.ref p, .str s] ∧ H p = some (.ins C dx []) ∧ ∀ l, H l = none → Q .non (upd (upd H l (.lst [])) p (.ins C dx (openF s l)))
def spRInit (C : Addr) : Sp := fun vs H Q _ => ∃ (p dx : Addr), vs = [.ref p] ∧ H p = some (.ins C dx []) ∧ ∀ ld lo, H ld = none → H lo = none → ld ≠ lo → ∀ H', Same H H' ∨ True → H' p = some (.ins C dx (readF ld lo)) → H' ld = some (.lst []) → H' lo = some (.lst []) → (∀ b o, b ≠ p → H b = some o → H' b = some o) → Q .non H'
theorem scOInit : FnScope ["self", "state"] ["self", "state"] (defScope sOInit) := ⟨rfl, rfl, rfl, by decide +kernel, rfl, by decide +kernel, by decide +kernel⟩
theorem ok_oinit (F : FnP K "__init__" "Opened.__init__" sOInit f fd) (c : Cls K CO) (nS : NoAttr K CO "state") (nD : NoAttr K CO "data") : FnOk P w K mg base CX0 1 f fd ["self", "state"] (spOInit CO) := by
  refine F.ok scOInit (fun vs H Q E h => ?_) (fun cdv A outer s H vs Q E hr h => ?_)
  · obtain ⟨p, dx, s, rfl, _⟩ := h
    rfl
  · obtain ⟨p, dx, z, rfl, hp, k⟩ := h
    refine ⟨_, PSs.nox (pss_cons (ps_fld (pv 0) (pv 1) rfl) (pss_one (ps_fld (pv 0) (pe_lst pa_nil) rfl))), ?_⟩
    refine ⟨_, rfl, _, rfl, p, CO, dx, [], rfl, hp, c, nS, (by show 0 < 1000; decide), Nat.zero_le _, fun l hl => ?_⟩
    have npl : p ≠ l := fun q => by rw [← q, upd_same] at hl; cases hl
    have hl0 : H l = none := free_of hl
    refine ⟨_, rfl, p, CO, dx, _, rfl, by rw [upd_ne npl]; exact upd_same, c, nD, (by show 1 < 1000; decide), ?_⟩
    have e : putF "data" (.ref l) (putF "state" (.str z) []) = openF z l := putF_new (by decide +kernel)
    show Q .non (upd (upd (upd H p (.ins CO dx (putF "state" (.str z) []))) l (.lst [])) p (.ins CO dx (putF "data" (.ref l) (putF "state" (.str z) []))))
    rw [e]
    have e2 : upd (upd (upd H p (.ins CO dx (putF "state" (.str z) []))) l (.lst [])) p (.ins CO dx (openF z l)) = upd (upd H l (.lst [])) p (.ins CO dx (openF z l)) := by
      funext b
      by_cases hb : b = p
      · rw [hb, upd_same, upd_same]
      · rw [upd_ne hb, upd_ne hb]
        by_cases hb2 : b = l
        · rw [hb2, upd_same, upd_same]
        · rw [upd_ne hb2, upd_ne hb2, upd_ne hb]
    rw [e2]
    exact k l hl0
theorem scRInit : FnScope ["self"] ["self"] (defScope sRInit) := ⟨rfl, rfl, rfl, by decide +kernel, rfl, by decide +kernel, by decide +kernel⟩
theorem ok_rinit (F : FnP K "__init__" "Reader.__init__" sRInit f fd) (c : Cls K CR) (nS : NoAttr K CR "data") (nD : NoAttr K CR "opened") : FnOk P w K mg base CX0 1 f fd ["self"] (spRInit CR) := by
  refine F.ok scRInit (fun vs H Q E h => ?_) (fun cdv A outer s H vs Q E hr h => ?_)
  · obtain ⟨p, dx, rfl, _⟩ := h
    rfl
  · obtain ⟨p, dx, rfl, hp, k⟩ := h
    refine ⟨_, PSs.nox (pss_cons (ps_fld (pv 0) (pe_lst pa_nil) rfl) (pss_one (ps_fld (pv 0) (pe_lst pa_nil) rfl))), ?_⟩
    refine ⟨Nat.zero_le _, fun l hl => ?_⟩
    have npl : p ≠ l := ne_of_none hp hl
    refine ⟨_, rfl, p, CR, dx, [], rfl, by rw [upd_ne npl]; exact hp, c, nS, (by show 0 < 1000; decide), Nat.zero_le _, fun m hm => ?_⟩
    have npm : p ≠ m := fun q => by rw [← q, upd_same] at hm; cases hm
    have hm1 : upd H l (.lst []) m = none := free_of hm
    have hm0 : H m = none := free_of hm1
    have nlm : l ≠ m := fun q => by rw [← q, upd_same] at hm1; cases hm1
    refine ⟨_, rfl, p, CR, dx, _, rfl, by rw [upd_ne npm]; exact upd_same, c, nD, (by show 1 < 1000; decide), ?_⟩
    have e : putF "opened" (.ref m) (putF "data" (.ref l) []) = readF l m := putF_new (by decide +kernel)
    refine k l m hl hm0 nlm _ (.inr True.intro) ?_ ?_ ?_ fun b o hb q => ?_
    · rw [upd_same, e]
    · rw [upd_ne npl.symm, upd_ne nlm, upd_ne npl.symm, upd_same]
    · rw [upd_ne npm.symm, upd_same]
    · rw [upd_ne hb, upd_ne (ne_of_none q hm0), upd_ne hb, upd_ne (ne_of_none q hl)]
      exact q
def spWhere (CR CO CP : Addr) : Sp := fun vs H Q _ => ∃ (H0 : Hp) (r : Addr) (S : RS) (dx ld lo : Addr) (us : List V) (ps : List (Addr × Addr)), vs = [.ref r] ∧ RInv CR CO CP H0 H r S dx ld lo us ps ∧ Q (whereS S) H
theorem scWhere : FnScope ["self"] ["self"] (defScope sWhere) := ⟨rfl, rfl, rfl, by decide +kernel, rfl, by decide +kernel, by decide +kernel⟩
theorem ok_where (F : FnP K "where" "Reader.where" sWhere f fd) (c : Cls K CR) (c2 : Cls K CO) (nO : NoAttr K CR "opened") (nS : NoAttr K CO "state") : FnOk P w K mg base CX0 1 f fd ["self"] (spWhere CR CO CP) := by
  refine F.ok scWhere (fun vs H Q E h => ?_) (fun cdv A outer s H vs Q E hr h => ?_)
  · obtain ⟨H0, r, S, dx, ld, lo, us, ps, rfl, _⟩ := h
    rfl
  · obtain ⟨H0, r, S, dx, ld, lo, us, ps, rfl, R, k⟩ := h
    refine ⟨_, PSs.nox (pss_one (ps_ret (pe_ifExp (pt_truth (pe_fld (pv 0) rfl) (by intro _; rfl)) (pe_fld (pe_ix ix_list (pe_fld (pv 0) rfl) (pe_un un_neg pe_int) (fun _ _ => rfl)) rfl) pe_non))), ?_⟩
    refine ⟨_, rfl, r, CR, dx, _, _, rfl, R.obj, c, nO, readF_opened _ _, !(((ps.map fun p => V.ref p.1).reverse).isEmpty), Or.inl ⟨_, SqL.of R.lopn, rfl⟩, ?_⟩
    have hO := R.open_
    have hL := R.lopn
    rcases ps with _ | ⟨p, ps⟩
    · have hw : whereS S = .non := by
        unfold whereS
        cases hst : S.stack with
        | nil => rfl
        | cons o st => rw [hst] at hO; cases hO
      refine iteF ?_
      rw [← hw]
      exact k
    · cases hst : S.stack with
      | nil => rw [hst] at hO; cases hO
      | cons o st =>
        rw [hst] at hO
        cases hO with
        | cons hp hr2 =>
          obtain ⟨dx2, us2, h1, h2, h3⟩ := hp
          have hw : whereS S = .str o.state := by unfold whereS; rw [hst]
          refine ifB (fun _ => ?_) (fun h => absurd h (by simp))
          refine ⟨_, rfl, r, CR, dx, _, _, rfl, R.obj, c, nO, readF_opened _ _, 1, rfl, lo, _, _, .ref p.1, rfl, rfl, SqL.of hL, ?_, p.1, CO, dx2, _, _, rfl, h1, c2, nS, openF_state _ _, ?_⟩
          · rw [List.map_cons, List.reverse_cons]
            exact atI_last _ _
          · rw [← hw]
            exact k
end
end Kg
namespace Kg
open PySem PySem.Spec PyProof.Rows L2
/-- what a reader's classes have -/
structure RT (K : PySem.W.Frag) (mg : Str → Option Value) (CR CO fO fW fP fS fT : Addr) : Prop where
  cR : Cls K CR
  cO : Cls K CO
  rD : NoAttr K CR "data"
  rO : NoAttr K CR "opened"
  oS : NoAttr K CO "state"
  oD : NoAttr K CO "data"
  mO : mg "Opened" = some (.ref CO)
  kO : Mk K CO fO
  mW : Meth K CR "where" fW
  mP : Meth K CR "put" fP
  mS : Meth K CR "take_single" fS
  mT : Meth K CR "take_opening" fT
  len : mg "len" = none
  sQ : ∃ t, mg "BEHIND_QUOTE" = some (.str QUOTE t)
  sL : ∃ t, mg "IN_LIST" = some (.str INLIST t)
  sD : ∃ t, mg "BEHIND_DOT" = some (.str DOTTED t)
  sT : ∃ t, mg "BEHIND_TAIL" = some (.str TAILED t)
  sM : ∃ t, mg "MOST_OPEN" = some (.int 40 t)
  sDot : ∃ t, mg "DOT" = some (.str "." t)
theorem readF_no (d o : Addr) {m : Str} (h1 : (m == ("data" : Str)) = false) (h2 : (m == ("opened" : Str)) = false) : (readF d o).lookup m = none := (look_tl h1).trans ((look_tl h2).trans rfl)
/-- a whole datum is put -/
def putS (S : RS) (d : D) : RS := match S.stack with
  | [] => { S with data := S.data ++ [d] }
  | o :: st => { S with stack := { state := if o.state = DOTTED then TAILED else o.state, data := o.data ++ [d] } :: st }
def Small (m : Nat) (S : RS) : Prop := S.data.length ≤ m ∧ S.stack.length ≤ m ∧ ∀ o ∈ S.stack, o.data.length ≤ m
/-- put, no quote being open -/
def spPut (CR CO CP : Addr) : Sp := fun vs H Q _ => ∃ (H0 : Hp) (r : Addr) (S : RS) (dx ld lo : Addr) (us : List V) (ps : List (Addr × Addr)) (v : V) (d : D), vs = [.ref r, v] ∧ RInv CR CO CP H0 H r S dx ld lo us ps ∧ DR CP H v d ∧ Small 1000000 S ∧
  whereS S ≠ .str QUOTE ∧ ∀ H' us' ps', RInv CR CO CP H0 H' r (putS S d) dx ld lo us' ps' → Q .non H'
theorem open_pair {C C' dx dx' : Addr} {s : Str} {l : Addr} {h t : V} : HO.ins C dx (openF s l) ≠ HO.ins C' dx' (pairF h t) := fun z => by
  injection z with _ _ z3
  have e : ("state" : Str) = "head" := congrArg Prod.fst (List.cons.inj z3).1
  exact absurd e (by decide +kernel)
theorem read_pair {C C' dx dx' : Addr} {l m : Addr} {h t : V} : HO.ins C dx (readF l m) ≠ HO.ins C' dx' (pairF h t) := fun z => by
  injection z with _ _ z3
  have e : ("data" : Str) = "head" := congrArg Prod.fst (List.cons.inj z3).1
  exact absurd e (by decide +kernel)
theorem read_open {C C' dx dx' : Addr} {l m : Addr} {s : Str} {n : Addr} : HO.ins C dx (readF l m) ≠ HO.ins C' dx' (openF s n) := fun z => by
  injection z with _ _ z3
  have e : ("data" : Str) = "state" := congrArg Prod.fst (List.cons.inj z3).1
  exact absurd e (by decide +kernel)
theorem lst_ins {xs : List V} {C dx : Addr} {fs : List (Str × V)} : HO.lst xs ≠ HO.ins C dx fs := fun z => by cases z
/-- the heap is kept but for the list at a -/
theorem RInv.put0 {CR CO CP : Addr} {H0 H : Hp} {r : Addr} {S : RS} {dx ld lo : Addr} {us : List V} {ps : List (Addr × Addr)} {v : V} {d : D} (R : RInv CR CO CP H0 H r S dx ld lo us ps) (rv : DR CP H v d) :
    RInv CR CO CP H0 (upd H ld (.lst (us ++ [v]))) r { S with data := S.data ++ [d] } dx ld lo (us ++ [v]) ps := by
  have ap := R.apart
  have hld := R.ldat
  have k : KeepP CP H (upd H ld (.lst (us ++ [v]))) := fun b dx2 h t q => by
    rw [upd_ne (ne_of q hld (Ne.symm lst_ins))]
    exact q
  have nlo : lo ≠ ld := fun z => by
    rw [z] at ap
    simp at ap
  refine ⟨fun b o q => ?_, ?_, upd_same, ?_, ?_, ?_, R.nr, R.nd, R.no, R.np, ap, R.apart1⟩
  · rw [upd_ne (ne_of_none q R.nd)]
    exact R.same b o q
  · rw [upd_ne (ne_of R.obj hld (Ne.symm lst_ins))]
    exact R.obj
  · rw [upd_ne nlo]
    exact R.lopn
  · exact paired_snoc (rv.keep k) (paired_imp (fun a b q => q.keep k) R.data)
  · have np : ∀ p ∈ ps, p.2 ≠ ld := fun p hp z => by
      have h1 := (List.nodup_cons.mp ap).1
      exact h1 (List.mem_cons_of_mem _ (List.mem_map.mpr ⟨p, hp, z⟩))
    have go : ∀ (qs : List (Addr × Addr)) (st : List Op), (∀ p ∈ qs, p.2 ≠ ld) → Paired (OR CO CP H) qs st → Paired (OR CO CP (upd H ld (.lst (us ++ [v])))) qs st := by
      intro qs st hq hp
      induction hp with
      | nil => exact .nil
      | cons a _ ih =>
        refine .cons ?_ (ih fun p hp => hq p (List.mem_cons_of_mem _ hp))
        obtain ⟨dx2, us2, h1, h2, h3⟩ := a
        refine ⟨dx2, us2, ?_, ?_, paired_imp (fun a b q => q.keep k) h3⟩
        · rw [upd_ne (ne_of h1 hld (Ne.symm lst_ins))]
          exact h1
        · rw [upd_ne (hq _ List.mem_cons_self)]
          exact h2
    exact go ps S.stack np R.open_
/-- the innermost open thing is another one -/
theorem RInv.top {CR CO CP : Addr} {H0 H H' : Hp} {r : Addr} {S : RS} {dx ld lo : Addr} {us : List V} {p : Addr × Addr} {ps : List (Addr × Addr)} {o o' : Op} {st : List Op} (R : RInv CR CO CP H0 H r S dx ld lo us (p :: ps)) (hst : S.stack = o :: st)
    (k : ∀ b u, b ≠ p.1 → b ≠ p.2 → H b = some u → H' b = some u) (ho : OR CO CP H' p o') : RInv CR CO CP H0 H' r { S with stack := o' :: st } dx ld lo us (p :: ps) := by
  have ap := R.apart
  have hO := R.open_
  rw [hst] at hO
  cases hO with
  | cons hp hr =>
    obtain ⟨dx2, us2, h1, h2, h3⟩ := hp
    obtain ⟨n1, n2⟩ := R.np p List.mem_cons_self
    have kp : KeepP CP H H' := fun b dx3 h t q => k b _ (ne_of q h1 (Ne.symm open_pair)) (ne_of q h2 (Ne.symm lst_ins)) q
    have nd2 := List.nodup_cons.mp ap
    have nd3 := List.nodup_cons.mp nd2.2
    have nd4 := List.nodup_cons.mp nd3.2
    have nd5 := List.nodup_cons.mp R.apart1
    have a1 : ld ≠ p.2 := fun z => nd2.1 (by rw [z]; simp)
    have a2 : lo ≠ p.2 := fun z => nd3.1 (by rw [z]; simp)
    refine ⟨fun b u q => k b u (ne_of_none q n1) (ne_of_none q n2) (R.same b u q), k _ _ (ne_of R.obj h1 read_open) (ne_of R.obj h2 (Ne.symm lst_ins)) R.obj, k _ _ (ne_of R.ldat h1 lst_ins) a1 R.ldat, k _ _ (ne_of R.lopn h1 lst_ins) a2 R.lopn,
      paired_imp (fun a b q => q.keep kp) R.data, .cons ho ?_, R.nr, R.nd, R.no, R.np, ap, R.apart1⟩
    have go : ∀ (qs : List (Addr × Addr)) (st : List Op), (∀ q ∈ qs, q.1 ≠ p.1 ∧ q.2 ≠ p.2) → Paired (OR CO CP H) qs st → Paired (OR CO CP H') qs st := by
      intro qs st hq hp
      induction hp with
      | nil => exact .nil
      | cons a _ ih =>
        obtain ⟨b1, b2⟩ := hq _ List.mem_cons_self
        refine .cons ?_ (ih fun p hp => hq p (List.mem_cons_of_mem _ hp))
        obtain ⟨dx3, us3, e1, e2, e3⟩ := a
        exact ⟨dx3, us3, k _ _ b1 (ne_of e1 h2 (Ne.symm lst_ins)) e1, k _ _ (ne_of e2 h1 lst_ins) b2 e2, paired_imp (fun a b q => q.keep kp) e3⟩
    exact go ps st (fun q hq => ⟨fun z => nd5.1 (List.mem_map.mpr ⟨q, hq, z⟩), fun z => nd4.1 (List.mem_map.mpr ⟨q, hq, z⟩)⟩) hr
section
variable {P : Program} {w : World} {K : PySem.W.Frag} {mg : Str → Option Value} {base : Heap} {f CR CO CP fO fW fP fS fT : Addr} {fd fdW fdP fdS fdT : FuncData}
theorem scPut : FnScope ["self", "datum", "within"] ["self", "datum"] (defScope sPut) := ⟨rfl, rfl, rfl, by decide +kernel, rfl, by decide +kernel, by decide +kernel⟩
theorem ok_put (F : FnP K "put" "Reader.put" sPut f fd) (T : RT K mg CR CO fO fW fP fS fT) (FW : FnP K "where" "Reader.where" sWhere fW fdW) : FnOk P w K mg base CX0 2 f fd ["self", "datum"] (spPut CR CO CP) := by
  have GW : FnOk P w K mg base CX0 1 fW fdW ["self"] (spWhere CR CO CP) := ok_where FW T.cR T.cO T.rO T.oS
  have bW : Binds K fdW ["self"] [] := FW.bindsN fun _ _ _ _ _ _ us hl => match us, hl with | [_], _ => rfl
  obtain ⟨tq, gQ⟩ := T.sQ
  obtain ⟨td, gD⟩ := T.sD
  obtain ⟨tt, gT⟩ := T.sT
  refine F.ok scPut (fun vs H Q E h => ?_) (fun cdv A outer s H vs Q E hr h => ?_)
  · obtain ⟨H0, r, S, dx, ld, lo, us, ps, v, d, rfl, _⟩ := h
    rfl
  · obtain ⟨H0, r, S, dx, ld, lo, us, ps, v, d, rfl, R, rv, sm, nq, k⟩ := h
    refine ⟨_, PSs.nox (pss_cons (ps_while PassesOwn.never (pt_cmpR op_eq (pe_meth0 (pv 0) T.cR T.mW GW hr bW .nil pass0) (pgS gQ) (nomark _)) (pss_cons ps_never (pss_one ps_never)))
      (pss_cons (ps_if (pt_not (pt_truth (pe_fld (pv 0) rfl) (by intro _; rfl)))
        (pss_cons (ps_expr (pe_bm PySem.F.plainAttrs_list PySem.F.slot_list_append PySem.F.type_list_append mt_append (pe_fld (pv 0) rfl) (pa_cons (pv 1) pa_nil))) (pss_one ps_retN)) pss_nil)
      (pss_cons (ps_set (i := 2) scPut.nd rfl (Or.inl rfl) (pe_ix ix_list (pe_fld (pv 0) rfl) (pe_un un_neg pe_int) (fun _ _ => rfl)))
      (pss_cons (ps_expr (pe_bm PySem.F.plainAttrs_list PySem.F.slot_list_append PySem.F.type_list_append mt_append (pe_fld (pv 2) rfl) (pa_cons (pv 1) pa_nil)))
      (pss_one (ps_if (pt_cmpR op_eq (pe_fld (pv 2) rfl) (pgS gD) (nomark _)) (pss_one (ps_fld (pv 2) (pgS gT) rfl)) pss_nil)))))), ?_⟩
    have noW : (readF ld lo).lookup ("where" : Str) = none := readF_no _ _ (by decide +kernel) (by decide +kernel)
    refine ⟨fun _ σ' H' => σ' = [some (.ref r), some v, none] ∧ H' = H, ⟨0, rfl, rfl⟩, ?_⟩
    rintro m σ H1 ⟨rfl, rfl⟩
    have hsc : scal (whereS S) (.str QUOTE) = true := by
      unfold whereS
      cases S.stack <;> rfl
    refine ⟨_, rfl, r, dx, _, rfl, R.obj, noW, H0, r, S, dx, ld, lo, us, ps, rfl, R, hsc, _, rfl, ?_⟩
    refine ifD (fun h => absurd h nq) (fun _ => ?_)
    refine ⟨_, rfl, r, CR, dx, _, _, rfl, R.obj, T.cR, T.rO, readF_opened _ _, !(((ps.map fun p => V.ref p.1).reverse).isEmpty), Or.inl ⟨_, SqL.of R.lopn, rfl⟩, ?_⟩
    have hO := R.open_
    have hL := R.lopn
    rcases ps with _ | ⟨p, ps⟩
    · cases hst : S.stack with
      | cons o st => rw [hst] at hO; cases hO
      | nil =>
        refine iteT ?_
        refine ⟨_, rfl, r, CR, dx, _, _, rfl, R.obj, T.cR, T.rD, readF_data _ _, .inl ⟨rfl, _, SqL.of R.ldat⟩, _, rfl, ld, us, _, rfl, rfl, R.ldat, ?_, ?_⟩
        · have e := Paired.length R.data
          exact Nat.lt_of_le_of_lt (by rw [e]; exact sm.1) (by decide)
        · have e : putS S d = { S with data := S.data ++ [d] } := by unfold putS; rw [hst]
          refine k _ (us ++ [v]) [] ?_
          rw [e]
          exact R.put0 rv
    · cases hst : S.stack with
      | nil => rw [hst] at hO; cases hO
      | cons o st =>
        rw [hst] at hO
        cases hO with
        | cons hp hr2 =>
          obtain ⟨dx2, us2, h1, h2, h3⟩ := hp
          have hne : (!(((p :: ps).map fun p => V.ref p.1).reverse).isEmpty) = true := by simp
          rw [hne]
          refine iteF ?_
          refine ⟨_, rfl, r, CR, dx, _, _, rfl, R.obj, T.cR, T.rO, readF_opened _ _, 1, rfl, lo, _, _, .ref p.1, rfl, rfl, SqL.of hL, (by rw [List.map_cons, List.reverse_cons]; exact atI_last _ _), ?_⟩
          refine ⟨_, rfl, p.1, CO, dx2, _, _, rfl, h1, T.cO, T.oD, openF_data _ _, .inl ⟨rfl, _, SqL.of h2⟩, _, rfl, p.2, us2, _, rfl, rfl, h2, ?_, ?_⟩
          · have e := Paired.length h3
            exact Nat.lt_of_le_of_lt (by rw [e]; exact sm.2.2 o (by rw [hst]; exact List.mem_cons_self)) (by decide)
          have n12 : p.1 ≠ p.2 := ne_of h1 h2 (Ne.symm lst_ins)
          have kp : KeepP CP H1 (upd H1 p.2 (.lst (us2 ++ [v]))) := fun b dx3 h t q => by
            rw [upd_ne (ne_of q h2 (Ne.symm lst_ins))]
            exact q
          refine ⟨_, rfl, p.1, CO, dx2, _, _, rfl, by rw [upd_ne n12]; exact h1, T.cO, T.oS, openF_state _ _, rfl, _, rfl, ?_⟩
          refine ifS (fun hd => ?_) (fun hd => ?_)
          · have e : putS S d = { S with stack := { state := TAILED, data := o.data ++ [d] } :: st } := by unfold putS; rw [hst]; simp [hd]
            have e2 : putF "state" (.str TAILED) (openF o.state p.2) = openF TAILED p.2 := by
              unfold openF putF
              rw [if_pos rfl]
            refine ⟨_, rfl, p.1, CO, dx2, _, rfl, by rw [upd_ne n12]; exact h1, T.cO, T.oS, (by show 2 < 1000; decide), ?_⟩
            have kp2 : KeepP CP H1 (upd (upd H1 p.2 (.lst (us2 ++ [v]))) p.1 (.ins CO dx2 (putF "state" (.str TAILED) (openF o.state p.2)))) := fun b dx3 h t q => by
              rw [upd_ne (ne_of q h1 (Ne.symm open_pair)), upd_ne (ne_of q h2 (Ne.symm lst_ins))]
              exact q
            refine k _ us (p :: ps) ?_
            rw [e]
            exact R.top hst (fun b u b1 b2 q => by rw [upd_ne b1, upd_ne b2]; exact q) ⟨dx2, us2 ++ [v], by rw [upd_same, e2], by rw [upd_ne (Ne.symm n12), upd_same], paired_snoc (rv.keep kp2) (paired_imp (fun a b q => q.keep kp2) h3)⟩
          · have e : putS S d = { S with stack := { state := o.state, data := o.data ++ [d] } :: st } := by unfold putS; rw [hst]; simp [hd]
            refine k _ us (p :: ps) ?_
            rw [e]
            exact R.top hst (fun b u b1 b2 q => by rw [upd_ne b2]; exact q) ⟨dx2, us2 ++ [v], by rw [upd_ne n12]; exact h1, upd_same, paired_snoc (rv.keep kp) (paired_imp (fun a b q => q.keep kp) h3)⟩
end
end Kg
namespace Kg
open PySem PySem.Spec PyProof.Rows L2
theorem RInv.mono {CR CO CP : Addr} {H0 H H' : Hp} {r : Addr} {S : RS} {dx ld lo : Addr} {us : List V} {ps : List (Addr × Addr)} (R : RInv CR CO CP H0 H r S dx ld lo us ps) (s : Same H H') : RInv CR CO CP H0 H' r S dx ld lo us ps :=
  ⟨R.same.trans s, s _ _ R.obj, s _ _ R.ldat, s _ _ R.lopn, paired_imp (fun a b q => q.keep (Same.keepP s)) R.data, paired_imp (fun a b q => by
    obtain ⟨dx2, us2, h1, h2, h3⟩ := q
    exact ⟨dx2, us2, s _ _ h1, s _ _ h2, paired_imp (fun a b q => q.keep (Same.keepP s)) h3⟩) R.open_, R.nr, R.nd, R.no, R.np, R.apart, R.apart1⟩
def openS (S : RS) (st : Str) : RS := { S with stack := { state := st, data := [] } :: S.stack }
def spSg (CR CO CP : Addr) : Sp := fun vs H Q _ => ∃ (H0 : Hp) (r : Addr) (S : RS) (dx ld lo : Addr) (us : List V) (ps : List (Addr × Addr)) (x : Str) (pl : V), vs = [.ref r, .str x, pl] ∧ RInv CR CO CP H0 H r S dx ld lo us ps ∧ Small 1000000 S ∧ x.length ≤ 1000000 ∧
  isInt x = false ∧ isName x = true ∧ whereS S ≠ .str QUOTE ∧ whereS S ≠ .str TAILED ∧ ∀ H' us' ps', RInv CR CO CP H0 H' r (putS S (.str x)) dx ld lo us' ps' → Q .non H'
def spOp (CR CO CP : Addr) : Sp := fun vs H Q _ => ∃ (H0 : Hp) (r : Addr) (S : RS) (dx ld lo : Addr) (us : List V) (ps : List (Addr × Addr)) (st : Str) (pl : V), vs = [.ref r, .str st, pl] ∧ RInv CR CO CP H0 H r S dx ld lo us ps ∧ Small 1000000 S ∧
  whereS S ≠ .str TAILED ∧ S.stack.length ≠ 40 ∧ ∀ H' us' ps', RInv CR CO CP H0 H' r (openS S st) dx ld lo us' ps' → Q .non H'
/-- the module's names that the words want -/
structure WT (K : PySem.W.Frag) (mg : Str → Option Value) (fH fI fN : Addr) : Prop where
  gH : mg "has_only" = some (.ref fH)
  gI : mg "is_integer" = some (.ref fI)
  gN : mg "is_name" = some (.ref fN)
  all : mg "all" = none
  len : mg "len" = none
  max : mg "max" = none
  enum : mg "enumerate" = none
  fig : ∃ t, mg "FIGURES" = some (.str FIG t)
  signs : ∃ t, mg "WORD_SIGNS" = some (.str SIGNS t)
  longest : ∃ t, mg "LONGEST_NAME" = some (.int 16 t)
  dot : ∃ t, mg "DOT" = some (.str "." t)
section
variable {P : Program} {w : World} {K : PySem.W.Frag} {mg : Str → Option Value} {base : Heap} {f CR CO CP fO fW fP fS fT fH fI fN : Addr} {fd fdO fdW fdP fdS fdT fdH fdI fdN : FuncData}
theorem scSg : FnScope ["self", "word", "place"] ["self", "word", "place"] (defScope sTakeSg) := ⟨rfl, rfl, rfl, by decide +kernel, rfl, by decide +kernel, by decide +kernel⟩
theorem ok_sg (F : FnP K "take_single" "Reader.take_single" sTakeSg f fd) (T : RT K mg CR CO fO fW fP fS fT) (W : WT K mg fH fI fN) (FW : FnP K "where" "Reader.where" sWhere fW fdW) (FP : FnP K "put" "Reader.put" sPut fP fdP)
    (FH : FnP K "has_only" "has_only" sHas fH fdH) (FI : FnP K "is_integer" "is_integer" sIsInt fI fdI) (FN : FnP K "is_name" "is_name" sIsName fN fdN) : FnOk P w K mg base CX0 3 f fd ["self", "word", "place"] (spSg CR CO CP) := by
  have GW : FnOk P w K mg base CX0 1 fW fdW ["self"] (spWhere CR CO CP) := ok_where FW T.cR T.cO T.rO T.oS
  have GP : FnOk P w K mg base CX0 2 fP fdP ["self", "datum"] (spPut CR CO CP) := ok_put FP T FW
  obtain ⟨t1, g1⟩ := W.fig
  obtain ⟨t2, g2⟩ := W.signs
  obtain ⟨t3, g3⟩ := W.longest
  obtain ⟨t4, g4⟩ := W.dot
  obtain ⟨t5, g5⟩ := T.sT
  have GI : FnOk P w K mg base CX0 2 fI fdI ["word"] spIsInt := ok_isInt FI FH W.gH W.all g1
  have GN : FnOk P w K mg base CX0 2 fN fdN ["word"] spIsName := ok_isName FN FH W.gH W.all W.len g1 g2 g3 g4
  have bW : Binds K fdW ["self"] [] := FW.bindsN fun _ _ _ _ _ _ us hl => match us, hl with | [_], _ => rfl
  have bP : Binds K fdP ["self", "datum"] [] := FP.bindsN fun _ _ _ _ _ _ us hl => match us, hl with | [_, _], _ => rfl
  have bI : Binds K fdI ["word"] [] := FI.bindsN fun _ _ _ _ _ _ us hl => match us, hl with | [_], _ => rfl
  have bN : Binds K fdN ["word"] [] := FN.bindsN fun _ _ _ _ _ _ us hl => match us, hl with | [_], _ => rfl
  refine F.ok scSg (fun vs H Q E h => ?_) (fun cdv A outer s H vs Q E hr h => ?_)
  · obtain ⟨H0, r, S, dx, ld, lo, us, ps, x, pl, rfl, _⟩ := h
    rfl
  · obtain ⟨H0, r, S, dx, ld, lo, us, ps, x, pl, rfl, R, sm, hl, hi, hn, nq, nt, k⟩ := h
    have hr1 : Room 1 _ := hr.mono (by decide)
    refine ⟨_, PSs.nox (pss_cons (ps_if (pt_cmpR op_eq (pe_meth0 (pv 0) T.cR T.mW GW hr1 bW .nil pass0) (pgS g5) (nomark _)) (pss_one ps_never) pss_nil)
      (pss_one (ps_if (pt_val (pe_call GI hr rfl W.gI FI.kp bI .nil pass0 (pa_cons (pv 1) pa_nil))) (pss_one ps_never)
        (pss_one (ps_if (pt_val (pe_call GN hr rfl W.gN FN.kp bN .nil pass0 (pa_cons (pv 1) pa_nil))) (pss_one (ps_expr (pe_meth (pv 0) T.cR T.mP GP hr bP .nil pass0 (pa_cons (pv 1) pa_nil)))) (pss_one ps_never)))))), ?_⟩
    have noW : (readF ld lo).lookup ("where" : Str) = none := readF_no _ _ (by decide +kernel) (by decide +kernel)
    have noP : (readF ld lo).lookup ("put" : Str) = none := readF_no _ _ (by decide +kernel) (by decide +kernel)
    have hsc : scal (whereS S) (.str TAILED) = true := by
      unfold whereS
      cases S.stack <;> rfl
    refine ⟨_, rfl, r, dx, _, rfl, R.obj, noW, H0, r, S, dx, ld, lo, us, ps, rfl, R, hsc, _, rfl, ?_⟩
    refine ifD (fun h => absurd h nt) (fun _ => ?_)
    refine ⟨_, rfl, x, rfl, hl, fun H1 s1 => ⟨_, rfl, ?_⟩⟩
    rw [hi]
    refine iteF ?_
    refine ⟨_, rfl, x, rfl, hl, fun H2 s2 => ⟨_, rfl, ?_⟩⟩
    rw [hn]
    refine iteT ?_
    have R2 := (R.mono s1).mono s2
    refine ⟨_, rfl, r, dx, _, rfl, R2.obj, noP, _, rfl, ?_⟩
    exact ⟨H0, r, S, dx, ld, lo, us, ps, .str x, .str x, rfl, R2, .str x, sm, nq, k⟩
theorem scOp : FnScope ["self", "state", "place"] ["self", "state", "place"] (defScope sTakeOp) := ⟨rfl, rfl, rfl, by decide +kernel, rfl, by decide +kernel, by decide +kernel⟩
theorem ok_op (F : FnP K "take_opening" "Reader.take_opening" sTakeOp f fd) (T : RT K mg CR CO fO fW fP fS fT) (FW : FnP K "where" "Reader.where" sWhere fW fdW) (FO : FnP K "__init__" "Opened.__init__" sOInit fO fdO) : FnOk P w K mg base CX0 3 f fd ["self", "state", "place"] (spOp CR CO CP) := by
  have GW : FnOk P w K mg base CX0 1 fW fdW ["self"] (spWhere CR CO CP) := ok_where FW T.cR T.cO T.rO T.oS
  have GO : FnOk P w K mg base CX0 1 fO fdO ["self", "state"] (spOInit CO) := ok_oinit FO T.cO T.oS T.oD
  obtain ⟨t5, g5⟩ := T.sT
  obtain ⟨t6, g6⟩ := T.sM
  have bW : Binds K fdW ["self"] [] := FW.bindsN fun _ _ _ _ _ _ us hl => match us, hl with | [_], _ => rfl
  have bO : Binds K fdO ["self", "state"] [] := FO.bindsN fun _ _ _ _ _ _ us hl => match us, hl with | [_, _], _ => rfl
  refine F.ok scOp (fun vs H Q E h => ?_) (fun cdv A outer s H vs Q E hr h => ?_)
  · obtain ⟨H0, r, S, dx, ld, lo, us, ps, x, pl, rfl, _⟩ := h
    rfl
  · obtain ⟨H0, r, S, dx, ld, lo, us, ps, x, pl, rfl, R, sm, nt, n40, k⟩ := h
    have hr1 : Room 1 _ := hr.mono (by decide)
    refine ⟨_, PSs.nox (pss_cons (ps_if (PW.pt (pw_or (pt_cmpR op_eq (pe_meth0 (pv 0) T.cR T.mW GW hr1 bW .nil pass0) (pgS g5) (nomark _)) (pw_or1 (pt_cmpR op_eq (pe_callB call_len_seq (by rfl) T.len PySem.boot_len (pa_cons (pe_fld (pv 0) rfl) pa_nil)) (pgI g6) (nomark _))))) (pss_one ps_never) pss_nil)
      (pss_one (ps_expr (pe_bm PySem.F.plainAttrs_list PySem.F.slot_list_append PySem.F.type_list_append mt_append (pe_fld (pv 0) rfl) (pa_cons (pe_make T.kO GO hr rfl T.mO bO .nil pass0 (pa_cons (pv 1) pa_nil)) pa_nil))))), ?_⟩
    have noW : (readF ld lo).lookup ("where" : Str) = none := readF_no _ _ (by decide +kernel) (by decide +kernel)
    have hsc : scal (whereS S) (.str TAILED) = true := by
      unfold whereS
      cases S.stack <;> rfl
    have hpl : ps.length = S.stack.length := Paired.length R.open_
    refine ⟨_, rfl, r, dx, _, rfl, R.obj, noW, H0, r, S, dx, ld, lo, us, ps, rfl, R, hsc, _, rfl, ?_⟩
    refine ifD (fun h => absurd h nt) (fun _ => ?_)
    refine ⟨_, rfl, r, CR, dx, _, _, rfl, R.obj, T.cR, T.rO, readF_opened _ _, lo, _, rfl, .inl (SqL.of R.lopn), rfl, _, rfl, ?_⟩
    refine ifD (fun h => absurd (V.int.inj h) (by simp [hpl]; omega)) (fun _ => ?_)
    refine ⟨_, rfl, r, CR, dx, _, _, rfl, R.obj, T.cR, T.rO, readF_opened _ _, .inl ⟨rfl, _, SqL.of R.lopn⟩, _, rfl, fun y dy ny ndy ne => ?_⟩
    refine ⟨y, dy, x, rfl, upd_same, fun l hl => ⟨rfl, ?_⟩⟩
    have hl1 := free_of hl
    have nl0 : H l = none := free_of hl1
    have nyl : y ≠ l := fun z => by rw [← z, upd_same] at hl; cases hl
    have sB : Same H (upd (upd (upd (upd H dy (.own y)) y (.ins CO dy [])) l (.lst [])) y (.ins CO dy (openF x l))) := fun b o q => by
      rw [upd_ne (ne_of_none q ny), upd_ne (ne_of_none q nl0), upd_ne (ne_of_none q ny), upd_ne (ne_of_none q ndy)]
      exact q
    have hB1 : upd (upd (upd (upd H dy (.own y)) y (.ins CO dy [])) l (.lst [])) y (.ins CO dy (openF x l)) y = some (.ins CO dy (openF x l)) := upd_same
    have hB2 : upd (upd (upd (upd H dy (.own y)) y (.ins CO dy [])) l (.lst [])) y (.ins CO dy (openF x l)) l = some (.lst []) := by rw [upd_ne (Ne.symm nyl), upd_same]
    generalize upd (upd (upd (upd H dy (.own y)) y (.ins CO dy [])) l (.lst [])) y (.ins CO dy (openF x l)) = HB at sB hB1 hB2
    have RB := R.mono sB
    refine ⟨lo, _, .ref y, rfl, rfl, RB.lopn, ?_, ?_⟩
    · have e : ((ps.map fun p => V.ref p.1).reverse).length = S.stack.length := by simp [hpl]
      exact Nat.lt_of_le_of_lt (by rw [e]; exact sm.2.1) (by decide)
    have hlo := RB.lopn
    have nlo_y : y ≠ lo := fun z => by rw [z] at ny; rw [R.lopn] at ny; cases ny
    have nlo_l : l ≠ lo := fun z => by rw [z] at nl0; rw [R.lopn] at nl0; cases nl0
    have nld_l : l ≠ ld := fun z => by rw [z] at nl0; rw [R.ldat] at nl0; cases nl0
    have ap := List.nodup_cons.mp R.apart
    have ap2 := List.nodup_cons.mp ap.2
    have nldlo : ld ≠ lo := fun z => ap.1 (by rw [z]; simp)
    have kp : KeepP CP HB (upd HB lo (.lst ((ps.map fun p => V.ref p.1).reverse ++ [.ref y]))) := fun b dx3 h t q => by
      rw [upd_ne (ne_of q hlo (Ne.symm lst_ins))]
      exact q
    have hin : ∀ p ∈ ps, ∃ dx2 s us2, H p.1 = some (.ins CO dx2 (openF s p.2)) ∧ H p.2 = some (.lst us2) := by
      have go : ∀ (qs : List (Addr × Addr)) (st : List Op), Paired (OR CO CP H) qs st → ∀ p ∈ qs, ∃ dx2 s us2, H p.1 = some (.ins CO dx2 (openF s p.2)) ∧ H p.2 = some (.lst us2) := by
        intro qs st hp
        induction hp with
        | nil => intro p hp; cases hp
        | cons a _ ih =>
          intro p hp
          rcases List.mem_cons.mp hp with e | hp
          · rw [e]
            obtain ⟨dx2, us2, h1, h2, _⟩ := a
            exact ⟨dx2, _, us2, h1, h2⟩
          · exact ih p hp
      exact go ps S.stack R.open_
    refine k _ us ((y, l) :: ps) ⟨fun b o q => ?_, ?_, ?_, ?_, paired_imp (fun a b q => q.keep kp) RB.data, .cons ⟨dy, [], ?_, ?_, .nil⟩ ?_, R.nr, R.nd, R.no, ?_, ?_, ?_⟩
    · rw [upd_ne (ne_of_none q R.no)]
      exact RB.same b o q
    · rw [upd_ne (ne_of RB.obj hlo (Ne.symm lst_ins))]
      exact RB.obj
    · rw [upd_ne nldlo]
      exact RB.ldat
    · rw [upd_same]
      simp
    · rw [upd_ne nlo_y]
      exact hB1
    · rw [upd_ne nlo_l]
      exact hB2
    · have go : ∀ (qs : List (Addr × Addr)) (st : List Op), (∀ q ∈ qs, q.2 ≠ lo) → Paired (OR CO CP HB) qs st → Paired (OR CO CP (upd HB lo (.lst ((ps.map fun p => V.ref p.1).reverse ++ [.ref y])))) qs st := by
        intro qs st hq hp
        induction hp with
        | nil => exact .nil
        | cons a _ ih =>
          have b2 := hq _ List.mem_cons_self
          refine .cons ?_ (ih fun p hp => hq p (List.mem_cons_of_mem _ hp))
          obtain ⟨dx3, us3, e1, e2, e3⟩ := a
          exact ⟨dx3, us3, by rw [upd_ne (ne_of e1 hlo (Ne.symm lst_ins))]; exact e1, by rw [upd_ne b2]; exact e2, paired_imp (fun a b q => q.keep kp) e3⟩
      exact go ps S.stack (fun q hq z => ap2.1 (List.mem_map.mpr ⟨q, hq, z⟩)) RB.open_
    · intro p hp
      rcases List.mem_cons.mp hp with e | hp
      · rw [e]
        exact ⟨R.same.free ny, R.same.free nl0⟩
      · exact R.np p hp
    · refine List.nodup_cons.mpr ⟨fun h => ?_, List.nodup_cons.mpr ⟨fun h => ?_, List.nodup_cons.mpr ⟨fun h => ?_, ap2.2⟩⟩⟩
      · rcases List.mem_cons.mp h with e | h
        · exact nldlo e
        · rcases List.mem_cons.mp h with e | h
          · exact nld_l e.symm
          · exact ap.1 (List.mem_cons_of_mem _ h)
      · rcases List.mem_cons.mp h with e | h
        · exact nlo_l e.symm
        · exact ap2.1 h
      · obtain ⟨q, hq, e⟩ := List.mem_map.mp h
        obtain ⟨_, _, us2, _, h2⟩ := hin q hq
        have e' : q.2 = l := e
        rw [e', nl0] at h2
        cases h2
    · refine List.nodup_cons.mpr ⟨fun h => ?_, R.apart1⟩
      obtain ⟨q, hq, e⟩ := List.mem_map.mp h
      obtain ⟨_, _, us2, h1, _⟩ := hin q hq
      have e' : q.1 = y := e
      rw [e', ny] at h1
      cases h1
/-- a word that can stand: an opening bracket, or a name -/
def OkW (S : RS) (x : Str) : Prop := (x = ("(" : Str) ∧ whereS S ≠ .str TAILED ∧ S.stack.length ≠ 40) ∨ (x ≠ ("(" : Str) ∧ x.length ≤ 1000000 ∧ isInt x = false ∧ isName x = true ∧ whereS S ≠ .str QUOTE ∧ whereS S ≠ .str TAILED)
def stepS (S : RS) (x : Str) : RS := if x = ("(" : Str) then openS S INLIST else putS S (.str x)
def spTake (CR CO CP : Addr) : Sp := fun vs H Q _ => ∃ (H0 : Hp) (r : Addr) (S : RS) (dx ld lo : Addr) (us : List V) (ps : List (Addr × Addr)) (x : Str) (pl : V), vs = [.ref r, .str x, pl] ∧ RInv CR CO CP H0 H r S dx ld lo us ps ∧ Small 1000000 S ∧
  OkW S x ∧ ∀ H' us' ps', RInv CR CO CP H0 H' r (stepS S x) dx ld lo us' ps' → Q .non H'
theorem scTake : FnScope ["self", "word", "place"] ["self", "word", "place"] (defScope sTake) := ⟨rfl, rfl, rfl, by decide +kernel, rfl, by decide +kernel, by decide +kernel⟩
theorem ok_take (F : FnP K "take" "Reader.take" sTake f fd) (T : RT K mg CR CO fO fW fP fS fT) (W : WT K mg fH fI fN) (FW : FnP K "where" "Reader.where" sWhere fW fdW) (FP : FnP K "put" "Reader.put" sPut fP fdP) (FO : FnP K "__init__" "Opened.__init__" sOInit fO fdO)
    (FS : FnP K "take_single" "Reader.take_single" sTakeSg fS fdS) (FT : FnP K "take_opening" "Reader.take_opening" sTakeOp fT fdT)
    (FH : FnP K "has_only" "has_only" sHas fH fdH) (FI : FnP K "is_integer" "is_integer" sIsInt fI fdI) (FN : FnP K "is_name" "is_name" sIsName fN fdN) : FnOk P w K mg base CX0 4 f fd ["self", "word", "place"] (spTake CR CO CP) := by
  have GS : FnOk P w K mg base CX0 3 fS fdS ["self", "word", "place"] (spSg CR CO CP) := ok_sg FS T W FW FP FH FI FN
  have GT : FnOk P w K mg base CX0 3 fT fdT ["self", "state", "place"] (spOp CR CO CP) := ok_op FT T FW FO
  have bS : Binds K fdS ["self", "word", "place"] [] := FS.bindsN fun _ _ _ _ _ _ us hl => match us, hl with | [_, _, _], _ => rfl
  have bT : Binds K fdT ["self", "state", "place"] [] := FT.bindsN fun _ _ _ _ _ _ us hl => match us, hl with | [_, _, _], _ => rfl
  obtain ⟨t1, g1⟩ := T.sL
  obtain ⟨t2, g2⟩ := T.sDot
  refine F.ok scTake (fun vs H Q E h => ?_) (fun cdv A outer s H vs Q E hr h => ?_)
  · obtain ⟨H0, r, S, dx, ld, lo, us, ps, x, pl, rfl, _⟩ := h
    rfl
  · obtain ⟨H0, r, S, dx, ld, lo, us, ps, x, pl, rfl, R, sm, ok, k⟩ := h
    refine ⟨_, PSs.nox (pss_one (ps_if (pt_cmpR op_eq (pv 1) pe_str (nomark _)) (pss_one (ps_expr (pe_meth (pv 0) T.cR T.mT GT hr bT .nil pass0 (pa_cons (pgS g1) (pa_cons (pv 2) pa_nil)))))
      (pss_one (ps_if (pt_cmpR op_eq (pv 1) pe_str (nomark _)) (pss_one ps_never)
        (pss_one (ps_if (pt_cmpR op_eq (pv 1) (pgS g2) (nomark _)) (pss_one ps_never)
          (pss_one (ps_if (pt_cmpR op_eq (pv 1) pe_str (nomark _)) (pss_one ps_never)
            (pss_one (ps_expr (pe_meth (pv 0) T.cR T.mS GS hr bS .nil pass0 (pa_cons (pv 1) (pa_cons (pv 2) pa_nil))))))))))))), ?_⟩
    have noS : (readF ld lo).lookup ("take_single" : Str) = none := readF_no _ _ (by decide +kernel) (by decide +kernel)
    have noT : (readF ld lo).lookup ("take_opening" : Str) = none := readF_no _ _ (by decide +kernel) (by decide +kernel)
    refine ⟨_, rfl, rfl, _, rfl, ?_⟩
    refine ifS (fun hx => ?_) (fun hx => ?_)
    · have e : stepS S x = openS S INLIST := if_pos hx
      rcases ok with ⟨_, o2, o3⟩ | ⟨o1, _⟩
      · refine ⟨_, rfl, r, dx, _, rfl, R.obj, noT, _, rfl, ?_⟩
        refine ⟨H0, r, S, dx, ld, lo, us, ps, INLIST, _, rfl, R, sm, o2, o3, fun H' us' ps' R' => k H' us' ps' ?_⟩
        rw [e]
        exact R'
      · exact absurd hx o1
    · have e : stepS S x = putS S (.str x) := if_neg hx
      rcases ok with ⟨o1, _⟩ | ⟨_, o2, o3, o4, o5, o6⟩
      · exact absurd o1 hx
      · have nn : ∀ y : Str, isName y = false → ¬ x = y := fun y hy z => by rw [z, hy] at o4; cases o4
        refine ⟨_, rfl, rfl, _, rfl, ?_⟩
        refine ifS (fun h => absurd h (nn _ (by decide +kernel))) (fun _ => ?_)
        refine ⟨_, rfl, rfl, _, rfl, ?_⟩
        refine ifS (fun h => absurd h (nn _ (by decide +kernel))) (fun _ => ?_)
        refine ⟨_, rfl, rfl, _, rfl, ?_⟩
        refine ifS (fun h => absurd h (nn _ (by decide +kernel))) (fun _ => ?_)
        refine ⟨_, rfl, r, dx, _, rfl, R.obj, noS, _, rfl, _, rfl, ?_⟩
        refine ⟨H0, r, S, dx, ld, lo, us, ps, x, _, rfl, R, sm, o2, o3, o4, o5, o6, fun H' us' ps' R' => k H' us' ps' ?_⟩
        rw [e]
        exact R'
end
end Kg
namespace Kg
open PySem PySem.Spec PyProof.Rows L2
abbrev sEInit : Stmt := inClass (top 5) 0
abbrev sChecked : Stmt := top 41
abbrev sDataIn : Stmt := top 39
abbrev sDatumIn : Stmt := top 40
abbrev sRead : Stmt := top 42
abbrev sPrinted : Stmt := top 43
def spEInit (CB : Addr) : Sp := fun vs H Q _ => ∃ (a : Addr) (v : V), vs = [.ref a, v] ∧ H a = some (exo a CB none) ∧ ∀ dx, H dx = none → dx ≠ a → Q .non (upd (upd H dx (exd dx [(("value" : Str), v)])) a (exo a CB (some dx)))
/-- what a BadText, made with v, leaves: its dict d, new -/
def ErrW (CB : Addr) (H : Hp) (v : V) (E : XK) : Prop := ∀ d H', Same H H' → H d = none → H' d = some (.xd [(("value" : Str), v)]) → E (.ref CB) (some d) H'
theorem err_made {CB a : Addr} {H1 : Hp} {v : V} {E : XK} (na : H1 a = none) (h : ErrW CB H1 v E) : spEInit CB [.ref a, v] (upd H1 a (exo a CB none))
    (fun u H2 => u = .non ∧ ∃ (d : Addr) (fs : List (Str × V)), H2 a = some (exo a CB (some d)) ∧ H2 d = some (exd d fs) ∧ H1 d = none ∧ E (.ref CB) (some d) (upd (del H2 a) d (.xd fs))) (fun _ _ _ => False) := by
  refine ⟨a, v, rfl, upd_same, fun dx nd ne => ⟨rfl, dx, _, upd_same, by rw [upd_ne ne, upd_same], free_of nd, h dx _ (fun b o q => ?_) (free_of nd) upd_same⟩⟩
  have h1 : b ≠ a := ne_of_none q na
  have h2 : b ≠ dx := ne_of_none q (free_of nd)
  rw [upd_ne h2, del_ne h1, upd_ne h1, upd_ne h2, upd_ne h1]
  exact q
/-- what raising BadText wants of the text -/
structure ET (K : PySem.W.Frag) (mg : Str → Option Value) (CB fE : Addr) : Prop where
  x : OexC K CB
  noV : PySem.W.findIn K (.ref CB) "value" = some none
  iC : PySem.W.findIn K (.ref CB) "__init__" = some (some (.ref fE))
  tI : PySem.W.typeIn K (.ref fE) = some (.type "function")
  gB : mg "BadText" = some (.ref CB)
  isi : mg "isinstance" = none
  str : mg "str" = none
section
variable {P : Program} {w : World} {K : PySem.W.Frag} {mg : Str → Option Value} {base : Heap} {f CB CR CO CP fE fC fWo fL fWe : Addr} {fd fdE fdC fdWo fdL fdWe : FuncData}
theorem scE : FnScope ["self", "value"] ["self", "value"] (defScope sEInit) := ⟨rfl, rfl, rfl, by decide +kernel, rfl, by decide +kernel, by decide +kernel⟩
theorem ok_einit (F : FnP K "__init__" "KeptError.__init__" sEInit f fd) (T : ET K mg CB fE) : FnOk P w K mg base CX0 1 f fd ["self", "value"] (spEInit CB) := by
  refine F.ok scE (fun vs H Q E h => ?_) (fun cdv A outer s H vs Q E hr h => ?_)
  · obtain ⟨a, v, rfl, _⟩ := h
    rfl
  · obtain ⟨a, v, rfl, ha, k⟩ := h
    refine ⟨_, PSs.nox (pss_one (ps_ost (pv 0) (pv 1))), ?_⟩
    exact ⟨_, rfl, _, rfl, a, CB, rfl, T.x, T.noV, .inl ⟨ha, k⟩⟩
def NotStr (K : PySem.W.Frag) (H : Hp) (v : V) : Prop := ∃ t, TyX K H v t ∧ PySem.W.kitOne K t (.type "str") = some false
def spChecked (K : PySem.W.Frag) (CB : Addr) : Sp := fun vs H Q E => ∃ v : V, vs = [v] ∧ ((∃ x, v = .str x ∧ Fits x ∧ ∀ H' a, Same H H' → WordsR H' a x → Q (.ref a) H') ∨
  (NotStr K H v ∧ ∀ H1 T, Same H H1 → H1 T = some (.tup [.int 0, .int 0]) → ErrW CB H1 (.ref T) E))
theorem scC : FnScope ["text"] ["text"] (defScope sChecked) := ⟨rfl, rfl, rfl, by decide +kernel, rfl, by decide +kernel, by decide +kernel⟩
theorem ok_checked (F : FnP K "checked_words" "checked_words" sChecked f fd) (T : ET K mg CB fE) (FE : FnP K "__init__" "KeptError.__init__" sEInit fE fdE) (FWo : FnP K "words_in" "words_in" sWordsIn fWo fdWo) (FL : FnP K "line_words" "line_words" sLineWords fL fdL) (FWe : FnP K "word_end" "word_end" sWordEnd fWe fdWe)
    {fH fI fN : Addr} (W : WT K mg fH fI fN) (gWo : mg "words_in" = some (.ref fWo)) (gL : mg "line_words" = some (.ref fL)) (gWe : mg "word_end" = some (.ref fWe)) : FnOk P w K mg base (L2.CX P w) 5 f fd ["text"] (spChecked K CB) := by
  have GE : FnOk P w K mg base CX0 1 fE fdE ["self", "value"] (spEInit CB) := ok_einit FE T
  obtain ⟨t2, g2⟩ := W.signs
  have GW : FnOk P w K mg base CX0 3 fWo fdWo ["text"] spWords := ok_words FWo FL FWe gL gWe W.len W.max W.enum g2
  have bE : Binds K fdE ["self", "value"] [] := FE.bindsN fun _ _ _ _ _ _ us hl => match us, hl with | [_, _], _ => rfl
  have bW : Binds K fdWo ["text"] [] := FWo.bindsN fun _ _ _ _ _ _ us hl => match us, hl with | [_], _ => rfl
  refine F.ok scC (fun vs H Q E h => ?_) (fun cdv A outer s H vs Q E hr h => ?_)
  · obtain ⟨v, rfl, _⟩ := h
    rfl
  · obtain ⟨v, rfl, h⟩ := h
    have hr3 : Room 3 _ := hr.mono (by decide)
    have hr2 : Room 2 _ := hr.mono (by decide)
    refine ⟨_, pss_cons (ps_if (pt_not (pt_val (pe_callB call_isi (by rfl) T.isi (by decide +kernel) (pa_cons (pv 0) (pa_cons (pe_bltn (v := .ty "str") rfl T.str (by decide +kernel) rfl) pa_nil)))))
        (pss_one (ps_raise rfl (takes_of rfl rfl rfl rfl) (pmk_oex T.x T.iC T.tI GE hr2 bE .nil pass0 rfl T.gB (pa_cons (pe_tup (pa_cons pe_int (pa_cons pe_int pa_nil))) pa_nil)))) pss_nil)
      (pss_one (ps_ret (pe_call GW hr3 rfl gWo FWo.kp bW .nil pass0 (pa_cons (pv 0) pa_nil)))), ?_⟩
    rcases h with ⟨x, rfl, fx, k⟩ | ⟨⟨t, ty, e⟩, k⟩
    · refine ⟨_, rfl, .str x, .ty "str", .type "str", .type "str", true, rfl, .ty _, .base (.str x), kit_ty (by decide +kernel), _, rfl, ?_⟩
      refine iteF ?_
      exact ⟨_, rfl, x, rfl, fx, k⟩
    · refine ⟨_, rfl, v, .ty "str", t, .type "str", false, rfl, .ty _, ty, e, _, rfl, ?_⟩
      refine iteT ?_
      refine ⟨(by show 2 ≤ sizeLine; decide), fun T1 nT => ⟨(by show 1 ≤ 1000; decide), fun a na => ?_⟩⟩
      exact err_made na (k _ T1 (same_upd nT) upd_same)
/-- the words can all be taken -/
def RunOk : RS → List (Str × Nat × Nat) → Prop
  | _, [] => True
  | S, p :: r => OkW S p.1 ∧ RunOk (stepS S p.1) r
def runS (S : RS) (l : List (Str × Nat × Nat)) : RS := l.foldl (fun S p => stepS S p.1) S
def S0 : RS := ⟨[], []⟩
/-- the data of a text at l; or the error -/
def spData (K : PySem.W.Frag) (CB CP : Addr) : Sp := fun vs H Q E => ∃ v : V, vs = [v] ∧ ((∃ x, v = .str x ∧ Fits x ∧ RunOk S0 (textWords x) ∧ ((runS S0 (textWords x)).stack = [] → ∀ H' l us, Same H H' → H' l = some (.lst us) → Paired (DR CP H') us (runS S0 (textWords x)).data → Q (.ref l) H') ∧
    ((runS S0 (textWords x)).stack ≠ [] → ∀ H1 T, Same H H1 → H1 T = some (.tup [.int ((textEnd x).1 : Nat), .int ((textEnd x).2 : Nat)]) → ErrW CB H1 (.ref T) E)) ∨
  (NotStr K H v ∧ ∀ H1 T, Same H H1 → H1 T = some (.tup [.int 0, .int 0]) → ErrW CB H1 (.ref T) E))
theorem small_step {m : Nat} {S : RS} (x : Str) (h : Small m S) : Small (m + 1) (stepS S x) := by
  obtain ⟨h1, h2, h3⟩ := h
  unfold stepS
  split
  · refine ⟨Nat.le_succ_of_le h1, Nat.succ_le_succ h2, fun o ho => ?_⟩
    rcases List.mem_cons.mp ho with e | ho
    · rw [e]; exact Nat.zero_le _
    · exact Nat.le_succ_of_le (h3 o ho)
  · unfold putS
    cases hst : S.stack with
    | nil =>
      refine ⟨?_, Nat.zero_le _, fun o ho => ?_⟩
      · show (S.data ++ _).length ≤ _
        simp
        exact h1
      · cases ho
    | cons o st =>
      rw [hst] at h2 h3
      refine ⟨Nat.le_succ_of_le h1, Nat.le_succ_of_le h2, fun q hq => ?_⟩
      rcases List.mem_cons.mp hq with e | hq
      · rw [e]
        show (o.data ++ _).length ≤ _
        simp
        exact h3 o List.mem_cons_self
      · exact Nat.le_succ_of_le (h3 q (List.mem_cons_of_mem _ hq))
theorem runOk_at : ∀ {l : List (Str × Nat × Nat)} {S : RS} {i : Nat} {p : Str × Nat × Nat}, RunOk S l → l[i]? = some p → OkW (runS S (l.take i)) p.1
  | [], _, _, _, _, h => by simp at h
  | q :: l, S, 0, p, h, e => by
    simp at e
    subst e
    exact h.1
  | q :: l, S, i + 1, p, h, e => by
    have ih := runOk_at (l := l) (S := stepS S q.1) (i := i) (p := p) h.2 (by simpa using e)
    exact ih
theorem runS_more {l : List (Str × Nat × Nat)} {S : RS} {i : Nat} {p : Str × Nat × Nat} (h : l[i]? = some p) : runS S (l.take (i + 1)) = stepS (runS S (l.take i)) p.1 := by
  unfold runS
  rw [take_more h, List.foldl_append]
  rfl
theorem small_mono {m n : Nat} {S : RS} (h : Small m S) (l : m ≤ n) : Small n S := ⟨Nat.le_trans h.1 l, Nat.le_trans h.2.1 l, fun o ho => Nat.le_trans (h.2.2 o ho) l⟩
theorem small_run (l : List (Str × Nat × Nat)) : ∀ i, i ≤ l.length → Small i (runS S0 (l.take i))
  | 0, _ => by
    rw [List.take_zero]
    exact ⟨Nat.le_refl _, Nat.le_refl _, fun o ho => by cases ho⟩
  | i + 1, h => by
    have e : l[i]? = some l[i] := by simp
    rw [runS_more e]
    exact small_step _ (small_run l i (by omega))
theorem scDataIn : FnScope ["text", "words", "end", "reader", "word", "place"] ["text"] (defScope sDataIn) := ⟨rfl, rfl, rfl, by decide +kernel, rfl, by decide +kernel, by decide +kernel⟩
theorem ok_data {fRI fO fW fP fS fT fH fI fN fTk : Addr} {fdRI fdO fdW fdP fdS fdT fdH fdI fdN fdTk : FuncData} (F : FnP K "data_in" "data_in" sDataIn f fd) (T : ET K mg CB fE) (FE : FnP K "__init__" "KeptError.__init__" sEInit fE fdE)
    (GC : FnOk P w K mg base (L2.CX P w) 5 fC fdC ["text"] (spChecked K CB)) (bC : Binds K fdC ["text"] []) (gC : mg "checked_words" = some (.ref fC)) (kC : PySem.W.keepIn K (.ref fC) = true)
    (R : RT K mg CR CO fO fW fP fS fT) (MR : Mk K CR fRI) (gR : mg "Reader" = some (.ref CR)) (FR : FnP K "__init__" "Reader.__init__" sRInit fRI fdRI)
    (GT : FnOk P w K mg base CX0 4 fTk fdTk ["self", "word", "place"] (spTake CR CO CP)) (bT : Binds K fdTk ["self", "word", "place"] []) (mT : Meth K CR "take" fTk) :
    FnOk P w K mg base (L2.CX P w) 6 f fd ["text"] (spData K CB CP) := by
  have GE : FnOk P w K mg base CX0 1 fE fdE ["self", "value"] (spEInit CB) := ok_einit FE T
  have GR : FnOk P w K mg base CX0 1 fRI fdRI ["self"] (spRInit CR) := ok_rinit FR R.cR R.rD R.rO
  have bE : Binds K fdE ["self", "value"] [] := FE.bindsN fun _ _ _ _ _ _ us hl => match us, hl with | [_, _], _ => rfl
  have bR : Binds K fdRI ["self"] [] := FR.bindsN fun _ _ _ _ _ _ us hl => match us, hl with | [_], _ => rfl
  refine F.ok scDataIn (fun vs H Q E h => ?_) (fun cdv A outer s H vs Q E hr h => ?_)
  · obtain ⟨v, rfl, _⟩ := h
    rfl
  · obtain ⟨v, rfl, h⟩ := h
    have hr4 : Room 4 _ := hr.mono (by decide)
    have hr2 : Room 2 _ := hr.mono (by decide)
    refine ⟨_, pss_cons (ps_asg (pe_call (E := E) GC hr rfl gC kC bC .nil (passes_call (takes_of rfl rfl rfl rfl) (fun _ _ _ _ h => h)) (pa_cons (pv 0) pa_nil)) (pg_tup rfl (pgs_cons (pg_name (i := 1) scDataIn.nd rfl (Or.inl rfl)) (pgs_cons (pg_name (i := 2) scDataIn.nd rfl (Or.inl rfl)) pgs_nil))))
      (pss_cons (ps_set (i := 3) scDataIn.nd rfl (Or.inl rfl) (pe_make0 MR GR hr2 rfl gR bR .nil pass0))
      (pss_cons (ps_for (passes_of rfl) rfl (pi_list (pv 1)) (pg_tup rfl (pgs_cons (pg_name (i := 4) scDataIn.nd rfl (Or.inl rfl)) (pgs_cons (pg_name (i := 5) scDataIn.nd rfl (Or.inl rfl)) pgs_nil)))
        (pss_one (ps_expr (pe_meth (pv 3) R.cR mT GT hr4 bT .nil pass0 (pa_cons (pv 4) (pa_cons (pv 5) pa_nil))))))
      (pss_cons (ps_if (pt_truth (pe_fld (pv 3) rfl) (by intro _; rfl)) (pss_one (ps_raise rfl (takes_of rfl rfl rfl rfl) (pmk_oex T.x T.iC T.tI GE hr2 bE .nil pass0 rfl T.gB (pa_cons (pv 2) pa_nil)))) pss_nil)
      (pss_one (ps_ret (pe_fld (pv 3) rfl)))))), ?_⟩
    have noT : ∀ a b : Addr, (readF a b).lookup ("take" : Str) = none := fun a b => readF_no _ _ (by decide +kernel) (by decide +kernel)
    refine ⟨_, rfl, v, rfl, ?_⟩
    rcases h with ⟨x, rfl, fx, ok, k1, k2⟩ | ⟨nv, k⟩
    · refine .inl ⟨x, rfl, fx, fun H1 a s1 ⟨l, T2, us, ha, hl, hp, hT⟩ => ?_⟩
      refine ⟨a, _, rfl, SqT.of ha, rfl, _, _, rfl, _, _, rfl, rfl, ?_⟩
      intro y dx ny ndx ne
      refine ⟨y, dx, rfl, upd_same, fun ld lo hld hlo nll H2 _ hobj hld2 hlo2 keep => ⟨rfl, ?_⟩⟩
      have sm : Same H1 H2 := fun b o q => keep b o (ne_of_none q ny) (by rw [upd_ne (ne_of_none q ny), upd_ne (ne_of_none q ndx)]; exact q)
      have R0 : RInv CR CO CP H1 H2 y S0 dx ld lo [] [] := ⟨sm, hobj, hld2, hlo2, .nil, .nil, ny, free_of (free_of hld), free_of (free_of hlo), (fun p hp => by cases hp), (by simp [nll]), (by simp)⟩
      refine ⟨_, rfl, l, rfl, ⟨_, SqL.of (sm _ _ hl)⟩, for_list (K := K) (a := l) (xs := us) (fun i σ H' => ∃ (us' : List V) (ps : List (Addr × Addr)) (v4 v5 : Option V), σ = [some (.str x), some (.ref l), some (.ref T2), some (.ref y), v4, v5] ∧
        RInv CR CO CP H1 H' y (runS S0 ((textWords x).take i)) dx ld lo us' ps) ⟨[], [], none, none, rfl, R0⟩ (fun i σ H' _ ⟨_, _, _, _, _, R'⟩ => SqL.of (R'.same _ _ hl)) ?_ ?_⟩
      · rintro i z σ H3 hz ⟨us', ps, v4, v5, rfl, R'⟩
        obtain ⟨p, hpi, Ta, Tb, rfl, hTa, hTb⟩ := paired_get hp hz
        refine ⟨Ta, _, rfl, SqT.of (R'.same _ _ hTa), rfl, _, _, rfl, _, _, rfl, rfl, ?_⟩
        refine ⟨_, rfl, y, dx, _, rfl, R'.obj, noT _ _, _, rfl, _, rfl, ?_⟩
        have hi : i < (textWords x).length := (List.getElem?_eq_some_iff.mp hpi).1
        refine ⟨H1, y, _, dx, ld, lo, us', ps, p.1, _, rfl, R', small_mono (small_run _ i (Nat.le_of_lt hi)) (Nat.le_trans (Nat.le_of_lt hi) fx.word), runOk_at ok hpi, fun H4 us4 ps4 R4 => ?_⟩
        rw [← runS_more hpi] at R4
        exact ⟨us4, ps4, _, _, rfl, R4⟩
      · rintro σ H3 ⟨us', ps, v4, v5, rfl, R'⟩
        have el : (textWords x).take us.length = textWords x := by rw [Paired.length hp, List.take_length]
        rw [el] at R'
        have hO := R'.open_
        refine ⟨_, rfl, y, CR, dx, _, _, rfl, R'.obj, R.cR, R.rO, readF_opened _ _, !(((ps.map fun p => V.ref p.1).reverse).isEmpty), Or.inl ⟨_, SqL.of R'.lopn, rfl⟩, ?_⟩
        by_cases hst : (runS S0 (textWords x)).stack = []
        · rw [hst] at hO
          cases hO
          refine iteF ?_
          exact ⟨_, rfl, y, CR, dx, _, _, rfl, R'.obj, R.cR, R.rD, readF_data _ _, k1 hst _ _ _ (s1.trans R'.same) R'.ldat R'.data⟩
        · have hne : (!(((ps.map fun p => V.ref p.1).reverse).isEmpty)) = true := by
            cases ps with
            | nil =>
              generalize (runS S0 (textWords x)).stack = st at hst hO
              cases hO
              exact absurd rfl hst
            | cons p ps => simp
          rw [hne]
          refine iteT ?_
          exact ⟨_, rfl, (by show 1 ≤ 1000; decide), fun a na => err_made na (k2 hst _ T2 (s1.trans R'.same) (R'.same _ _ hT))⟩
    · refine .inr ⟨nv, fun H1 T1 s1 hT d H' s2 nd hd => k H1 T1 s1 hT d H' s2 nd hd⟩
end
end Kg
namespace Kg
open PySem PySem.Spec PyProof.Rows L2
theorem pe_never {X : Cx} {e : Expr} : PE X e (fun _ _ _ => False) := ⟨fun _ _ _ _ _ _ h => h.elim⟩
def spNo : Sp := fun _ _ _ _ => False
theorem fn_no {P : Program} {w : World} {K : PySem.W.Frag} {mg : Str → Option Value} {base : Heap} {CX : CXT} {k : Nat} {f : Addr} {fd : FuncData} {ps : List Str} : FnOk P w K mg base CX k f fd ps spNo :=
  ⟨fun _ _ _ _ h => h.elim, fun _ _ _ _ _ _ _ _ _ _ _ _ _ h => h.elim⟩
def EndR (H1 : Hp) (T : Addr) (x : Str) : Prop := H1 T = some (.tup [.int ((textEnd x).1 : Nat), .int ((textEnd x).2 : Nat)])
/-- a text without words, or no text: the error -/
def spDatum0 (K : PySem.W.Frag) (CB : Addr) : Sp := fun vs H Q E => ∃ v : V, vs = [v] ∧ ((∃ x, v = .str x ∧ Fits x ∧ textWords x = [] ∧ ∀ H1 T, Same H H1 → EndR H1 T x → ErrW CB H1 (.ref T) E) ∨ (NotStr K H v ∧ ∀ H1 T, Same H H1 → H1 T = some (.tup [.int 0, .int 0]) → ErrW CB H1 (.ref T) E))
def spRead0 (K : PySem.W.Frag) (CB : Addr) : Sp := fun vs H Q E => ∃ v : V, vs = [v] ∧ ((∃ x, v = .str x ∧ Fits x ∧ RunOk S0 (textWords x) ∧ ((runS S0 (textWords x)).stack = [] → (runS S0 (textWords x)).data = [] ∧ ∀ H' t, Same H H' → H' t = some (.tup []) → Q (.ref t) H') ∧
    ((runS S0 (textWords x)).stack ≠ [] → ∀ H1 T, Same H H1 → EndR H1 T x → ErrW CB H1 (.ref T) E)) ∨
  (NotStr K H v ∧ ∀ H1 T, Same H H1 → H1 T = some (.tup [.int 0, .int 0]) → ErrW CB H1 (.ref T) E))
section
variable {P : Program} {w : World} {K : PySem.W.Frag} {mg : Str → Option Value} {base : Heap} {f CB CR CO CP fE fC fD fX : Addr} {fd fdE fdC fdD fdX : FuncData}
theorem scDatumIn : FnScope ["text", "words", "end", "reader", "word", "place"] ["text"] (defScope sDatumIn) := ⟨rfl, rfl, rfl, by decide +kernel, rfl, by decide +kernel, by decide +kernel⟩
theorem ok_datum {fRI fO fW fP fS fT : Addr} {fdRI : FuncData} (F : FnP K "datum_in" "datum_in" sDatumIn f fd) (T : ET K mg CB fE) (FE : FnP K "__init__" "KeptError.__init__" sEInit fE fdE)
    (GC : FnOk P w K mg base (L2.CX P w) 5 fC fdC ["text"] (spChecked K CB)) (bC : Binds K fdC ["text"] []) (gC : mg "checked_words" = some (.ref fC)) (kC : PySem.W.keepIn K (.ref fC) = true)
    (R : RT K mg CR CO fO fW fP fS fT) (MR : Mk K CR fRI) (gR : mg "Reader" = some (.ref CR)) (FR : FnP K "__init__" "Reader.__init__" sRInit fRI fdRI) :
    FnOk P w K mg base (L2.CX P w) 6 f fd ["text"] (spDatum0 K CB) := by
  have GE : FnOk P w K mg base CX0 1 fE fdE ["self", "value"] (spEInit CB) := ok_einit FE T
  have GR : FnOk P w K mg base CX0 1 fRI fdRI ["self"] (spRInit CR) := ok_rinit FR R.cR R.rD R.rO
  have bE : Binds K fdE ["self", "value"] [] := FE.bindsN fun _ _ _ _ _ _ us hl => match us, hl with | [_, _], _ => rfl
  have bR : Binds K fdRI ["self"] [] := FR.bindsN fun _ _ _ _ _ _ us hl => match us, hl with | [_], _ => rfl
  refine F.ok scDatumIn (fun vs H Q E h => ?_) (fun cdv A outer s H vs Q E hr h => ?_)
  · obtain ⟨v, rfl, _⟩ := h
    rfl
  · obtain ⟨v, rfl, h⟩ := h
    have hr2 : Room 2 _ := hr.mono (by decide)
    refine ⟨_, pss_cons (ps_asg (pe_call (E := E) GC hr rfl gC kC bC .nil (passes_call (takes_of rfl rfl rfl rfl) (fun _ _ _ _ h => h)) (pa_cons (pv 0) pa_nil)) (pg_tup rfl (pgs_cons (pg_name (i := 1) scDatumIn.nd rfl (Or.inl rfl)) (pgs_cons (pg_name (i := 2) scDatumIn.nd rfl (Or.inl rfl)) pgs_nil))))
      (pss_cons (ps_set (i := 3) scDatumIn.nd rfl (Or.inl rfl) (pe_make0 MR GR hr2 rfl gR bR .nil pass0))
      (pss_cons (ps_for (passes_of rfl) rfl (pi_list (pv 1)) (pg_tup rfl (pgs_cons (pg_name (i := 4) scDatumIn.nd rfl (Or.inl rfl)) (pgs_cons (pg_name (i := 5) scDatumIn.nd rfl (Or.inl rfl)) pgs_nil)))
        (pss_cons ps_never (pss_one ps_never)))
      (pss_cons (ps_if (pt_not (pt_truth (pe_fld (pv 3) rfl) (by intro _; rfl))) (pss_one (ps_raise rfl (takes_of rfl rfl rfl rfl) (pmk_oex T.x T.iC T.tI GE hr2 bE .nil pass0 rfl T.gB (pa_cons (pv 2) pa_nil)))) pss_nil)
      (pss_one ps_never)))), ?_⟩
    refine ⟨_, rfl, v, rfl, ?_⟩
    rcases h with ⟨x, rfl, fx, ew, k⟩ | ⟨nv, k⟩
    · refine .inl ⟨x, rfl, fx, fun H1 a s1 ⟨l, T2, us, ha, hl, hp, hT⟩ => ?_⟩
      rw [ew] at hp
      cases hp
      refine ⟨a, _, rfl, SqT.of ha, rfl, _, _, rfl, _, _, rfl, rfl, ?_⟩
      intro y dx ny ndx ne
      refine ⟨y, dx, rfl, upd_same, fun ld lo hld hlo nll H2 _ hobj hld2 hlo2 keep => ⟨rfl, ?_⟩⟩
      have sm : Same H1 H2 := fun b o q => keep b o (ne_of_none q ny) (by rw [upd_ne (ne_of_none q ny), upd_ne (ne_of_none q ndx)]; exact q)
      refine ⟨_, rfl, l, rfl, ⟨_, SqL.of (sm _ _ hl)⟩, for_list (K := K) (a := l) (xs := []) (fun i σ H' => σ = [some (.str x), some (.ref l), some (.ref T2), some (.ref y), none, none] ∧ H' = H2) ⟨rfl, rfl⟩ (fun i σ H' _ ⟨_, e⟩ => by rw [e]; exact SqL.of (sm _ _ hl)) (fun i z σ H3 hz => by simp at hz) ?_⟩
      rintro σ H3 ⟨rfl, rfl⟩
      refine ⟨_, rfl, y, CR, dx, _, _, rfl, hobj, R.cR, R.rD, readF_data _ _, false, Or.inl ⟨_, SqL.of hld2, rfl⟩, ?_⟩
      refine iteT ?_
      exact ⟨_, rfl, (by show 1 ≤ 1000; decide), fun a na => err_made na (k _ T2 (s1.trans sm) (sm _ _ hT))⟩
    · refine .inr ⟨nv, fun H1 T1 s1 hT d H' s2 nd hd => k H1 T1 s1 hT d H' s2 nd hd⟩
theorem scRead : FnScope ["text", "datum"] ["text"] (defScope sRead) := ⟨rfl, rfl, rfl, by decide +kernel, rfl, by decide +kernel, by decide +kernel⟩
theorem ok_read (F : FnP K "read" "read" sRead f fd) (gTup : mg "tuple" = none) (gD : mg "data_in" = some (.ref fD)) (kD : PySem.W.keepIn K (.ref fD) = true) (GD : FnOk P w K mg base (L2.CX P w) 6 fD fdD ["text"] (spData K CB CP)) (bD : Binds K fdD ["text"] []) :
    FnOk P w K mg base (L2.CX P w) 7 f fd ["text"] (spRead0 K CB) := by
  refine F.ok scRead (fun vs H Q E h => ?_) (fun cdv A outer s H vs Q E hr h => ?_)
  · obtain ⟨v, rfl, _⟩ := h
    rfl
  · obtain ⟨v, rfl, h⟩ := h
    refine ⟨_, pss_one (ps_ret (pe_callTy call_tuple_of (by rfl) gTup (by decide +kernel) (pa_cons (pe_lc (own := [("datum", 1)]) (g := gName 1) (tt := tYes) rfl scRead.nd
      (pi_list (pe_call (E := E) GD hr rfl gD kD bD .nil (passes_call (takes_of rfl rfl rfl rfl) (fun _ _ _ _ h => h)) (pa_cons (pv 0) pa_nil))) (blkOk_by (own := [("datum", 1)]) (N := ["text", "datum"]) (sc := defScope sRead) (by decide +kernel))
        (fun _ _ _ _ _ => pg_name (i := 1) scRead.nd rfl (Or.inl rfl)) (fun _ _ _ _ _ => pts_nil) (fun _ _ _ _ _ => pe_never)) pa_nil))), ?_⟩
    refine ⟨_, rfl, v, rfl, ?_⟩
    rcases h with ⟨x, rfl, fx, ok, k1, k2⟩ | ⟨nv, k⟩
    · refine .inl ⟨x, rfl, fx, ok, fun hst H1 l us s1 hl hp => ?_, fun hst H1 T s1 hT => k2 hst H1 T s1 hT⟩
      obtain ⟨ed, k1⟩ := k1 hst
      rw [ed] at hp
      cases hp
      refine ⟨l, rfl, ⟨_, SqL.of hl⟩, fun A nA => lc_it (g := gName 1) (tt := tYes) (te := fun _ _ _ => False) (walk_list (K := K) (a := l) (xs := [])) (fun i H' => H' = upd H1 A (.lst [])) rfl (fun i H' _ e => by rw [e]; exact SqL.of (by rw [upd_ne (ne_of_none hl nA)]; exact hl)) (fun i z H2 H3 hi => by simp at hi) ?_⟩
      rintro H2 rfl
      refine ⟨A, [], rfl, .inl ⟨SqL.of upd_same, fun t nt => ?_⟩⟩
      exact k1 _ t (s1.trans ((same_upd nA).trans (same_upd nt))) upd_same
    · exact .inr ⟨nv, k⟩
theorem scPrinted : FnScope ["text"] ["text"] (defScope sPrinted) := ⟨rfl, rfl, rfl, by decide +kernel, rfl, by decide +kernel, by decide +kernel⟩
theorem ok_printed (F : FnP K "printed" "printed" sPrinted f fd) (gD : mg "datum_in" = some (.ref fD)) (kD : PySem.W.keepIn K (.ref fD) = true) (GD : FnOk P w K mg base (L2.CX P w) 6 fD fdD ["text"] (spDatum0 K CB)) (bD : Binds K fdD ["text"] [])
    (gX : mg "datum_text" = some (.ref fX)) (kX : PySem.W.keepIn K (.ref fX) = true) (bX : Binds K fdX ["datum"] []) : FnOk P w K mg base (L2.CX P w) 7 f fd ["text"] (spDatum0 K CB) := by
  refine F.ok scPrinted (fun vs H Q E h => ?_) (fun cdv A outer s H vs Q E hr h => ?_)
  · obtain ⟨v, rfl, _⟩ := h
    rfl
  · have GX : FnOk P w K mg base CX0 1 fX fdX ["datum"] spNo := fn_no
    have hr1 : Room 1 _ := hr.mono (by decide)
    refine ⟨_, pss_one (ps_ret (pe_call GX hr1 rfl gX kX bX .nil pass0 (pa_cons (pe_call (E := E) GD hr rfl gD kD bD .nil (passes_call (takes_of rfl rfl rfl rfl) (fun _ _ _ _ h => h)) (pa_cons (pv 0) pa_nil)) pa_nil))), ?_⟩
    obtain ⟨v, rfl, h⟩ := h
    exact ⟨_, rfl, v, rfl, h⟩
end
end Kg
namespace Kg
open PySem PySem.Spec PyProof.Rows L2 LamX
/-! ### a part of a heap, of its size -/
def keepHeap (h : Heap) (p : Addr → Bool) : Heap := PySem.W.hideAll h ((List.range h.objs.size).filter fun b => !p b)
theorem keepHeap_size (h : Heap) (p : Addr → Bool) : (keepHeap h p).objs.size = h.objs.size := PySem.W.hideAll_size _ _
theorem keepHeap_get {h : Heap} {p : Addr → Bool} {b : Addr} {o : Obj} (e : h.get? b = some o) (hp : p b = true) : (keepHeap h p).get? b = some o :=
  PySem.W.hideAll_get _ e fun hm => by
    have q := (List.mem_filter.mp hm).2
    rw [hp] at q
    cases q
theorem of_keepHeap {h : Heap} {p : Addr → Bool} {b : Addr} {o : Obj} (e : (keepHeap h p).get? b = some o) : h.get? b = some o ∧ p b = true := by
  have e1 : h.get? b = some o := PySem.W.of_hideAll _ e
  refine ⟨e1, ?_⟩
  cases hp : p b with
  | true => rfl
  | false =>
    have hm : b ∈ (List.range h.objs.size).filter fun b => !p b := List.mem_filter.mpr ⟨List.mem_range.mpr (Heap.lt_size e1), by simp [hp]⟩
    have z : (keepHeap h p).get? b = none := PySem.W.hideAll_none _ hm
    rw [z] at e
    cases e
/-- what stands at f may be called without worths: what it does is told by sp -/
def Thunk (P : Program) (w : World) (K : PySem.W.Frag) (mg : Str → Option Value) (base : Heap) (k : Nat) (f : Addr) (sp : Hp → VK → XK → Prop) : Prop :=
  ∀ (A : Around) (outer : List Env) (u1 : Shared) (H1 : Hp) (Q : VK) (E : XK), Room k A → Env0 P w K mg base A outer u1 H1 → sp H1 Q E → codeAny (model P w) A (.call (.ref f) ⟨[], []⟩) (CR (L2.CX P w) outer P w H1 u1 Q E) u1
section
variable {X : Cx} {pins : List (Addr × Obj)} {σ : L2.St} {H : Hp} {s : Shared}
/-- the lambda's own frame, entered at u1 -/
theorem lam_enter {A : Around} {outer : List Env} {E : XK} {scope : Scope} {f c' : Addr} {h1 : Heap} {tk : Nat} {B : Heap} {u1 : Shared} {HZ : Hp} (I : Inv X pins σ H s) (L : LamS X.env.scope scope) (e0 : Env0 X.prog X.w X.K X.mg B A outer u1 HZ) (hd : A.handled = none)
    (hc : ∀ x c, X.env.cells.lookup x = some c → B.get? c = s.heap.get? c) (hle : ∀ b o, X.base.get? b = some o → B.get? b = some o) (hsz : X.base.objs.size ≤ B.objs.size)
    (hns : h1.Ns u1.heap.objs.size fun y => ([] : List (Str × Value)).reverse.lookup y) (kp : ∀ b o, u1.heap.get? b = some o → h1.get? b = some o) :
    Inv (lamCx X A outer u1 HZ E scope f c') [] σ HZ { u1 with heap := h1, toks := tk } := by
  have hfree := L.has I.ok
  have cm : ∀ {y c}, (cloFrom X.env.cells scope.names []).lookup y = some c → X.env.cells.lookup y = some c := fun {y c} e => by
    rcases cloFrom_mem (PySem.mem_of_lookup e) with hm | ⟨q1, q2⟩
    · cases hm
    · obtain ⟨c1, q3⟩ := hfree _ q1 rfl
      have q3' : X.env.cells.lookup y = some c1 := q3
      have q4 : c = c1 := by rw [q2, q3'] <;> rfl
      rw [q4]
      exact q3'
  have look : ∀ {y}, scope.names.lookup y = some .free → ∃ c, (cloFrom X.env.cells scope.names []).lookup y = some c := fun {y} hl => by
    have hy : (y, NameKind.free) ∈ scope.names := PySem.mem_of_lookup hl
    exact mem_lookup (cloFrom_has (cells := X.env.cells) (acc := []) hy)
  have cellB : ∀ {x c v}, X.env.cells.lookup x = some c → s.heap.IsCell c v → h1.IsCell c v ∧ HZ c = none := fun {x c v} q ⟨o, ho, hdv⟩ => by
    have z : B.get? c = some o := (hc _ _ q).trans ho
    obtain ⟨z1, z2⟩ := e0.bs c o z
    exact ⟨⟨o, kp _ _ z1, hdv⟩, z2⟩
  have noA : ∀ b : Addr, b ∉ (lamCx X A outer u1 HZ E scope f c').ex := fun b z => absurd (show b ∈ ([] : List Addr) from z) (by simp)
  have hfun : ∀ l : List Env, u1.heap.FunFrames B l → u1.heap.FunFrames X.base l := by
    intro l
    induction l with
    | nil => intro _; trivial
    | cons env r ih =>
      intro ⟨hk, ⟨L1, o, q1, q2, q3, q4⟩, hr⟩
      refine ⟨hk, ⟨L1, o, q1, ?_, q3, q4⟩, ih hr⟩
      cases q : X.base.get? L1 with
      | none => rfl
      | some o2 =>
        have z := hle _ _ q
        rw [q2] at z
        cases z
  have hmod : L2.Mod X.K X.mg X.base := I.ok.mod
  refine ⟨⟨hmod, L.kind, rfl, rfl, Nat.le_refl _, fun y z c e1 e2 => I.ok.inj y z c (cm e1) (cm e2), fun y hy => ?_, fun y c z _ => ?_, fun _ => hd, Around.frames_deeper e0.frames, .inr ⟨rfl, rfl⟩, fun b z => absurd z (noA b), fun b o q => e0.bs b o (hle b o q),
      Nat.le_trans hsz e0.bsz, fun b _ _ => noA b, fun b z => absurd z (noA b), hfun _ e0.funs, e0.frf⟩,
    rfl, e0.bare, Un.kept kp, ⟨_, hns, fun i y v e1 e2 e3 => ?_⟩, fun y c e => ?_, e0.hok.fresh (Nat.le_refl _), fun y c e => ?_, fun q hq => absurd (show q ∈ ([] : List (Addr × Obj)) ++ [] from hq) (by simp), e0.hok.kept kp, I.len⟩
  · rcases (show scope.names.lookup y = some .cell ∨ scope.names.lookup y = some .free from hy) with hy | hy
    · exact absurd rfl (L.own _ (PySem.mem_of_lookup hy)).2
    · exact look hy
  · exact absurd (show false = true from z) Bool.false_ne_true
  · rcases (show Vis scope y from e3) with k | k | k
    · exact absurd rfl (L.own _ (PySem.mem_of_lookup k)).1
    · exact absurd rfl (L.own _ (PySem.mem_of_lookup k)).2
    · obtain ⟨m, hn, hl⟩ := I.loc
      have hvis : Vis X.env.scope y := (L.free _ (PySem.mem_of_lookup k) rfl).elim (fun q => .inr (.inl q)) (fun q => .inr (.inr q))
      obtain ⟨w1, r, q⟩ := hl i y v e1 e2 hvis
      obtain ⟨c2, h2⟩ := look k
      refine ⟨w1, r, .inr ⟨.inr k, c2, h2, ?_⟩⟩
      have c1 := cm h2
      rcases q with ⟨k1, _⟩ | ⟨_, c3, q1, z⟩
      · have k2 : X.env.scope.names.lookup y = some .local := k1
        rcases L.free _ (PySem.mem_of_lookup k) rfl with k3 | k3 <;> rw [show X.env.scope.names.lookup y = _ from k3] at k2 <;> cases k2
      · rw [c1] at q1
        cases q1
        exact (cellB c1 z).1
  · obtain ⟨w1, z⟩ := I.cell y c (cm e)
    exact ⟨w1, (cellB (cm e) z).1⟩
  · obtain ⟨w1, z⟩ := I.cell y c (cm e)
    exact (cellB (cm e) z).2
/-- a lambda that was made is a thunk -/
theorem thunk_of {B : Heap} {scope : Scope} {params : Arguments} {body : Expr} {f c' : Addr} {pm ctv : Value} {k : Nat} {tb : XK → TE} (I : Inv X pins σ H s) (L : LamS X.env.scope scope)
    (hf : B.get? f = some (PySem.W.kla_obj "<lambda>" (X.env.qual ++ "<lambda>") params body scope (cloFrom X.env.cells scope.names []) pm c' ctv))
    (hc : ∀ x c, X.env.cells.lookup x = some c → B.get? c = s.heap.get? c) (hle : ∀ b o, X.base.get? b = some o → B.get? b = some o) (hsz : X.base.objs.size ≤ B.objs.size)
    (hbind : bindArgs (PySem.W.kla_fn "<lambda>" (X.env.qual ++ "<lambda>") params body scope (cloFrom X.env.cells scope.names []) pm (.ref c') ctv) ⟨[], []⟩ = pure [])
    (hbody : ∀ (A : Around) (outer : List Env) (u1 : Shared) (H1 : Hp) (E : XK), Room k (A.deeper (lamEnv X scope u1.heap.objs.size f c')) → PE (lamCx X A outer u1 H1 E scope f c') body (tb E)) :
    Thunk X.prog X.w X.K X.mg B (k + 1) f (fun H1 Q E => H1 c' = some (CodeO c' (X.env.qual ++ "<lambda>")) ∧ tb E σ H1 Q) := by
  intro A outer u1 H1 Q E hr e0 ⟨hco, ht⟩
  have of1 := (e0.bs _ _ hf).1
  obtain ⟨⟨oc, vs, t, hoc, hdc, hvc⟩, _, _⟩ := e0.hok c' _ hco
  have lim : u1.heap.NoLimit := e0.mod.nolimit.keeps fun b o e => (e0.bs b o e).1
  refine PySem.W.kla_callFunE hr.depth of1 rfl L.co L.gen rfl ⟨c', oc, vs, t, rfl, hoc, hdc, hvc⟩ ?_
  rw [hbind]
  refine wpAny_pure (wpAny_newFunctionEnv (fun y hy => (L.own y hy).2) (fun y hy => absurd hy (by simp)) (fun h1 hns hsb => ⟨lim.fresh _ hsb, ?_⟩) L.kind)
  show codeAny _ _ (.expr body (lamEnv X scope u1.heap.objs.size f c')) _ _
  have kp : ∀ b o, u1.heap.get? b = some o → h1.get? b = some o := fun b o e => hsb.extBut b o (Nat.ne_of_lt (Heap.lt_size e)) (Heap.get?_push_of_some _ e)
  have J : Inv (lamCx X A outer u1 H1 E scope f c') [] σ H1 { u1 with heap := h1, toks := u1.toks + ([] : List (Str × Value)).length } := lam_enter I L e0 hr.hd hc hle hsz hns kp
  refine PySem.W.kla_codeExpr (wpAny_mono ((hbody _ _ u1 H1 _ (hr.deeper _)).run [] _ _ H1 Q J ht) (fun v u2 hq => ?_) fun e u2 hq => hq)
  obtain ⟨w1, H2, J2, rv, q⟩ := hq
  exact ⟨w1, H2, J2.os, J2.bare, J2.base, J2.hok, rv, q⟩
/-- a name's thunk, called -/
theorem pe_thunk {i k : Nat} {a : Str} {E : XK} {p1 p2 : Pos} (hN : X.N[i]? = some a) (hv : Vis X.env.scope a) (hr : Room k X.A) (hx : Passes (L2.CX X.prog X.w) X E) (hd : (a == ("__debug__" : Str)) = false := by decide) (hcd : (a == ("__classdict__" : Str)) = false := by decide) :
    PE X (.Call (.Name a p1) [] [] p2) (fun σ H Q => ∃ (f : Addr) (sp : Hp → VK → XK → Prop), σ[i]? = some (some (.ref f)) ∧ (∃ oc od fd sl, X.base.get? f = some ⟨oc, od, .func fd, sl⟩) ∧ Thunk X.prog X.w X.K X.mg X.base k f sp ∧ sp H Q E) := by
  refine ⟨fun pins s σ H Q I h => ?_⟩
  obtain ⟨f, sp, hs, ⟨oc, od, fd, sl, hf⟩, ht, hsp⟩ := h
  refine wpAny_Call_Name_kw (thn ((pe_var (pos := p1) (i := i) hN hv hd hcd).run pins s σ H (fun v H1 => v = .ref f ∧ H1 = H) I ⟨.ref f, hs, rfl, rfl⟩) fun u s1 ⟨v, H1, I1, r1, ev, eH⟩ => ?_)
  subst ev eH
  obtain rfl : u = Value.ref f := r1
  refine PySem.W.callWith_F0 ⟨_, _, _, _, I1.bk _ _ hf⟩ ?_
  refine wpAny_call (codeAny_mono (ht X.A X.stack s1 H1 Q E hr I1.env0 hsp) fun r u2 hq => ?_)
  cases r with
  | error e => exact hx pins σ H1 s1 e u2 I1 hq
  | ok fl =>
    cases fl with
    | ret u => exact I1.after hq
    | next => exact False.elim hq
    | brk => exact False.elim hq
    | cont => exact False.elim hq
end
end Kg
namespace Kg
open PySem PySem.Spec PyProof.Rows L2 LamX
section
variable {X : Cx} {pins : List (Addr × Obj)} {σ : L2.St} {H : Hp} {s : Shared}
theorem locals_mem (hs : X.stack = X.env :: X.outer) (hf : X.env.frame = some X.env.locals) : X.env.locals ∈ frs X.stack := by
  unfold frs
  rw [hs, List.filterMap_cons, hf]
  exact List.mem_cons_self
theorem fs_mem (hs : X.stack = X.env :: X.outer) (hf : X.env.frame = some X.env.locals) {b : Addr} (hb : b ∈ X.fs) : b ∈ frs X.stack := by
  have hb' : b ∈ X.outer.filterMap (·.frame) := hb
  unfold frs
  rw [hs, List.filterMap_cons, hf]
  exact List.mem_cons_of_mem _ hb'
/-- the ground, and with it the object at f and the cells of the frame -/
def groundP (X : Cx) (f : Addr) : Addr → Bool := fun b => (X.base.get? b).isSome || (decide (b = f) || X.env.cells.any fun q => q.2 == b)
theorem lookup_any {x : Str} {c : Addr} {l : List (Str × Addr)} (h : l.lookup x = some c) : (l.any fun q => q.2 == c) = true :=
  List.any_eq_true.mpr ⟨(x, c), PySem.mem_of_lookup h, by simp⟩
/-- the state at a call, over a greater ground -/
theorem env0_more {f : Addr} {o : Obj} (I : Inv X ((f, o) :: pins) σ H s) (hs : X.stack = X.env :: X.outer) (hfm : X.env.frame = some X.env.locals) (hfn : ∀ x, X.fn x = true) (hcu : ∀ q ∈ X.env.cells, X.env.cells.lookup q.1 = some q.2) :
    Env0 X.prog X.w X.K X.mg (keepHeap s.heap (groundP X f)) X.A X.stack s H ∧ (keepHeap s.heap (groundP X f)).get? f = some o ∧ (∀ x c, X.env.cells.lookup x = some c → (keepHeap s.heap (groundP X f)).get? c = s.heap.get? c) ∧
      (∀ b u, X.base.get? b = some u → (keepHeap s.heap (groundP X f)).get? b = some u) ∧ X.base.objs.size ≤ (keepHeap s.heap (groundP X f)).objs.size := by
  obtain ⟨f1, f2, f3, f4, f5⟩ := I.pin (f, o) (List.mem_append_right _ List.mem_cons_self)
  have up : ∀ b u, X.base.get? b = some u → (keepHeap s.heap (groundP X f)).get? b = some u := fun b u e => keepHeap_get (I.bk b u e) (by unfold groundP; rw [e]; rfl)
  have cl : ∀ x c, X.env.cells.lookup x = some c → (keepHeap s.heap (groundP X f)).get? c = s.heap.get? c := fun x c e => by
    obtain ⟨v, o2, h1, _⟩ := I.cell x c e
    rw [h1]
    exact keepHeap_get h1 (by unfold groundP; rw [lookup_any e]; simp)
  have mo : L2.Mod X.K X.mg (keepHeap s.heap (groundP X f)) := by
    obtain ⟨m1, m2, ⟨mb, m3, m4⟩, m5⟩ := I.mod
    exact ⟨m1.keeps up, m2.keeps up, ⟨mb, m3.keeps up, m4⟩, m5.keeps up⟩
  have sz : X.base.objs.size ≤ s.heap.objs.size := Nat.le_trans I.ok.bsz I.sz
  have nfr : ∀ b ∈ frs X.stack, (keepHeap s.heap (groundP X f)).get? b = none := fun b hb => by
    cases e : (keepHeap s.heap (groundP X f)).get? b with
    | none => rfl
    | some u =>
      obtain ⟨e1, e2⟩ := of_keepHeap e
      exfalso
      obtain ⟨nb, o2, q1, q2⟩ := I.stack.mem hb
      unfold groundP at e2
      rw [nb] at e2
      rcases (show b = f ∨ (X.env.cells.any fun q => q.2 == b) = true by simpa using e2) with z | z
      · rcases List.mem_cons.mp (I.stkSub b hb) with z2 | z2
        · exact f3 (z.symm.trans z2)
        · exact f4 (by rw [← z]; exact z2)
      · obtain ⟨q, hq, hq2⟩ := List.any_eq_true.mp z
        have eq2 : q.2 = b := by simpa using hq2
        have hl := hcu q hq
        rw [eq2] at hl
        rcases List.mem_cons.mp (I.stkSub b hb) with z2 | z2
        · exact I.cne _ _ hl z2
        · obtain ⟨_, o3, q3, _⟩ := I.ok.funs.mem z2
          exact absurd (Nat.lt_of_lt_of_le (Heap.lt_size q3) (I.ok.cab _ _ (hfn _) hl)) (Nat.lt_irrefl _)
  have fr : ∀ l : List Env, (∀ b ∈ frs l, (keepHeap s.heap (groundP X f)).get? b = none) → s.heap.FunFrames X.base l → s.heap.FunFrames (keepHeap s.heap (groundP X f)) l := by
    intro l
    induction l with
    | nil => intro _ _; trivial
    | cons env r ih =>
      intro hn ⟨hk, ⟨L1, o1, q1, q2, q3, q4⟩, hr⟩
      refine ⟨hk, ⟨L1, o1, q1, hn L1 ?_, q3, q4⟩, ih (fun b hb => hn b ?_) hr⟩
      · unfold frs
        rw [List.filterMap_cons, q1]
        exact List.mem_cons_self
      · unfold frs
        rw [List.filterMap_cons, q1]
        exact List.mem_cons_of_mem _ hb
  refine ⟨⟨I.ok.frames, mo, fun b u e => ?_, by rw [keepHeap_size]; exact Nat.le_refl _, fr _ nfr I.stack, I.stkFree, I.hok, I.bare⟩, keepHeap_get f1 (by unfold groundP; simp), cl, up, by rw [keepHeap_size]; exact sz⟩
  obtain ⟨e1, e2⟩ := of_keepHeap e
  refine ⟨e1, ?_⟩
  unfold groundP at e2
  rcases (show (X.base.get? b).isSome = true ∨ b = f ∨ (X.env.cells.any fun q => q.2 == b) = true by simpa using e2) with z | z | z
  · obtain ⟨u2, hu⟩ := Option.isSome_iff_exists.mp z
    exact (I.bs b u2 hu).2
  · rw [z]
    exact f2
  · obtain ⟨q, hq, hq2⟩ := List.any_eq_true.mp z
    have eq2 : q.2 = b := by simpa using hq2
    have hl := hcu q hq
    rw [eq2] at hl
    exact I.freeC _ _ hl
/-- a def's promise, held where no repr is under way -/
structure FnG (P : Program) (w : World) (K : PySem.W.Frag) (mg : Str → Option Value) (base : Heap) (CX : CXT) (k : Nat) (f : Addr) (fd : FuncData) (ps : List Str) (sp : Sp) : Prop where
  many : ∀ vs H Q E, sp vs H Q E → vs.length = ps.length
  go : ∀ (A : Around) (outer : List Env) (s : Shared) (H : Hp) (args : Args) (us : List Value) (vs : List V) (Q : VK) (E : XK), Room k A → A.guards = some [] → Env0 P w K mg base A outer s H → BindsTo s fd args (ps.zip us) → Vals vs us → sp vs H Q E →
    codeAny (model P w) A (.call (.ref f) args) (L2.CR CX outer P w H s Q E) s
theorem FnG.of {P : Program} {w : World} {K : PySem.W.Frag} {mg : Str → Option Value} {base : Heap} {CX : CXT} {k : Nat} {f : Addr} {fd : FuncData} {ps : List Str} {sp : Sp} (F : FnOk P w K mg base CX k f fd ps sp) : FnG P w K mg base CX k f fd ps sp :=
  ⟨F.len, fun A outer s H args us vs Q E hr _ => F.run A outer s H args us vs Q E hr⟩
/-- what x(lambda: body, ..) asks: the def's promise, over any ground on which the lambda stands -/
def tLamArg (X : Cx) (T : List (Addr × Str)) (k : Nat) (sp : Heap → Sp) (E : XK) (tb : XK → TE) (ta : TA) : TE := fun σ H Q => Tabs T H ∧ ∀ (H1 : Hp) (f c' : Addr), ExtN H H1 → Tabs T H1 → H1 c' = some (CodeO c' (X.env.qual ++ "<lambda>")) → ta σ H1 fun vs H2 =>
  ∀ B : Heap, (∃ oc od fd sl, B.get? f = some ⟨oc, od, .func fd, sl⟩) → Thunk X.prog X.w X.K X.mg B (k + 1) f (fun H3 Q E => H3 c' = some (CodeO c' (X.env.qual ++ "<lambda>")) ∧ tb E σ H3 Q) → sp B (.ref f :: vs) H2 Q E
theorem pe_lamArg {T : List (Addr × Str)} {CX : CXT} {x : Str} {g c P : Addr} {k j : Nat} {fd : FuncData} {ps : List Str} {sp : Heap → Sp} {E : XK} {params : Arguments} {body : Expr} {scope : Scope} {es : List Expr} {tb : XK → TE} {ta : TA} {p lpos pos : Pos}
    (F : ∀ B : Heap, X.K.In B → B.Ns mainGlobals X.mg → FnG X.prog X.w X.K X.mg B CX j g fd ps (sp B)) (hr : Room j X.A) (hgu : X.A.guards = some []) (hg : Gl X x) (hm : X.mg x = some (.ref g)) (hk : PySem.W.keepIn X.K (.ref g) = true) (hb : L2.Binds X.K fd ps []) (hx : Passes CX X E)
    (TB : TabB X.base X.mg c P) (hcode : X.env.code = .ref c) (hmT : (P, X.env.qual ++ "<lambda>") ∈ T) (hu : ∀ p ∈ T, p.1 = P → p.2 = X.env.qual ++ "<lambda>") (L : LamS X.env.scope scope) (hdef : defaultsOf params X.env = ([], []))
    (hbind : ∀ (q : Str) (cl : List (Str × Addr)) (pm cv ctv : Value), bindArgs (PySem.W.kla_fn "<lambda>" q params body scope cl pm cv ctv) ⟨[], []⟩ = pure [])
    (hbody : ∀ (A : Around) (outer : List Env) (u1 : Shared) (H1 : Hp) (E : XK) (f c' : Addr), Room k (A.deeper (lamEnv X scope u1.heap.objs.size f c')) → PE (lamCx X A outer u1 H1 E scope f c') body (tb E))
    (ha : PA X es ta) (hs : X.stack = X.env :: X.outer) (hfm : X.env.frame = some X.env.locals) (hfn : ∀ x, X.fn x = true) (hcu : ∀ q ∈ X.env.cells, X.env.cells.lookup q.1 = some q.2)
    (hdb : (x == ("__debug__" : Str)) = false := by decide) (he : starEach (.Lambda params body scope lpos :: es) X.env = (false, eval (.Lambda params body scope lpos) X.env) :: starEach es X.env := by rfl) (hpl : (backTo pos (starEach es X.env)).any (·.1) = false := by rfl) :
    PE X (.Call (.Name x p) (.Lambda params body scope lpos :: es) [] pos) (tLamArg X T k sp E tb ta) := by
  refine ⟨fun pins s σ H Q I h => ?_⟩
  obtain ⟨hT, h⟩ := h
  refine wpAny_Call_Name_kw (ld_glob I hg hm ?_ hdb)
  refine PySem.W.callWith_K (h₀ := X.base) I.ok.mod.kin hk ?_ he hpl
  rw [he]
  show wpAny _ _ (spliced ((false, eval (.Lambda params body scope lpos) X.env) :: backTo pos (starEach es X.env))) _ _ s
  refine Calls.spliced_cons (lam_make2 I TB hcode hmT hu hT hdef (L.has I.ok) fun f c' pm' ctv H1 s1 I1 eN T1 hf hf0 hfr hco => ?_)
  have I1p : Inv X ((f, PySem.W.kla_obj "<lambda>" (X.env.qual ++ "<lambda>") params body scope (cloFrom X.env.cells scope.names []) pm' c' ctv) :: pins) σ H1 s1 := I1.pins_of fun q hq => by
    rcases List.mem_cons.mp hq with e | hq
    · rw [e]
      exact ⟨hf, hf0, fun z => hfr (by rw [show f = X.env.locals from z]; exact locals_mem hs hfm), fun z => hfr (fs_mem hs hfm z), fun v z => nomatch z⟩
    · exact I1.pin q (List.mem_append_right _ hq)
  refine thn (ha.run pos _ s1 σ H1 _ I1p (h H1 f c' eN T1 hco)) fun us s2 ⟨vs, H2, I2, r2, q⟩ => ⟨I2.kIn, ?_⟩
  obtain ⟨e0, bf, bc, bb, bz⟩ := env0_more I2 hs hfm hfn hcu
  have th := thunk_of (k := k) (tb := tb) I2 L bf bc bb bz (hbind _ _ _ _ _) (fun A outer u1 H1 E hr => hbody A outer u1 H1 E f c' hr)
  have hq := q _ ⟨_, _, _, _, bf⟩ th
  have Fb := F _ e0.mod.kin e0.mod.glob
  have rv : Vals (V.ref f :: vs) (Value.ref f :: us) := .cons rfl r2
  have hl : (Value.ref f :: us).length = ps.length := by
    rw [← rv.length]
    exact Fb.many _ _ _ _ hq
  have hb2 : BindsTo s2 fd ⟨Value.ref f :: us, []⟩ (ps.zip (Value.ref f :: us)) := by
    have z := hb s2 (Value.ref f :: us) I2.kIn (by rw [List.append_nil]; exact hl)
    rw [List.append_nil] at z
    exact z
  refine wpAny_call (codeAny_mono (Fb.go X.A X.stack s2 H2 ⟨Value.ref f :: us, []⟩ (Value.ref f :: us) (V.ref f :: vs) Q E hr hgu e0 hb2 rv hq) fun r u2 hq2 => ?_)
  cases r with
  | error e => exact hx _ σ H2 s2 e u2 I2 hq2
  | ok fl =>
    cases fl with
    | ret u =>
      obtain ⟨v, H3, I3, rv3, q3⟩ := I2.after hq2
      exact ⟨v, H3, I3.pins_of (fun q hq => I3.pin q (List.mem_append_right _ (List.mem_cons_of_mem _ hq))), rv3, q3⟩
    | next => exact False.elim hq2
    | brk => exact False.elim hq2
    | cont => exact False.elim hq2
end
end Kg
namespace Kg
open PySem PySem.Spec PyProof.Rows L2 LamX
/-- an exception that was caught, held as a worth: of the class cls, its own dict at d -/
def exv (a : Addr) (cls : Value) (d : Option Addr) : HO := .ext fun h => ∃ oe vs, h.get? a = some oe ∧ Zc cls d oe ∧ oe.data = .fields vs
theorem exv_ok {P : Program} {w : World} {H : Hp} {h : Heap} {a : Addr} {cls : Value} {d : Option Addr} {oe : Obj} {vs : Array Value} (e : h.get? a = some oe) (z : Zc cls d oe) (q : oe.data = .fields vs) : ObjOk P w H h a (exv a cls d) :=
  ⟨⟨oe, vs, e, z, q⟩, ⟨oe, e⟩, fun _ _ ⟨o, v, q, r⟩ k => ⟨o, v, k o q, r⟩⟩
section
variable {X : Cx} {pins : List (Addr × Obj)} {σ : L2.St} {H : Hp} {s : Shared}
theorem inv_trackX {a : Addr} {oe : Obj} {vs : Array Value} {cls : Value} {d : Option Addr} (I : Inv X ((a, oe) :: pins) σ H s) (n0 : X.s_0.heap.get? a = none) (hz : Zc cls d oe) (hdt : oe.data = .fields vs) (np : ∀ p ∈ X.pn ++ pins, p.1 ≠ a) :
    Inv X pins σ (upd H a (exv a cls d)) s := by
  obtain ⟨f1, f2, f3, f4, f5⟩ := I.pin (a, oe) (List.mem_append_right _ List.mem_cons_self)
  have f1' : s.heap.get? a = some oe := f1
  have nz : ∀ b u, X.s_0.heap.get? b = some u → b ≠ a := fun b u e z => by
    rw [z, n0] at e
    cases e
  refine ⟨I.ok, I.os, I.bare, ⟨I.base.keep, I.base.slot, fun b u e n hx => ?_, I.base.there, fun b xs e => ?_, fun b u v e => ?_, fun b ts e => ?_⟩, I.loc, I.cell, ?_, fun x c e => ?_, fun p hp => ?_, fun b u e => ?_, I.len⟩
  · rw [upd_ne (nz b u e)]
    exact I.base.free b u e n hx
  · have q := I.base.tups b xs e
    rw [upd_ne (ne_of_none q f2)]
    exact q
  · have q := I.base.frzs b u v e
    rw [upd_ne (ne_of_none q f2)]
    exact q
  · obtain ⟨m, q⟩ := I.base.tbls b ts e
    exact ⟨m, by rw [upd_ne (ne_of_none q f2)]; exact q⟩
  · rw [upd_ne (Ne.symm f3)]
    exact I.free
  · have nc : c ≠ a := fun z => by
      obtain ⟨v, o2, q1, q2⟩ := I.cell x c e
      rw [z, f1'] at q1
      cases q1
      rw [hdt] at q2
      cases q2
    rw [upd_ne nc]
    exact I.freeC x c e
  · have hp2 : p ∈ X.pn ++ (a, oe) :: pins := by
      rcases List.mem_append.mp hp with z | z
      · exact List.mem_append_left _ z
      · exact List.mem_append_right _ (List.mem_cons_of_mem _ z)
    obtain ⟨q1, q2, q3, q4, q5⟩ := I.pin p hp2
    exact ⟨q1, by rw [upd_ne (np p hp)]; exact q2, q3, q4, q5⟩
  · by_cases hb : b = a
    · rw [hb, upd_same] at e
      cases e
      rw [hb]
      exact exv_ok f1' hz hdt
    · rw [upd_ne hb] at e
      exact (I.hok b u e).stay (fun _ _ _ q => q) (fun c q => by rw [upd_ne (ne_of_none q f2)]; exact q) fun c xs q => by rw [upd_ne (ne_of_none q f2)]; exact q
end
/-- what 'except x as n: .. return ..' wishes of an exception of the body; the exception stays, as a worth -/
def wVal (K : PySem.W.Frag) (c : Value) (i : Nat) (ts : Addr → Value → Option Addr → TS) (Wout : WX) (D : Ends) : WX := fun cls d σ H =>
  ∃ b, PySem.W.exmOne K cls c = some b ∧ (b = true → ∀ a, H a = none → ts a cls d { nx := fun _ _ => False, rt := fun v H2 => H2 a = none → D.rt v (upd H2 a (exv a cls d)), bk := fun _ _ => False, ct := fun _ _ => False } (σ.set i (some (.ref a))) H) ∧ (b = false → Wout cls d σ H)
section
variable {X : Cx} {x n : Str} {c : Value} {i : Nat} {body suite : List Stmt} {b₀ : Stmt} {np pos pos' : Pos} {tb : WX → TS} {ts : Addr → Value → Option Addr → TS} {Wout : WX}
theorem ps_try_val (hs : X.stack = X.env :: X.outer) (hfr0 : X.env.frame = some X.env.locals) (hex : X.ex = []) (hN : X.N.Nodup) (hi : X.N[i]? = some n) (hln : X.env.kindOf n = some .local) (hc : Names X x c) (tk : Takes X Wout)
    (hb : ∀ (W : WX) (pn : List (Addr × Obj)) (xe : Value → Shared → Prop), Takes (X.tr pn xe) W → PassesOwn (model X.prog X.w) X.A X.env xe → PSs (X.tr pn xe) body (tb W))
    (hsu : ∀ (a : Addr) (oe : Obj) (cls : Value) (d : Option Addr) (pn : List (Addr × Obj)), Zc cls d oe → (∃ vs, oe.data = .fields vs) → PSs (X.suite a ((a, oe) :: pn)) (b₀ :: suite) (ts a cls d)) :
    PS X (.Try body [.ExceptHandler (some (.Name x np)) (some n) (b₀ :: suite) pos'] [] [] pos) (fun D σ H => tb (wVal X.K c i ts Wout D) D σ H) := by
  refine ⟨fun pins s σ H D I h => ?_⟩
  have ok := I.ok
  have hstk : X.A.frames = some (X.env :: X.outer) := by rw [ok.frames, hs]
  have hloc : Loc X.env.scope n := .inl hln
  refine wpAny_Try_except ?_
  refine wpAny_mono ((hb (wVal X.K c i ts Wout D) (X.pn ++ pins) (fun e u1 => wpAny (model X.prog X.w) X.A (noteFrame e X.env) (fun _ u2 => wpAny (model X.prog X.w) X.A (setFlight e none) (fun _ u3 =>
    wpAny (model X.prog X.w) X.A (handleBy e X.env [.ExceptHandler (some (.Name x np)) (some n) (b₀ :: suite) pos']) (SP X pins D) X.xe u3) X.xe u2) X.xe u1) (fun u u0 air => ?_) PassesOwn.looking).run [] s σ H D (I.toTry _) h) (fun f u1 hsp => ?_) (fun e u1 he => he)
  · obtain ⟨a, B, sI, pins', σ', H', cls, d, rfl, J', nb, up, sky, na, os, ag, b, hb1, hyes, hno⟩ := air
    have J : Inv X pins σ' H' sI := J'.ofTry ok
    have sky2 : Sky B (X.env :: X.outer) a (Zc cls d) X.env.locals u0.heap := by rw [← hs]; exact sky
    show wpAny (model X.prog X.w) X.A (noteFrame (.ref a) X.env) _ _ _
    refine Sky.land Zc.steady hstk hfr0 sky2 fun h3 fl3 up3 => ?_
    have J3 : Inv X pins σ' H' { u0 with heap := h3 } := J.landed nb fl3.1 (up.trans up3) os ag
    obtain ⟨oe3, vs3, he3, hz3, hd3⟩ := fl3.there
    have Bno : B.get? a = none := fl3.2.1
    have nfr : a ∉ frs (X.env :: X.outer) := fun hm => by
      obtain ⟨_, o2, e2, hnf⟩ := fl3.2.2.1.mem hm
      rw [he3] at e2
      cases e2
      exact hnf _ hd3
    have nL : a ≠ X.env.locals := fun z => nfr (List.mem_filterMap.mpr ⟨X.env, List.mem_cons_self, by rw [hfr0, z]⟩)
    have nF : a ∉ X.fs := fun hm => by
      obtain ⟨e, q1, q2⟩ := List.mem_filterMap.mp hm
      exact nfr (List.mem_filterMap.mpr ⟨e, List.mem_cons_of_mem _ q1, q2⟩)
    have notIn : ∀ b o, sI.heap.get? b = some o → b ∉ frs X.stack → b ≠ a := fun b o e1 e2 z => by
      have q := nb b o e1 e2
      rw [z, Bno] at q
      cases q
    have stkN : ∀ b, b ∉ frs X.stack ∨ b ∈ frs (X.env :: X.outer) := fun b => by
      by_cases q : b ∈ frs X.stack
      · exact .inr (by rw [← hs]; exact q)
      · exact .inl q
    have n0 : X.s_0.heap.get? a = none := by
      cases e : X.s_0.heap.get? a with
      | none => rfl
      | some o =>
        obtain ⟨o2, e2⟩ := J.base.there a o e (by rw [hex]; exact fun z => nomatch z)
        rcases stkN a with z | z
        · exact absurd rfl (notIn a o2 e2 z)
        · exact absurd z nfr
    have npin : ∀ p ∈ X.pn ++ pins, p.1 ≠ a := fun p hp z => by
      obtain ⟨e1, _, _, _, _⟩ := J.pin p hp
      rcases stkN p.1 with q | q
      · exact notIn p.1 p.2 e1 q z
      · exact nfr (by rw [← z]; exact q)
    have S3 := J3.suite he3 hd3 na nL nF
    refine wpAny_handleBy_cons (codeAny_handlers_test ?_) (by intro q; cases q)
    have LT : PySem.W.Looks (model X.prog X.w) h3 (typeOf (.ref a)) cls := fun A Q E s k q => wpAny_typeOf_ref (k _ _ he3) (by rw [hz3.1]; exact q)
    have LM := PySem.W.exm_one (M := model X.prog X.w) (J3.kIn) LT hb1
    have test : ∀ {Q : Value → Shared → Prop} {E : Value → Shared → Prop}, Q c { u0 with heap := h3 } → wpAny (model X.prog X.w) (X.A.mark (some (.ref a))) (eval (.Name x np) X.env) Q E { u0 with heap := h3 } := fun {Q E} q => by
      obtain ⟨hg, hdbg, hm | ⟨hm, hv, hnn⟩⟩ := hc
      · exact ld_glob (X := X.suite a ((a, oe3) :: (X.pn ++ pins))) S3 hg hm q hdbg
      · exact ld_blt (X := X.suite a ((a, oe3) :: (X.pn ++ pins))) S3 hg hm hv q hnn hdbg
    refine test (LM.here ?_)
    cases b with
    | true =>
      refine codeAny_handlers_suite_as ?_
      refine HandSPX.lands_againZ fl3 fun h4 fl4 up4 => ?_
      have J4 : Inv X pins σ' H' { u0 with heap := h4 } := J.landed nb fl4.1 ((up.trans up3).trans up4) os ag
      obtain ⟨oe4, vs4, he4, hz4, hd4⟩ := fl4.there
      have S4 := J4.suite he4 hd4 na nL nF
      refine store_ok (X := X.suite a ((a, oe4) :: (X.pn ++ pins))) (v := .ref a) S4 hN hi hloc rfl (fun s5 S5 => ?_) (.inr hln)
      refine wpAny_mono ((hsu a oe4 cls d (X.pn ++ pins) hz4 ⟨_, hd4⟩).run [] s5 _ H' _ S5 (hyes rfl a na)) (fun f u6 hsp => ?_) (fun _ _ z => False.elim z)
      cases f with
      | next =>
        obtain ⟨_, _, _, q6⟩ := hsp
        exact q6.elim
      | brk =>
        obtain ⟨_, _, _, q6⟩ := hsp
        exact q6.elim
      | cont =>
        obtain ⟨_, _, _, q6⟩ := hsp
        exact q6.elim
      | ret u =>
        obtain ⟨v6, σ6, H6, S6, r6, q6⟩ := hsp
        have P6 := S6.pin (a, oe4) (List.mem_append_left _ List.mem_cons_self)
        have J6 : Inv X ((a, oe4) :: pins) σ6 H6 u6 := (S6.unsuite ok).pins_of fun p hp => by
          rcases List.mem_cons.mp hp with e | hp
          · rw [e]
            exact P6
          · exact (S6.unsuite ok).pin p (List.mem_append_right _ hp)
        refine gone_ok J6 hN hi hln fun s7 J7 => ?_
        exact ⟨_, _, _, inv_trackX J7 n0 hz4 hd4 npin, r6, q6 P6.2.1⟩
    | false =>
      show wpAny _ X.A (handleBy (.ref a) X.env []) _ _ _
      refine wpAny_handleBy_nil ?_
      obtain ⟨k1, k2, k3, oe, vs, T, oT, ts', he, hz, hd, h1, hr⟩ := id fl3
      unfold PySem.passOn
      refine wpAny_bind (wpAny_field he hd h1 ?_)
      rw [if_neg (show ¬ ((Value.ref T == Value.none) = true) from by simp)]
      have fin : wpAny (model X.prog X.w) X.A (setFlight (.ref a) X.env.frame) (fun _ s4 => wpAny (model X.prog X.w) X.A (throw (.ref a) : Sem Flow) (SP X pins D) X.xe s4) X.xe { u0 with heap := h3 } := by
        rw [hfr0]
        refine HandSPX.setFlight_upZ fl3 fun h4 hh4 up4 => wpAny_throw (tk _ _ ?_)
        exact ⟨a, B, sI, pins, σ', H', cls, d, rfl, J, nb, (up.trans up3).trans up4, .inr (.inr (by rw [hs]; exact hh4)), na, os, ag, hno rfl⟩
      first
        | exact wpAny_bind (wpAny_pure (wpAny_bind fin))
        | exact wpAny_bind fin
  · cases f with
    | next =>
      obtain ⟨z1, z2, z3, q⟩ := hsp
      exact wpAny_execs_nil ⟨z1, z2, z3.ofTry ok, q⟩
    | brk =>
      obtain ⟨z1, z2, z3, q⟩ := hsp
      exact ⟨z1, z2, z3.ofTry ok, q⟩
    | cont =>
      obtain ⟨z1, z2, z3, q⟩ := hsp
      exact ⟨z1, z2, z3.ofTry ok, q⟩
    | ret u =>
      obtain ⟨v, z1, z2, z3, r, q⟩ := hsp
      exact ⟨v, z1, z2, z3.ofTry ok, r, q⟩
end
end Kg
namespace Kg
open PySem PySem.Spec PyProof.Rows L2 LamX
/-! ### an error that is held as a worth: its class, its field, its repr -/
/-- what isinstance and a field ask of the class at C -/
structure XvC (K : PySem.W.Frag) (C : Addr) : Prop where
  x : L2.ExcC K C
  f : L2.XfC K C
theorem exv_inst {P : Program} {w : World} {H : Hp} {h : Heap} {a d C : Addr} {fs : List (Str × V)} (hok : HOk P w H h) (e1 : H a = some (exv a (.ref C) (some d))) (e2 : H d = some (.xd fs)) :
    ∃ (oe od : Obj) (mA : Str → Option Value), PySem.W.InstAt h a oe C (some od) ∧ (∀ n, PySem.W.lookIn n od = some (mA n)) ∧ ∀ n, RelO (fs.lookup n) (mA n) := by
  obtain ⟨⟨oe, vs, g1, g2, g3⟩, _, _⟩ := hok a _ e1
  obtain ⟨mA, hns, hr⟩ := (show ObjOk P w H h d (.xd fs) from hok d _ e2)
  obtain ⟨od, ho, hl⟩ := lookIn_ns hns
  exact ⟨oe, od, mA, ⟨g1, g2.1, by unfold PySem.W.notCls; rw [g3] <;> rfl, by rw [g2.2]; exact ho⟩, hl, hr⟩
def rIsv (K : PySem.W.Frag) : List V → Hp → VK → Prop := fun xs H Q => ∃ (a d C : Addr) (fs : List (Str × V)) (c : V) (u : Value) (b : Bool), xs = [.ref a, c] ∧ H a = some (exv a (.ref C) (some d)) ∧ H d = some (.xd fs) ∧ XvC K C ∧ ClsV c u ∧ PySem.W.kitOne K (.ref C) u = some b ∧ Q (.bl b) H
section
variable {X : Cx}
theorem call_isv : CallR X (.builtin "isinstance") (rIsv X.K) := by
  intro pins s σ H xs us Q I r h
  obtain ⟨a, d, C, fs, c, u, b, rfl, e1, e2, T, k, e, q⟩ := h
  obtain ⟨u1, u2, rfl, r1, r2⟩ := vals2 r
  obtain rfl := k.eq r2
  cases (show u1 = Value.ref a from r1)
  obtain ⟨oe, od, mA, J, _, _⟩ := exv_inst I.hok e1 e2
  have hc : (PySem.W.clsIn X.K C).isSome = true := by
    obtain ⟨cd, hc, _⟩ := PySem.W.any_some T.x.hd
    rw [hc]
    rfl
  exact PySem.W.kia_one (PySem.W.kitx_exc hc T.x.hg T.x.hk T.x.hs T.x.ha T.x.hn T.x.ht T.x.hm) I.kIn J e (fun z => nomatch z) fun tk => ⟨.bl b, H, I.tok tk, rfl, q⟩
def tXv (K : PySem.W.Frag) (n : Str) (te : TE) : TE := fun σ H Q => te σ H fun x H1 => ∃ (a d C : Addr) (fs : List (Str × V)) (v : V), x = .ref a ∧ H1 a = some (exv a (.ref C) (some d)) ∧ H1 d = some (.xd fs) ∧ XvC K C ∧ PySem.W.findIn K (.ref C) n = some none ∧ fs.lookup n = some v ∧ Q v H1
theorem pe_xv {e : Expr} {te : TE} {pos : Pos} {n : Str} (he : PE X e te) (hb : attributeBase e n X.env (eval e X.env) = eval e X.env := by rfl) : PE X (.Attribute e n pos) (tXv X.K n te) := by
  refine ⟨fun pins s σ H Q I h => ?_⟩
  refine attr_of hb (thn (he.run pins s σ H _ I h) fun u s1 hh => ?_)
  obtain ⟨x, H1, I1, rx, a, d, C, fs, v, rfl, e1, e2, T, hno, hl, q⟩ := hh
  obtain rfl : u = Value.ref a := rx
  obtain ⟨oe, od, mA, J, lk, hr⟩ := exv_inst I1.hok e1 e2
  obtain ⟨u, hu, ru⟩ := RelO.some_of (v := v) (o := mA n) (by rw [← hl]; exact hr n)
  exact HandSPX.exc_get I1.kIn J T.f.ga T.f.gg T.f.exC (PySem.W.findObj_own T.f.hdC hno rfl (by rw [lk, hu])) (handed_of ru) ⟨v, H1, I1.tok _, ru, q⟩
/-- repr of a tuple of two whole numbers, where no repr is under way -/
def two (i j : Int) : PyData := .tuple [.int i, .int j]
def rRep2 : List V → Hp → VK → Prop := fun xs H Q => ∃ (t : Addr) (i j : Int), xs = [.ref t] ∧ H t = some (.tup [.int i, .int j]) ∧ i.natAbs.log2 < 1920 ∧ j.natAbs.log2 < 1920 ∧ (two i j).shown.length ≤ sizeLine ∧ Q (.str (two i j).shown) H
theorem call_rep2 {k : Nat} (hr : Room k X.A) (hg : X.A.guards = some []) : CallR X (.builtin "repr") rRep2 := by
  intro pins s σ H xs us Q I r h
  obtain ⟨t, i, j, rfl, ht, zi, zj, zl, q⟩ := h
  obtain ⟨u1, rfl, r1⟩ := vals1 r
  cases (show u1 = Value.ref t from r1)
  obtain ⟨_, its, rv, o, h1, h2, n, h3⟩ := (show ObjOk X.prog X.w H s.heap t (.tup [.int i, .int j]) from I.hok t _ ht)
  cases rv with
  | cons ra rr =>
    cases rr with
    | cons rb rr =>
      cases rr
      obtain ⟨ta, rfl⟩ := ra
      obtain ⟨tb, rfl⟩ := rb
      have rd : Reads s.heap (.ref t) (two i j) ([] ++ ([] ++ [])) := .tuple h1 h2 h3 (.cons (.int _ _) (.cons (.int _ _) .nil))
      have sh : (two i j).showable = true := by
        unfold two PyData.showable PyData.showableAll PyData.showableAll PyData.showableAll PyData.showable
        simp [zi, zj]
      have un := hr.un
      have dp : (two i j).depth ≤ 100 := by
        unfold two
        simp [PyData.depth, PyData.depthAll]
      refine repr_of_reads' rd sh (fun z => by simp [two, PyData.hasDict, PyData.hasDictAll] at z) hg (by omega) (fun b o e => e) (fun h' u tk kp => ?_) zl
      exact ⟨.str _, H, I.kept (t' := tk) kp, ⟨u, rfl⟩, q⟩
end
end Kg
namespace Kg
open PySem PySem.Spec PyProof.Rows L2 LamX
section
variable {X : Cx}
def tThunk (P : Program) (w : World) (K : PySem.W.Frag) (mg : Str → Option Value) (B : Heap) (k i : Nat) (E : L2.St → XK) : TE := fun σ H Q => ∃ (f : Addr) (sp : Hp → VK → XK → Prop), σ[i]? = some (some (.ref f)) ∧ (∃ oc od fd sl, B.get? f = some ⟨oc, od, .func fd, sl⟩) ∧ Thunk P w K mg B k f sp ∧ sp H Q (E σ)
/-- a name's thunk, called within a try -/
theorem pe_thunkS (P : Program) (w : World) (K : PySem.W.Frag) (mg : Str → Option Value) (B : Heap) {i k : Nat} {a : Str} {E : L2.St → XK} {p1 p2 : Pos} (hN : X.N[i]? = some a) (hv : Vis X.env.scope a) (hr : Room k X.A) (hx : ∀ σ, PassesAt (L2.CX X.prog X.w) X σ (E σ)) (hd : (a == ("__debug__" : Str)) = false := by decide) (hcd : (a == ("__classdict__" : Str)) = false := by decide) (e1 : X.prog = P := by rfl) (e2 : X.w = w := by rfl) (e3 : X.K = K := by rfl) (e4 : X.mg = mg := by rfl) (e5 : X.base = B := by rfl) :
    PE X (.Call (.Name a p1) [] [] p2) (tThunk P w K mg B k i E) := by
  subst e1 e2 e3 e4 e5
  refine ⟨fun pins s σ H Q I h => ?_⟩
  obtain ⟨f, sp, hs, ⟨oc, od, fd, sl, hf⟩, ht, hsp⟩ := h
  refine wpAny_Call_Name_kw (thn ((pe_var (pos := p1) (i := i) hN hv hd hcd).run pins s σ H (fun v H1 => v = .ref f ∧ H1 = H) I ⟨.ref f, hs, rfl, rfl⟩) fun u s1 ⟨v, H1, I1, r1, ev, eH⟩ => ?_)
  subst ev eH
  obtain rfl : u = Value.ref f := r1
  refine PySem.W.callWith_F0 ⟨_, _, _, _, I1.bk _ _ hf⟩ ?_
  refine wpAny_call (codeAny_mono (ht X.A X.stack s1 H1 Q (E σ) hr I1.env0 hsp) fun r u2 hq => ?_)
  cases r with
  | error e => exact hx σ pins H1 s1 e u2 I1 hq
  | ok fl =>
    cases fl with
    | ret u => exact I1.after hq
    | next => exact False.elim hq
    | brk => exact False.elim hq
    | cont => exact False.elim hq
end
abbrev sCaught : Stmt := top 49
abbrev sIsRefused : Stmt := top 50
abbrev sLawWord : Stmt := top 52
/-- what is asked of a thunk, so that its call may be caught -/
def spCaught (P : Program) (w : World) (K : PySem.W.Frag) (mg : Str → Option Value) (CK : Addr) (B : Heap) : Sp := fun vs H Q _ => ∃ (f : Addr) (sp : Hp → VK → XK → Prop), vs = [.ref f] ∧ (∃ oc od fd sl, B.get? f = some ⟨oc, od, .func fd, sl⟩) ∧ Thunk P w K mg B 8 f sp ∧
  ∀ (Q1 : VK) (E1 : XK), (∀ v H1, (∀ t, H1 t = none → Q (.ref t) (upd H1 t (.tup [.non, v]))) → Q1 v H1) →
    (∀ cls d H1, (PySem.W.exmOne K cls (.ref CK) = some true ∧ ∀ a t, H1 a = none → H1 t = none → t ≠ a → Q (.ref t) (upd (upd H1 t (.tup [.ref a, .non])) a (exv a cls d))) → E1 cls d H1) → sp H Q1 E1
theorem scCaught : FnScope ["call", "act", "seized"] ["call"] (defScope sCaught) := ⟨rfl, rfl, rfl, by decide +kernel, rfl, by decide +kernel, by decide +kernel⟩
section
variable {P : Program} {w : World} {K : PySem.W.Frag} {mg : Str → Option Value} {base : Heap} {f CB CK fC fW : Addr} {fd fdC fdW : FuncData}
theorem ok_caught (F : FnP K "_law_caught" "_law_caught" sCaught f fd) (gK : mg "KeptError" = some (.ref CK)) : FnOk P w K mg base CX0 9 f fd ["call"] (spCaught P w K mg CK base) := by
  refine F.ok scCaught (fun vs H Q E h => ?_) (fun cdv A outer s H vs Q E hr h => ?_)
  · obtain ⟨f, sp, rfl, _⟩ := h
    rfl
  · refine ⟨_, pss_cons (ps_try_val (i := 2) (c := .ref CK) rfl rfl rfl scCaught.nd rfl rfl ⟨rfl, by decide, .inl gK⟩ L2.takes0
        (fun W pn xe tk _ => pss_one (ps_set (i := 1) scCaught.nd rfl (Or.inl rfl) (pe_thunkS P w K mg base (i := 0) rfl (Or.inl rfl) hr (fun σ => passAt tk σ))))
        (fun a oe cls d pn _ _ => pss_one (ps_ret (pe_tup (pa_cons (pv 2) (pa_cons pe_non pa_nil))))))
      (pss_one (ps_ret (pe_tup (pa_cons pe_non (pa_cons (pv 1) pa_nil))))), ?_⟩
    obtain ⟨f, sp, rfl, hf, ht, hsp⟩ := h
    refine ⟨f, sp, rfl, hf, ht, ?_⟩
    refine hsp _ _ (fun v H1 k => ?_) fun cls d H1 ⟨hex, k⟩ => ⟨true, hex, fun _ a na => ?_, fun q => nomatch q⟩
    · exact ⟨_, rfl, (by show 2 ≤ sizeLine; decide), fun t nt => k t nt⟩
    · refine ⟨_, rfl, (by show 2 ≤ sizeLine; decide), fun t nt na2 => ?_⟩
      have ne : t ≠ a := fun z => by
        rw [z, upd_same] at na2
        cases na2
      exact k a t na nt ne
end
end Kg
namespace Kg
open PySem PySem.Spec PyProof.Rows L2 LamX
section
variable {K : PySem.W.Frag} {x qual : Str} {params : Arguments} {body : List Stmt} {scope : Scope} {dvs : List V} {kws : List (Str × V)} {f : Addr} {fd : FuncData} {P : Program} {w : World} {mg : Str → Option Value} {base : Heap}
/-- a def by its body, where no repr is under way at its call -/
theorem okG {XT : CXT} {N ps : List Str} {k : Nat} {sp : Sp} (F : FunD K x qual params body scope dvs kws f fd) (sc : FnScope N ps scope) (many : ∀ vs H Q E, sp vs H Q E → vs.length = ps.length)
    (walk : ∀ (cdv : Value) (A : Around) (outer : List Env) (s : Shared) (H : Hp) (vs : List V) (Q : VK) (E : XK), Room k (A.deeper (envOfC qual scope s.heap.objs.size f cdv)) → A.guards = some [] → sp vs H Q E →
      ∃ t, PSs (cxOf XT P w K mg base N qual scope f cdv A outer s H E) body t ∧ t { nx := fun _ H2 => Q .non H2, rt := Q } (start N vs) H) : FnG P w K mg base XT (k + 1) f fd ps sp := by
  obtain ⟨oc, od, dV, kV, doc, pm, an, cdv, ct, osl, rfl, lk, hcd, _, _⟩ := F.ex
  refine ⟨many, fun A outer s H args us vs Q E room quiet env0 bound rel asked => ?_⟩
  have same : vs.length = ps.length := many _ _ _ _ asked
  have inK : K.In s.heap := env0.mod.kin.keeps fun b o q => (env0.bs b o q).1
  have noLim : s.heap.NoLimit := env0.mod.nolimit.keeps fun b o q => (env0.bs b o q).1
  refine codeAny_call_function room.depth (inK _ _ lk) rfl sc.co sc.gen rfl (PySem.W.codeRec_of inK hcd) (bound _ _ _ _ ?_)
  refine wpAny_newFunctionEnv_cells sc.kind (fun ⟨n, v⟩ hy => ?_) fun env isEnv s1 fresh => ?_
  · rcases sc.par n (List.of_mem_zip hy).1 with q | q
    · exact .inl q
    · exact .inr ⟨q, PySem.W.cellsFrom_some _ _ _ (.inl q)⟩
  subst isEnv
  refine ⟨noLim.keeps fresh.toInCall.keep, codeAny_func ?_⟩
  obtain ⟨t, term, reading⟩ := walk cdv A outer s H vs Q E (room.deeper _) quiet asked
  have J : Inv (cxOf XT P w K mg base N qual scope f cdv A outer s H E) [] (start N vs) H s1 := inv_start sc room.hd env0 same rel fresh
  refine wpAny_mono (term.run [] s1 (start N vs) H _ J reading) (fun flow s2 got => ?_) fun e s2 got => got
  cases flow with
  | ret u =>
    obtain ⟨v, σ2, H2, J2, rv, q⟩ := got
    exact ⟨v, H2, J2.os, J2.bare, J2.base, J2.hok, rv, q⟩
  | next =>
    obtain ⟨σ2, H2, J2, q⟩ := got
    exact ⟨V.non, H2, J2.os, J2.bare, J2.base, J2.hok, rfl, q⟩
  | brk =>
    obtain ⟨_, _, _, q⟩ := got
    exact q.elim
  | cont =>
    obtain ⟨_, _, _, q⟩ := got
    exact q.elim
end
section
variable {X : Cx} {XT : CXT} {k : Nat} {f : Addr} {fd : FuncData} {ps ks : List Str} {sp : Sp} {E : XK} {x : Str} {p pos : Pos} {e : Expr} {es : List Expr} {t : TA}
/-- f(e, ..) of such a def -/
theorem pe_callG (F : FnG X.prog X.w X.K X.mg X.base XT k f fd ps sp) (hr : Room k X.A) (quiet : X.A.guards = some []) (hg : Gl X x) (hm : X.mg x = some (.ref f)) (hk : PySem.W.keepIn X.K (.ref f) = true) (hb : Binds X.K fd ps []) (hx : Passes XT X E)
    (ha : PA X (e :: es) t) (hdb : (x == ("__debug__" : Str)) = false := by decide) (he : starEach (e :: es) X.env = (false, eval e X.env) :: starEach es X.env := by rfl) (hpl : (backTo pos (starEach es X.env)).any (·.1) = false := by rfl) :
    PE X (.Call (.Name x p) (e :: es) [] pos) (tCall sp [] E t) := by
  refine ⟨fun pins s σ H Q I h => ?_⟩
  refine wpAny_Call_Name_kw (ld_glob I hg hm ?_ hdb)
  refine PySem.W.callWith_K (h₀ := X.base) I.ok.mod.kin hk (thn (ha.run pos pins s σ H _ I h) fun us s1 ⟨vs, H1, I1, r, q⟩ => ⟨I1.kIn, ?_⟩) he hpl
  have q2 : sp (vs ++ []) H1 Q E := q
  rw [List.append_nil] at q2
  have hl : us.length = ps.length := by
    rw [← r.length]
    exact F.many _ _ _ _ q2
  have b := hb s1 us I1.kIn (by rw [List.append_nil]; exact hl)
  rw [List.append_nil] at b
  refine wpAny_call (codeAny_mono (F.go X.A X.stack s1 H1 ⟨us, []⟩ us vs Q E hr quiet I1.env0 b r q2) fun r2 s2 got => ?_)
  cases r2 with
  | error e => exact hx pins σ H1 s1 e s2 I1 got
  | ok fl =>
    cases fl with
    | ret u => exact I1.after got
    | next => exact False.elim got
    | brk => exact False.elim got
    | cont => exact False.elim got
end
abbrev LW : Str := "text"
def spLawWord (CB : Addr) : Sp := fun vs H Q _ => ∃ (a d : Addr) (fs : List (Str × V)), vs = [.ref a] ∧ H a = some (exv a (.ref CB) (some d)) ∧ H d = some (.xd fs) ∧ Q (.str LW) H
def spRefused (P : Program) (w : World) (K : PySem.W.Frag) (mg : Str → Option Value) (CB : Addr) (B : Heap) : Sp := fun vs H Q _ => ∃ (f T : Addr) (i j : Int) (sp : Hp → VK → XK → Prop), vs = [.ref f, .str LW, .ref T] ∧ H T = some (.tup [.int i, .int j]) ∧
  i.natAbs.log2 < 1920 ∧ j.natAbs.log2 < 1920 ∧ (two i j).shown.length ≤ sizeLine ∧ (∃ oc od fd sl, B.get? f = some ⟨oc, od, .func fd, sl⟩) ∧ Thunk P w K mg B 8 f sp ∧
  (∀ (Q1 : VK) (E1 : XK), (∀ d T1 H1, Same H H1 → H1 d = some (.xd [(("value" : Str), V.ref T1)]) → H1 T1 = some (.tup [.int i, .int j]) → E1 (.ref CB) (some d) H1) → sp H Q1 E1) ∧ ∀ H1, Same H H1 → Q (.bl true) H1
/-- what the law's own functions ask of the error's classes -/
structure LT (K : PySem.W.Frag) (mg : Str → Option Value) (CB CK : Addr) : Prop where
  x : XvC K CB
  noV : PySem.W.findIn K (.ref CB) "value" = some none
  gB : mg "BadText" = some (.ref CB)
  gK : mg "KeptError" = some (.ref CK)
  isi : mg "isinstance" = none
  rep : mg "repr" = none
  kB : PySem.W.kitOne K (.ref CB) (.ref CB) = some true
  kK : PySem.W.kitOne K (.ref CB) (.ref CK) = some true
  kV : PySem.W.kitOne K (.ref CB) (.type "ValueError") = some true
  eK : PySem.W.exmOne K (.ref CB) (.ref CK) = some true
  vE : mg "ValueError" = none
theorem scLawWord : FnScope ["error"] ["error"] (defScope sLawWord) := ⟨rfl, rfl, rfl, by decide +kernel, rfl, by decide +kernel, by decide +kernel⟩
theorem scRefused : FnScope ["call", "word", "value", "seized"] ["call", "word", "value"] (defScope sIsRefused) := ⟨rfl, rfl, rfl, by decide +kernel, rfl, by decide +kernel, by decide +kernel⟩
section
variable {P : Program} {w : World} {K : PySem.W.Frag} {mg : Str → Option Value} {base : Heap} {f CB CK fC fW : Addr} {fd fdC fdW : FuncData}
theorem ok_lawword (F : FnP K "_law_word" "_law_word" sLawWord f fd) (T : LT K mg CB CK) : FnOk P w K mg base CX0 1 f fd ["error"] (spLawWord CB) := by
  refine F.ok scLawWord (fun vs H Q E h => ?_) (fun cdv A outer s H vs Q E hr h => ?_)
  · obtain ⟨a, d, fs, rfl, _⟩ := h
    rfl
  · obtain ⟨a, d, fs, rfl, e1, e2, k⟩ := h
    refine ⟨_, pss_one (ps_ret (pe_ifExp (pt_val (pe_callB call_isv (by rfl) T.isi (by decide +kernel) (pa_cons (pv 0) (pa_cons (pe_glob (v := .ref CB) rfl T.gB rfl) pa_nil)))) pe_str pe_str)), ?_⟩
    refine ⟨_, rfl, a, d, CB, fs, .ref CB, .ref CB, true, rfl, e1, e2, T.x, .own _, T.kB, _, rfl, ?_⟩
    refine iteT ?_
    exact k
theorem ok_refused (F : FnP K "_law_is_refused" "_law_is_refused" sIsRefused f fd) (T : LT K mg CB CK) (FC : FnP K "_law_caught" "_law_caught" sCaught fC fdC) (FW : FnP K "_law_word" "_law_word" sLawWord fW fdW)
    (gC : mg "_law_caught" = some (.ref fC)) (gW : mg "_law_word" = some (.ref fW)) : FnG P w K mg base CX0 10 f fd ["call", "word", "value"] (spRefused P w K mg CB base) := by
  have GC : FnOk P w K mg base CX0 9 fC fdC ["call"] (spCaught P w K mg CK base) := ok_caught FC T.gK
  have GW : FnOk P w K mg base CX0 1 fW fdW ["error"] (spLawWord CB) := ok_lawword FW T
  have bC : Binds K fdC ["call"] [] := FC.bindsN fun _ _ _ _ _ _ us hl => match us, hl with | [_], _ => rfl
  have bW : Binds K fdW ["error"] [] := FW.bindsN fun _ _ _ _ _ _ us hl => match us, hl with | [_], _ => rfl
  refine okG F scRefused (fun vs H Q E h => ?_) (fun cdv A outer s H vs Q E hr hgu h => ?_)
  · obtain ⟨f, T, i, j, sp, rfl, _⟩ := h
    rfl
  · obtain ⟨f, T1, i, j, sp, rfl, hT, zi, zj, zl, hf, th, hsp, k⟩ := h
    refine ⟨_, pss_cons (ps_set (i := 3) scRefused.nd rfl (Or.inl rfl) (pe_ix ix_tup (pe_call GC hr rfl gC FC.kp bC .nil pass0 (pa_cons (pv 0) pa_nil)) pe_int (fun _ _ => rfl)))
      (pss_one (ps_ret (pe_and (pe_cmpR op_eq (pe_call GW (hr.mono (by decide)) rfl gW FW.kp bW .nil pass0 (pa_cons (pv 3) pa_nil)) (pv 1) (nomark _))
        (pe_one (pe_cmpR op_eq (pe_callB (call_rep2 hr hgu) (by rfl) T.rep (by decide +kernel) (pa_cons (pe_xv (pv 3)) pa_nil)) (pe_callB (call_rep2 hr hgu) (by rfl) T.rep (by decide +kernel) (pa_cons (pv 2) pa_nil)) (nomark _)))))), ?_⟩
    refine ⟨_, rfl, f, sp, rfl, hf, th, fun Q1 E1 _ kE => hsp Q1 E1 fun d T2 H1 s1 hd hT2 => kE _ _ _ ⟨T.eK, fun a t na nt ne => ?_⟩⟩
    have ht : upd (upd H1 t (.tup [.ref a, .non])) a (exv a (.ref CB) (some d)) t = some (.tup [.ref a, .non]) := by
      rw [upd_ne ne, upd_same]
    have ha : upd (upd H1 t (.tup [.ref a, .non])) a (exv a (.ref CB) (some d)) a = some (exv a (.ref CB) (some d)) := upd_same
    have sm : Same H1 (upd (upd H1 t (.tup [.ref a, .non])) a (exv a (.ref CB) (some d))) := fun b o q => by
      rw [upd_ne (ne_of_none q na), upd_ne (ne_of_none q nt)]
      exact q
    refine ⟨t, [.ref a, .non], 0, .ref a, rfl, rfl, SqT.of ht, atI_nat (j := 0) rfl, ?_⟩
    refine ⟨_, rfl, a, d, _, rfl, ha, sm _ _ hd, ?_⟩
    refine ⟨_, rfl, rfl, _, rfl, ?_⟩
    refine iteT ?_
    refine ⟨_, rfl, a, d, CB, _, .ref T2, rfl, ha, sm _ _ hd, T.x, T.noV, rfl, ?_⟩
    refine ⟨T2, i, j, rfl, sm _ _ hT2, zi, zj, zl, ?_⟩
    refine ⟨_, rfl, T1, i, j, rfl, sm _ _ (s1 _ _ hT), zi, zj, zl, ?_⟩
    refine ⟨rfl, ?_⟩
    rw [show (decide (V.str (two i j).shown = V.str (two i j).shown)) = true from by simp]
    exact k _ (s1.trans sm)
end
end Kg
namespace Kg
open PySem PySem.Spec PyProof.Rows L2 LamX
abbrev sLawPot : Stmt := top 45
abbrev sLawTake : Stmt := top 46
abbrev sLawOf : Stmt := top 47
abbrev sCells : Stmt := top 48
/-- a power whose size is known -/
theorem op_powB {X : Cx} : OpR X (binaryOp .Pow) (rI (fun i j => 0 ≤ j ∧ (Builtin.Int.intBits i : Int) * j ≤ 2 ^ 27) fun i j => .int (i ^ j.toNat)) := opI fun _ _ _ _ _ _ _ hc q => pow_int hc.1 hc.2 q
structure BT (mg : Str → Option Value) : Prop where
  len : mg "len" = none
  int : mg "int" = none
  sum : mg "sum" = none
  abs : mg "abs" = none
  range : mg "range" = none
  list : mg "list" = none
  max : mg "max" = none
  min : mg "min" = none
  all : mg "all" = none
def PMod : Int := 2305843009213693921
/-- the pot at p -/
def PotAt (H : Hp) (p : Addr) (n : Int) : Prop := ∃ a b c : Int, H p = some (.lst [.int a, .int b, .int c]) ∧ 0 ≤ b ∧ b < PMod ∧ 0 ≤ c ∧ c ≤ n
def SameBut (H H' : Hp) (p : Addr) : Prop := ∀ b o, b ≠ p → H b = some o → H' b = some o
def spLawPot (K : PySem.W.Frag) : Sp := fun vs H Q _ => ∃ (l : Addr) (ns : List Int) (j : Nat), vs = [.ref l, .int (j : Int)] ∧ SqL K H l (ns.map V.int) ∧ ns.length ≤ 100 ∧ j ≤ 10 ∧ (j < ns.length ∨ ns = []) ∧
  ∀ p H', Same H H' → H p = none → PotAt H' p 0 → Q (.ref p) H'
def spTakeL : Sp := fun vs H Q _ => ∃ (p : Addr) (m n : Int), vs = [.ref p, .int m] ∧ PotAt H p n ∧ n ≤ 100 ∧ 0 < m ∧ m < 1000 ∧ ∀ r H', 0 ≤ r → r < m → SameBut H H' p → PotAt H' p (n + 1) → Q (.int r) H'
def spOf (K : PySem.W.Frag) : Sp := fun vs H Q _ => ∃ (p l : Addr) (xs : List V) (n : Int), vs = [.ref p, .ref l] ∧ PotAt H p n ∧ n ≤ 100 ∧ H l = some (.lst xs) ∧ l ≠ p ∧ xs ≠ [] ∧ xs.length < 100 ∧
  ∀ x H', x ∈ xs → SameBut H H' p → PotAt H' p (n + 1) → Q x H'
def spCells (K : PySem.W.Frag) : Sp := fun vs H Q _ => ∃ (l : Addr) (xs : List V), vs = [.ref l, .int 2] ∧ SqL K H l xs ∧ xs.length ≤ 100 ∧
  ∀ q, H q = none → ∀ c : Nat, 0 < c → c ≤ 2 → (c ≤ xs.length ∨ (c = 1 ∧ xs = [])) → Q (.ref q) (upd H q (.lst (rgV 0 c)))
theorem scLawPot : FnScope ["script", "place", "cell", "own", "small"] ["script", "place"] (defScope sLawPot) := ⟨rfl, rfl, rfl, by decide +kernel, rfl, by decide +kernel, by decide +kernel⟩
theorem scTakeL : FnScope ["pot", "upto", "digit", "prime", "blend"] ["pot", "upto"] (defScope sLawTake) := ⟨rfl, rfl, rfl, by decide +kernel, rfl, by decide +kernel, by decide +kernel⟩
theorem scLawOf : FnScope ["pot", "some"] ["pot", "some"] (defScope sLawOf) := ⟨rfl, rfl, rfl, by decide +kernel, rfl, by decide +kernel, by decide +kernel⟩
theorem scCells : FnScope ["script", "limit"] ["script", "limit"] (defScope sCells) := ⟨rfl, rfl, rfl, by decide +kernel, rfl, by decide +kernel, by decide +kernel⟩
section
variable {P : Program} {w : World} {K : PySem.W.Frag} {mg : Str → Option Value} {base : Heap} {f fT : Addr} {fd fdT : FuncData}
theorem bit_small (k : Bool) : -(2 ^ 64) < (if k = true then (1 : Int) else 0) ∧ (if k = true then (1 : Int) else 0) < 2 ^ 64 := by cases k <;> decide
theorem ok_cells (F : FnP K "_law_cells" "_law_cells" sCells f fd) (T : BT mg) : FnOk P w K mg base CX0 1 f fd ["script", "limit"] (spCells K) := by
  refine F.ok scCells (fun vs H Q E h => ?_) (fun cdv A outer s H vs Q E hr h => ?_)
  · obtain ⟨l, xs, rfl, _⟩ := h
    rfl
  · obtain ⟨l, xs, rfl, hl, hz, k⟩ := h
    refine ⟨_, pss_one (ps_ret (pe_listRg rfl rfl T.list (prg_1 rfl T.range (pe_callB (call_max2 rfl) (by rfl) T.max (by decide +kernel) (pa_cons pe_int (pa_cons (pe_callB (call_min2 rfl) (by rfl) T.min (by decide +kernel) (pa_cons (pv 1) (pa_cons (pe_callB call_len_seq (by rfl) T.len PySem.boot_len (pa_cons (pv 0) pa_nil)) pa_nil))) pa_nil)))))), ?_⟩
    refine ⟨_, rfl, _, rfl, l, xs, rfl, .inl hl, 2, _, rfl, 1, _, rfl, _, rfl, ?_⟩
    have hc : ∃ c : Nat, 0 < c ∧ c ≤ 2 ∧ (c ≤ xs.length ∨ (c = 1 ∧ xs = [])) ∧ (if (if (xs.length : Int) < 2 then (xs.length : Int) else 2) > 1 then (if (xs.length : Int) < 2 then (xs.length : Int) else 2) else 1) = (c : Int) := by
      cases xs with
      | nil => exact ⟨1, by decide, by decide, .inr ⟨rfl, rfl⟩, rfl⟩
      | cons x r =>
        cases r with
        | nil => exact ⟨1, by decide, by decide, .inl (by simp), rfl⟩
        | cons y r =>
          refine ⟨2, by decide, by decide, .inl (by simp), ?_⟩
          have : ¬ (((x :: y :: r).length : Int) < 2) := by simp only [List.length_cons]; omega
          rw [if_neg this]
          rfl
    obtain ⟨c, c0, c2, cx, ec⟩ := hc
    show RgOk 0 _ ∧ _
    rw [ec]
    exact ⟨RgOk.of_le (by decide) (by omega) (by decide) (by omega), fun q hq => k q hq c c0 c2 cx⟩
theorem ok_lawpot (F : FnP K "_law_pot" "_law_pot" sLawPot f fd) (T : BT mg) : FnOk P w K mg base CX0 1 f fd ["script", "place"] (spLawPot K) := by
  refine F.ok scLawPot (fun vs H Q E h => ?_) (fun cdv A outer s H vs Q E hr h => ?_)
  · obtain ⟨l, ns, j, rfl, _⟩ := h
    rfl
  · obtain ⟨l, ns, j, rfl, hl, hz, hj, hc, k⟩ := h
    refine ⟨_, pss_cons (ps_set (i := 2) scLawPot.nd rfl (Or.inl rfl) (pe_ifExp (pt_cmpR op_lt (pv 1) (pe_callB call_len_seq (by rfl) T.len PySem.boot_len (pa_cons (pv 0) pa_nil)) (nomark _)) (pe_ix ix_list (pv 0) (pv 1) (fun _ _ => rfl))
          (pe_op op_add (pe_op op_add (pe_op op_mod (pe_callTy call_int1 (by rfl) T.int (by decide +kernel) (pa_cons (pe_callB (cr_sum rfl) (by rfl) T.sum (by decide +kernel) (pa_cons (pe_slice sl_list (pv 0) po_none (po_some pe_int)) pa_nil)) pa_nil)) pe_int) (pe_op op_mul pe_int (pv 1))) pe_int)))
      (pss_cons (ps_set (i := 3) scLawPot.nd rfl (Or.inl rfl) (pe_op op_mul (pe_op op_mod (pe_callTy call_int1 (by rfl) T.int (by decide +kernel) (pa_cons (pe_callB call_abs (by rfl) T.abs (by decide +kernel) (pa_cons (pv 2) pa_nil)) pa_nil)) (pe_op op_powB (pe_op op_pow pe_int pe_int) pe_int))
          (pe_callTy call_int1 (by rfl) T.int (by decide +kernel) (pa_cons (pe_cmpR op_ge (pe_callB call_abs (by rfl) T.abs (by decide +kernel) (pa_cons (pv 2) pa_nil)) (pe_op op_pow pe_int pe_int) (nomark _)) pa_nil))))
      (pss_cons (ps_set (i := 4) scLawPot.nd rfl (Or.inl rfl) (pe_op op_mod (pe_callTy call_int1 (by rfl) T.int (by decide +kernel) (pa_cons (pv 2) pa_nil)) pe_int))
      (pss_one (ps_ret (pe_lst (pa_cons (pv 3) (pa_cons (pe_op op_mod (pe_callTy call_int1 (by rfl) T.int (by decide +kernel) (pa_cons (pe_op op_add (pe_op op_add (pe_op op_mul (pv 4) pe_int) (pe_op op_mul (pe_op op_mul pe_int (pv 1)) (pv 1))) pe_int) pa_nil)) pe_int) (pa_cons pe_int pa_nil)))))))), ?_⟩
    refine ⟨_, rfl, _, rfl, l, _, rfl, .inl hl, ?_⟩
    refine ⟨_, _, rfl, rfl, _, rfl, ?_⟩
    cases hd : decide ((j : Int) < ((ns.map V.int).length : Int)) with
    | true =>
      refine iteT ?_
      have hlt : (j : Int) < ((ns.map V.int).length : Int) := of_decide_eq_true hd
      rw [List.length_map] at hlt
      have hj2 : j < ns.length := by omega
      refine ⟨_, rfl, _, rfl, l, _, (j : Int), .int ns[j], rfl, rfl, hl, atI_nat (j := j) (by simp [hj2]), ?_⟩
      refine ⟨_, rfl, _, rfl, .inl ⟨_, rfl, ?_⟩⟩
      refine ⟨_, _, rfl, rfl, ⟨by decide, by decide, by decide⟩, ?_⟩
      refine ⟨_, _, rfl, rfl, ⟨by decide, by decide +kernel⟩, ?_⟩
      refine ⟨_, _, rfl, rfl, (by show (0 : Int) < (10 ^ (60 : Int).toNat) ^ (5 : Int).toNat; decide +kernel), ?_⟩
      refine ⟨_, rfl, _, rfl, ?_⟩
      refine ⟨_, _, rfl, rfl, ⟨by decide, by decide, by decide⟩, ?_⟩
      refine ⟨_, _, rfl, rfl, .inr ⟨_, rfl, ?_⟩⟩
      refine ⟨_, _, rfl, rfl, .inr (bit_small _), ?_⟩
      refine ⟨_, rfl, .inl ⟨_, rfl, ?_⟩⟩
      refine ⟨_, _, rfl, rfl, (by show (0 : Int) < 2305843009213693951; decide), ?_⟩
      generalize hsm : ns[j] % 2305843009213693951 = sm
      have sm0 : 0 ≤ sm := by rw [← hsm]; exact Int.emod_nonneg _ (by decide)
      have sm1 : sm < 2305843009213693951 := by rw [← hsm]; exact Int.emod_lt_of_pos _ (by decide)
      refine ⟨_, rfl, _, rfl, ?_⟩
      refine ⟨_, _, rfl, rfl, .inl ⟨by omega, by omega⟩, ?_⟩
      refine ⟨_, rfl, _, _, rfl, rfl, .inl ⟨by decide, by decide⟩, ?_⟩
      refine ⟨_, rfl, _, _, rfl, rfl, .inr ⟨by omega, by omega⟩, ?_⟩
      refine ⟨_, _, rfl, rfl, ?_⟩
      refine ⟨_, _, rfl, rfl, .inl ⟨_, rfl, ?_⟩⟩
      refine ⟨_, _, rfl, rfl, (by show (0 : Int) < 2305843009213693921; decide), ?_⟩
      refine ⟨(by show 3 ≤ sizeLine; decide), fun p hp => ?_⟩
      exact k p _ (same_upd hp) hp ⟨_, _, _, upd_same, Int.emod_nonneg _ (by decide), Int.emod_lt_of_pos _ (by decide), by decide, by decide⟩
    | false =>
      refine iteF ?_
      have hlt : ¬ (j : Int) < ((ns.map V.int).length : Int) := of_decide_eq_false hd
      rw [List.length_map] at hlt
      have he : ns = [] := by
        rcases hc with h1 | h1
        · exact absurd (by omega) hlt
        · exact h1
      subst he
      refine ⟨_, rfl, (1 : Int), rfl, l, _, rfl, hl, fun q hq => ?_⟩
      refine ⟨q, [], rfl, SqL.of upd_same, .inl ⟨_, rfl, ?_⟩⟩
      refine ⟨_, _, rfl, rfl, (by show (0 : Int) < 1000003; decide), ?_⟩
      refine ⟨_, rfl, _, _, rfl, rfl, .inl ⟨by decide, by decide⟩, ?_⟩
      refine ⟨_, _, rfl, rfl, ?_⟩
      refine ⟨_, _, rfl, rfl, ?_⟩
      refine ⟨_, rfl, _, rfl, .inl ⟨_, rfl, ?_⟩⟩
      refine ⟨_, _, rfl, rfl, ⟨by decide, by decide, by decide⟩, ?_⟩
      refine ⟨_, _, rfl, rfl, ⟨by decide, by decide +kernel⟩, ?_⟩
      refine ⟨_, _, rfl, rfl, (by show (0 : Int) < (10 ^ (60 : Int).toNat) ^ (5 : Int).toNat; decide +kernel), ?_⟩
      refine ⟨_, rfl, _, rfl, ?_⟩
      refine ⟨_, _, rfl, rfl, ⟨by decide, by decide, by decide⟩, ?_⟩
      refine ⟨_, _, rfl, rfl, .inr ⟨_, rfl, ?_⟩⟩
      refine ⟨_, _, rfl, rfl, .inr (bit_small _), ?_⟩
      refine ⟨_, rfl, .inl ⟨_, rfl, ?_⟩⟩
      refine ⟨_, _, rfl, rfl, (by show (0 : Int) < 2305843009213693951; decide), ?_⟩
      generalize hsm : (([] : List Int).sum % 1000003 + 1391 * (j : Int) + 981) % 2305843009213693951 = sm
      have sm0 : 0 ≤ sm := by rw [← hsm]; exact Int.emod_nonneg _ (by decide)
      have sm1 : sm < 2305843009213693951 := by rw [← hsm]; exact Int.emod_lt_of_pos _ (by decide)
      refine ⟨_, rfl, _, rfl, ?_⟩
      refine ⟨_, _, rfl, rfl, .inl ⟨by omega, by omega⟩, ?_⟩
      refine ⟨_, rfl, _, _, rfl, rfl, .inl ⟨by decide, by decide⟩, ?_⟩
      refine ⟨_, rfl, _, _, rfl, rfl, .inr ⟨by omega, by omega⟩, ?_⟩
      refine ⟨_, _, rfl, rfl, ?_⟩
      refine ⟨_, _, rfl, rfl, .inl ⟨_, rfl, ?_⟩⟩
      refine ⟨_, _, rfl, rfl, (by show (0 : Int) < 2305843009213693921; decide), ?_⟩
      refine ⟨(by show 3 ≤ sizeLine; decide), fun p hp => ?_⟩
      exact k p _ ((same_upd hq).trans (same_upd hp)) (free_of hp) ⟨_, _, _, upd_same, Int.emod_nonneg _ (by decide), Int.emod_lt_of_pos _ (by decide), by decide, by decide⟩
theorem ok_lawtake (F : FnP K "_law_take" "_law_take" sLawTake f fd) (T : BT mg) : FnOk P w K mg base CX0 1 f fd ["pot", "upto"] spTakeL := by
  refine F.ok scTakeL (fun vs H Q E h => ?_) (fun cdv A outer s H vs Q E hr h => ?_)
  · obtain ⟨p, m, n, rfl, _⟩ := h
    rfl
  · obtain ⟨p, m, n, rfl, ⟨a, b, c, hp, hb0, hb1, hc0, hc1⟩, hn, hm0, hm1, k⟩ := h
    refine ⟨_, pss_cons (ps_if (pt_cmpR op_gt (pe_ix ix_list (pv 0) pe_int (fun _ _ => rfl)) pe_int (nomark _))
        (pss_cons (ps_set (i := 2) scTakeL.nd rfl (Or.inl rfl) (pe_op op_mod (pe_callTy call_int1 (by rfl) T.int (by decide +kernel) (pa_cons (pe_ix ix_list (pv 0) pe_int (fun _ _ => rfl)) pa_nil)) (pv 1)))
        (pss_cons (ps_asg (pe_op op_fdiv (pe_ix ix_list (pv 0) pe_int (fun _ _ => rfl)) (pv 1)) (pg_sub (pv 0) pe_int set_list))
        (pss_one (ps_ret (pv 2))))) pss_nil)
      (pss_cons (ps_asg (pe_op op_add (pe_ix ix_list (pv 0) pe_int (fun _ _ => rfl)) pe_int) (pg_sub (pv 0) pe_int set_list))
      (pss_cons (ps_set (i := 3) scTakeL.nd rfl (Or.inl rfl) (pe_ix ix_list (pe_lst (pa_cons pe_int (pa_cons pe_int (pa_cons pe_int (pa_cons pe_int (pa_cons pe_int pa_nil)))))) (pe_op op_mod (pe_callTy call_int1 (by rfl) T.int (by decide +kernel) (pa_cons (pe_ix ix_list (pv 0) pe_int (fun _ _ => rfl)) pa_nil)) pe_int) (fun _ _ => rfl)))
      (pss_cons (ps_set (i := 4) scTakeL.nd rfl (Or.inl rfl) (pe_op op_mod (pe_callTy call_int1 (by rfl) T.int (by decide +kernel) (pa_cons (pe_op op_pow (pe_callTy call_int1 (by rfl) T.int (by decide +kernel) (pa_cons (pe_op op_add (pe_op op_add (pe_ix ix_list (pv 0) pe_int (fun _ _ => rfl)) (pe_op op_mul (pe_op op_mul pe_int (pe_ix ix_list (pv 0) pe_int (fun _ _ => rfl))) (pe_ix ix_list (pv 0) pe_int (fun _ _ => rfl)))) pe_int) pa_nil)) pe_int) pa_nil)) (pv 3)))
      (pss_one (ps_ret (pe_op op_mod (pe_callTy call_int1 (by rfl) T.int (by decide +kernel) (pa_cons (pe_op op_fdiv (pe_op op_mul (pv 4) (pe_op op_add (pe_op op_mod (pe_callTy call_int1 (by rfl) T.int (by decide +kernel) (pa_cons (pv 4) pa_nil)) pe_int) (pe_op op_mul pe_int (pe_ix ix_list (pv 0) pe_int (fun _ _ => rfl))))) pe_int) pa_nil)) (pv 1))))))), ?_⟩
    have sq : SqL K H p [.int a, .int b, .int c] := SqL.of hp
    refine ⟨_, rfl, p, _, 0, .int a, rfl, rfl, sq, atI_nat (j := 0) rfl, ?_⟩
    refine ⟨_, _, rfl, rfl, _, rfl, ?_⟩
    cases hd : decide (a > 0) with
    | true =>
      refine iteT ?_
      have ha : a > 0 := of_decide_eq_true hd
      refine ⟨_, rfl, p, _, 0, .int a, rfl, rfl, sq, atI_nat (j := 0) rfl, .inl ⟨_, rfl, ?_⟩⟩
      refine ⟨_, rfl, _, _, rfl, rfl, hm0, ?_⟩
      refine ⟨_, rfl, p, _, 0, .int a, rfl, rfl, sq, atI_nat (j := 0) rfl, ?_⟩
      refine ⟨_, rfl, _, _, rfl, rfl, ⟨hm0, by omega⟩, ?_⟩
      refine ⟨_, rfl, p, _, 0, 0, rfl, rfl, hp, rfl, ?_⟩
      refine ⟨_, rfl, ?_⟩
      exact k _ _ (Int.emod_nonneg _ (by omega)) (Int.emod_lt_of_pos _ hm0) (fun q o ne e => by rw [upd_ne ne]; exact e) ⟨_, b, c, upd_same, hb0, hb1, hc0, by omega⟩
    | false =>
      refine iteF ?_
      refine ⟨_, rfl, p, _, 2, .int c, rfl, rfl, sq, atI_nat (j := 2) rfl, ?_⟩
      refine ⟨_, _, rfl, rfl, ?_⟩
      refine ⟨_, rfl, p, _, 2, 2, rfl, rfl, hp, rfl, ?_⟩
      have hp2 : upd H p (.lst [.int a, .int b, .int (c + 1)]) p = some (.lst [.int a, .int b, .int (c + 1)]) := upd_same
      have kp : SameBut H (upd H p (.lst [.int a, .int b, .int (c + 1)])) p := fun q o ne e => by rw [upd_ne ne]; exact e
      refine ⟨(by show 5 ≤ sizeLine; decide), fun l hl => ?_⟩
      have nl : p ≠ l := ne_of_none hp2 hl
      have hp3 : upd (upd H p (.lst [.int a, .int b, .int (c + 1)])) l (.lst [.int 2147483647, .int 2147483629, .int 2147483587, .int 2147483579, .int 2147483563]) p = some (.lst [.int a, .int b, .int (c + 1)]) := by rw [upd_ne nl]; exact hp2
      have sq3 := SqL.of (K := K) hp3
      refine ⟨_, rfl, p, _, 2, .int (c + 1), rfl, rfl, sq3, atI_nat (j := 2) rfl, .inl ⟨_, rfl, ?_⟩⟩
      refine ⟨_, _, rfl, rfl, (by show (0 : Int) < 5; decide), ?_⟩
      have hpr : ∃ (j : Nat) (q : Int), (c + 1) % 5 = (j : Int) ∧ ([.int 2147483647, .int 2147483629, .int 2147483587, .int 2147483579, .int 2147483563] : List V)[j]? = some (.int q) ∧ 0 < q ∧ q < 2147483648 := by
        have h1 := Int.emod_nonneg (c + 1) (show (5 : Int) ≠ 0 by decide)
        have h2 := Int.emod_lt_of_pos (c + 1) (show (0 : Int) < 5 by decide)
        generalize (c + 1) % 5 = r at h1 h2
        have : r = 0 ∨ r = 1 ∨ r = 2 ∨ r = 3 ∨ r = 4 := by omega
        rcases this with e | e | e | e | e <;> subst e
        · exact ⟨0, _, rfl, rfl, by decide, by decide⟩
        · exact ⟨1, _, rfl, rfl, by decide, by decide⟩
        · exact ⟨2, _, rfl, rfl, by decide, by decide⟩
        · exact ⟨3, _, rfl, rfl, by decide, by decide⟩
        · exact ⟨4, _, rfl, rfl, by decide, by decide⟩
      obtain ⟨j, pr, ej, hj, hp0, hp1⟩ := hpr
      refine ⟨l, _, _, .int pr, rfl, rfl, SqL.of upd_same, by rw [ej]; exact atI_nat hj, ?_⟩
      refine ⟨_, rfl, p, _, 1, .int b, rfl, rfl, sq3, atI_nat (j := 1) rfl, ?_⟩
      refine ⟨_, rfl, p, _, 2, .int (c + 1), rfl, rfl, sq3, atI_nat (j := 2) rfl, ?_⟩
      refine ⟨_, _, rfl, rfl, .inl ⟨by decide, by decide⟩, ?_⟩
      refine ⟨_, rfl, p, _, 2, .int (c + 1), rfl, rfl, sq3, atI_nat (j := 2) rfl, ?_⟩
      refine ⟨_, _, rfl, rfl, .inr ⟨by omega, by omega⟩, ?_⟩
      refine ⟨_, _, rfl, rfl, ?_⟩
      refine ⟨_, _, rfl, rfl, ?_⟩
      refine .inl ⟨_, rfl, ?_⟩
      have hbig : (b + 100129 * (c + 1) * (c + 1) + 1171).natAbs < 2 ^ 64 := by
        have h1 : c + 1 ≤ 101 := by omega
        have h2 : (c + 1) * (c + 1) ≤ 101 * 101 := Int.mul_le_mul h1 h1 (by omega) (by omega)
        have h3 : 0 ≤ (c + 1) * (c + 1) := Int.mul_nonneg (by omega) (by omega)
        have h4 : 100129 * (c + 1) * (c + 1) = 100129 * ((c + 1) * (c + 1)) := Int.mul_assoc _ _ _
        rw [h4]
        unfold PMod at hb1
        generalize (c + 1) * (c + 1) = z at h2 h3
        omega
      refine ⟨_, _, rfl, rfl, ⟨by decide, by decide, hbig⟩, ?_⟩
      refine .inl ⟨_, rfl, ?_⟩
      refine ⟨_, rfl, _, _, rfl, rfl, hp0, ?_⟩
      generalize hbl : (b + 100129 * (c + 1) * (c + 1) + 1171) ^ (3 : Int).toNat % pr = bl
      have bl0 : 0 ≤ bl := by rw [← hbl]; exact Int.emod_nonneg _ (by omega)
      have bl1 : bl < pr := by rw [← hbl]; exact Int.emod_lt_of_pos _ hp0
      refine ⟨_, rfl, _, rfl, .inl ⟨_, rfl, ?_⟩⟩
      refine ⟨_, _, rfl, rfl, (by show (0 : Int) < 10767; decide), ?_⟩
      refine ⟨_, rfl, p, _, 2, .int (c + 1), rfl, rfl, sq3, atI_nat (j := 2) rfl, ?_⟩
      refine ⟨_, _, rfl, rfl, .inl ⟨by decide, by decide⟩, ?_⟩
      refine ⟨_, _, rfl, rfl, ?_⟩
      refine ⟨_, _, rfl, rfl, .inl ⟨by omega, by omega⟩, ?_⟩
      refine ⟨_, _, rfl, rfl, ⟨by decide, by decide⟩, ?_⟩
      refine .inl ⟨_, rfl, ?_⟩
      refine ⟨_, rfl, _, _, rfl, rfl, hm0, ?_⟩
      exact k _ _ (Int.emod_nonneg _ (by omega)) (Int.emod_lt_of_pos _ hm0) (fun q o ne e => by rw [upd_ne (ne_of_none (kp q o ne e) hl)]; exact kp q o ne e) ⟨a, b, c + 1, hp3, hb0, hb1, by omega, by omega⟩
theorem ok_lawof (F : FnP K "_law_of" "_law_of" sLawOf f fd) (T : BT mg) (FT : FnP K "_law_take" "_law_take" sLawTake fT fdT) (gT : mg "_law_take" = some (.ref fT)) : FnOk P w K mg base CX0 2 f fd ["pot", "some"] (spOf K) := by
  have GT : FnOk P w K mg base CX0 1 fT fdT ["pot", "upto"] spTakeL := ok_lawtake FT T
  have bT : Binds K fdT ["pot", "upto"] [] := FT.bindsN fun _ _ _ _ _ _ us hl => match us, hl with | [_, _], _ => rfl
  refine F.ok scLawOf (fun vs H Q E h => ?_) (fun cdv A outer s H vs Q E hr h => ?_)
  · obtain ⟨p, l, xs, n, rfl, _⟩ := h
    rfl
  · obtain ⟨p, l, xs, n, rfl, hp, hn, hl, ne, hx, hz, k⟩ := h
    refine ⟨_, pss_one (ps_ret (pe_ix ix_list (pv 1) (pe_call GT hr rfl gT FT.kp bT .nil pass0 (pa_cons (pv 0) (pa_cons (pe_callB call_len_seq (by rfl) T.len PySem.boot_len (pa_cons (pv 1) pa_nil)) pa_nil))) (fun _ _ => rfl))), ?_⟩
    refine ⟨_, rfl, _, rfl, _, rfl, l, _, rfl, .inl (SqL.of hl), p, (xs.length : Int), n, rfl, hp, hn, ?_⟩
    have hx0 : 0 < xs.length := List.length_pos_iff.mpr hx
    refine ⟨by omega, by omega, fun r H' r0 r1 sb pn => ?_⟩
    have hr2 : r.toNat < xs.length := by omega
    refine ⟨l, xs, r, xs[r.toNat], rfl, rfl, SqL.of (sb _ _ ne hl), ?_, ?_⟩
    · have z := atI_nat (xs := xs) (j := r.toNat) (v := xs[r.toNat]) (by simp [hr2])
      rw [Int.toNat_of_nonneg r0] at z
      exact z
    · exact k _ _ (List.getElem_mem _) sb pn
end
end Kg
namespace Kg
open PySem PySem.Spec PyProof.Rows L2 LamX
abbrev sOdd : Stmt := top 51
abbrev sRight : Stmt := top 53
abbrev sLaw : Stmt := top 54
section
variable {K : PySem.W.Frag} {H : Hp}
theorem nst_non : NotStr K H .non := ⟨_, .base .non, kit_ty (by decide +kernel)⟩
theorem nst_bl (b : Bool) : NotStr K H (.bl b) := ⟨_, .base (.bl b), kit_ty (by decide +kernel)⟩
theorem nst_int (i : Int) : NotStr K H (.int i) := ⟨_, .base (.int i), kit_ty (by decide +kernel)⟩
theorem nst_lst {a : Addr} {xs : List V} (e : H a = some (.lst xs)) : NotStr K H (.ref a) := ⟨_, .base (.lst e), kit_ty (by decide +kernel)⟩
theorem nst_tup {a : Addr} {xs : List V} (e : H a = some (.tup xs)) : NotStr K H (.ref a) := ⟨_, .base (.tup e), kit_ty (by decide +kernel)⟩
theorem nst_dK {a : Addr} {kvs : List (Key × V)} (e : H a = some (.dK kvs)) : NotStr K H (.ref a) := ⟨_, .base (.dK e), kit_ty (by decide +kernel)⟩
end
/-- a value of the law's own that is no string, as it stands -/
def OddV (H : Hp) (v : V) : Prop := v = .non ∨ (∃ b, v = .bl b) ∨ (∃ i, v = .int i) ∨ ∃ a, v = .ref a ∧ ((∃ xs, H a = some (.lst xs)) ∨ (∃ xs, H a = some (.tup xs)) ∨ ∃ kvs, H a = some (.dK kvs))
theorem OddV.nst {K : PySem.W.Frag} {H : Hp} {v : V} (h : OddV H v) : NotStr K H v := by
  rcases h with rfl | ⟨b, rfl⟩ | ⟨i, rfl⟩ | ⟨a, rfl, ⟨xs, e⟩ | ⟨xs, e⟩ | ⟨xs, e⟩⟩
  · exact nst_non
  · exact nst_bl b
  · exact nst_int i
  · exact nst_lst e
  · exact nst_tup e
  · exact nst_dK e
theorem OddV.keep {H H' : Hp} {v : V} (h : OddV H v) (k : ∀ a o, v = .ref a → H a = some o → (∀ ps, o ≠ .tbl ps) → H' a = some o) : OddV H' v := by
  rcases h with rfl | ⟨b, rfl⟩ | ⟨i, rfl⟩ | ⟨a, rfl, ⟨xs, e⟩ | ⟨xs, e⟩ | ⟨xs, e⟩⟩
  · exact .inl rfl
  · exact .inr (.inl ⟨b, rfl⟩)
  · exact .inr (.inr (.inl ⟨i, rfl⟩))
  · exact .inr (.inr (.inr ⟨a, rfl, .inl ⟨xs, k a _ rfl e (fun _ z => nomatch z)⟩⟩))
  · exact .inr (.inr (.inr ⟨a, rfl, .inr (.inl ⟨xs, k a _ rfl e (fun _ z => nomatch z)⟩)⟩))
  · exact .inr (.inr (.inr ⟨a, rfl, .inr (.inr ⟨xs, k a _ rfl e (fun _ z => nomatch z)⟩)⟩))
theorem OddV.lst {H : Hp} {a : Addr} {xs : List V} (e : H a = some (.lst xs)) : OddV H (.ref a) := .inr (.inr (.inr ⟨a, rfl, .inl ⟨xs, e⟩⟩))
theorem OddV.tup {H : Hp} {a : Addr} {xs : List V} (e : H a = some (.tup xs)) : OddV H (.ref a) := .inr (.inr (.inr ⟨a, rfl, .inr (.inl ⟨xs, e⟩)⟩))
theorem OddV.dK {H : Hp} {a : Addr} {xs : List (Key × V)} (e : H a = some (.dK xs)) : OddV H (.ref a) := .inr (.inr (.inr ⟨a, rfl, .inr (.inr ⟨xs, e⟩)⟩))
def spOdd : Sp := fun vs H Q _ => ∃ (p : Addr) (n : Int), vs = [.ref p] ∧ PotAt H p n ∧ n ≤ 100 ∧ ∀ x H', OddV H' x → SameBut H H' p → PotAt H' p (n + 1) → Q x H'
theorem scOdd : FnScope ["pot"] ["pot"] (defScope sOdd) := ⟨rfl, rfl, rfl, by decide +kernel, rfl, by decide +kernel, by decide +kernel⟩
section
variable {P : Program} {w : World} {K : PySem.W.Frag} {mg : Str → Option Value} {base : Heap} {f fO fT : Addr} {fd fdO fdT : FuncData}
theorem pot_ext {H H' : Hp} {p : Addr} {n : Int} (h : PotAt H p n) (s : Same H H') : PotAt H' p n := by
  obtain ⟨a, b, c, e, r⟩ := h
  exact ⟨a, b, c, s _ _ e, r⟩
theorem pot_lst {H : Hp} {p : Addr} {n : Int} (h : PotAt H p n) : ∃ xs, H p = some (.lst xs) := by
  obtain ⟨a, b, c, e, r⟩ := h
  exact ⟨_, e⟩
theorem ok_lawodd (F : FnP K "_law_odd" "_law_odd" sOdd f fd) (T : BT mg) (FO : FnP K "_law_of" "_law_of" sLawOf fO fdO) (FT : FnP K "_law_take" "_law_take" sLawTake fT fdT) (gO : mg "_law_of" = some (.ref fO)) (gT : mg "_law_take" = some (.ref fT)) : FnOk P w K mg base CX0 3 f fd ["pot"] spOdd := by
  have GO : FnOk P w K mg base CX0 2 fO fdO ["pot", "some"] (spOf K) := ok_lawof FO T FT gT
  have bO : Binds K fdO ["pot", "some"] [] := FO.bindsN fun _ _ _ _ _ _ us hl => match us, hl with | [_, _], _ => rfl
  refine F.ok scOdd (fun vs H Q E h => ?_) (fun cdv A outer s H vs Q E hr h => ?_)
  · obtain ⟨p, n, rfl, _⟩ := h
    rfl
  · obtain ⟨p, n, rfl, hp, hn, k⟩ := h
    refine ⟨_, pss_one (ps_ret (pe_call GO hr rfl gO FO.kp bO .nil pass0 (pa_cons (pv 0) (pa_cons (pe_lst (pa_cons pe_non (pa_cons pe_bl (pa_cons pe_bl (pa_cons (pe_lst pa_nil) (pa_cons pe_dnewK (pa_cons (pe_tup (pa_cons pe_bl pa_nil)) (pa_cons (pe_tup (pa_cons (pe_tup pa_nil) pa_nil))
      (pa_cons (pe_un un_neg pe_int) (pa_cons (pe_lst (pa_cons pe_int pa_nil)) (pa_cons (pe_tup (pa_cons pe_non pa_nil)) (pa_cons (pe_tup (pa_cons pe_int (pa_cons pe_non pa_nil))) pa_nil)))))))))))) pa_nil)))), ?_⟩
    refine ⟨_, rfl, (by show 0 ≤ sizeLine; decide), fun a1 n1 => ?_⟩
    intro a2 n2
    refine ⟨(by show 1 ≤ sizeLine; decide), fun a3 n3 => ⟨(by show 0 ≤ sizeLine; decide), fun a4 n4 => ⟨(by show 1 ≤ sizeLine; decide), fun a5 n5 => ⟨1, rfl, ⟨(by show 1 ≤ sizeLine; decide), fun a6 n6 => ⟨(by show 1 ≤ sizeLine; decide), fun a7 n7 => ⟨(by show 2 ≤ sizeLine; decide), fun a8 n8 => ⟨(by show 11 ≤ sizeLine; decide), fun l nl => ?_⟩⟩⟩⟩⟩⟩⟩⟩
    have tl := same_upd (o := .lst [.non, .bl true, .bl false, .ref a1, .ref a2, .ref a3, .ref a5, .int (-1), .ref a6, .ref a7, .ref a8]) nl
    have t7 := (same_upd (o := .tup [.int 0, .non]) n8).trans tl
    have t6 := (same_upd (o := .tup [.non]) n7).trans t7
    have t5 := (same_upd (o := .lst [.int 0]) n6).trans t6
    have t4 := (same_upd (o := .tup [.ref a4]) n5).trans t5
    have t3 := (same_upd (o := .tup []) n4).trans t4
    have t2 := (same_upd (o := .tup [.bl true]) n3).trans t3
    have t1 := (same_upd (o := .dK []) n2).trans t2
    have t0 := (same_upd (o := .lst []) n1).trans t1
    have np : ∀ {G : Hp} {q : Addr}, Same H G → G q = none → q ≠ p := fun sG nq z => by
      obtain ⟨xs, e⟩ := pot_lst hp
      rw [z, sG _ _ e] at nq
      cases nq
    have u1 := same_upd (o := .lst []) n1
    have u2 := u1.trans (same_upd (o := .dK []) n2)
    have u3 := u2.trans (same_upd (o := .tup [.bl true]) n3)
    have u4 := u3.trans (same_upd (o := .tup []) n4)
    have u5 := u4.trans (same_upd (o := .tup [.ref a4]) n5)
    have u6 := u5.trans (same_upd (o := .lst [.int 0]) n6)
    have u7 := u6.trans (same_upd (o := .tup [.non]) n7)
    have u8 := u7.trans (same_upd (o := .tup [.int 0, .non]) n8)
    refine ⟨p, l, _, n, rfl, pot_ext hp t0, hn, upd_same, np u8 nl, by simp, (by show 11 < 100; decide), fun x H' hx sb pn => k x H' ?_ (fun b o ne e => sb b o ne (t0 b o e)) pn⟩
    have mem : x = .non ∨ x = .bl true ∨ x = .bl false ∨ x = .ref a1 ∨ x = .ref a2 ∨ x = .ref a3 ∨ x = .ref a5 ∨ x = .int (-1) ∨ x = .ref a6 ∨ x = .ref a7 ∨ x = .ref a8 := by simpa using hx
    rcases mem with e | e | e | e | e | e | e | e | e | e | e <;> subst e
    · exact .inl rfl
    · exact .inr (.inl ⟨_, rfl⟩)
    · exact .inr (.inl ⟨_, rfl⟩)
    · exact .lst (sb _ _ (np (fun _ _ e => e) n1) (t1 _ _ upd_same))
    · exact .dK (sb _ _ (np u1 n2) (t2 _ _ upd_same))
    · exact .tup (sb _ _ (np u2 n3) (t3 _ _ upd_same))
    · exact .tup (sb _ _ (np u4 n5) (t5 _ _ upd_same))
    · exact .inr (.inr (.inl ⟨_, rfl⟩))
    · exact .lst (sb _ _ (np u5 n6) (t6 _ _ upd_same))
    · exact .tup (sb _ _ (np u6 n7) (t7 _ _ upd_same))
    · exact .tup (sb _ _ (np u7 n8) (tl _ _ upd_same))
end
end Kg
namespace Kg
open PySem PySem.Spec PyProof.Rows L2 LamX
section
variable {K : PySem.W.Frag} {x qual : Str} {params : Arguments} {body : List Stmt} {scope : Scope} {f : Addr} {P : Program} {w : World} {mg : Str → Option Value} {base : Heap}
/-- as okG, where the code object is known -/
theorem okGc {XT : CXT} {N ps : List Str} {k : Nat} {sp : Sp} {dV kV doc pm cdv ct oc : Value} {an od : Option Addr} {osl : Array (Option Value)} (lk : K.lookup f = some ⟨oc, od, .func (PySem.W.fnOf x qual params body scope dV kV doc pm an cdv ct), osl⟩) (hcd : PySem.W.codeIn K cdv qual = true)
    (sc : FnScope N ps scope) (many : ∀ vs H Q E, sp vs H Q E → vs.length = ps.length)
    (walk : ∀ (A : Around) (outer : List Env) (s : Shared) (H : Hp) (vs : List V) (Q : VK) (E : XK), Room k (A.deeper (envOfC qual scope s.heap.objs.size f cdv)) → A.guards = some [] → sp vs H Q E →
      ∃ t, PSs (cxOf XT P w K mg base N qual scope f cdv A outer s H E) body t ∧ t { nx := fun _ H2 => Q .non H2, rt := Q } (start N vs) H) : FnG P w K mg base XT (k + 1) f (PySem.W.fnOf x qual params body scope dV kV doc pm an cdv ct) ps sp := by
  refine ⟨many, fun A outer s H args us vs Q E room quiet env0 bound rel asked => ?_⟩
  have same : vs.length = ps.length := many _ _ _ _ asked
  have inK : K.In s.heap := env0.mod.kin.keeps fun b o q => (env0.bs b o q).1
  have noLim : s.heap.NoLimit := env0.mod.nolimit.keeps fun b o q => (env0.bs b o q).1
  refine codeAny_call_function room.depth (inK _ _ lk) rfl sc.co sc.gen rfl (PySem.W.codeRec_of inK hcd) (bound _ _ _ _ ?_)
  refine wpAny_newFunctionEnv_cells sc.kind (fun ⟨n, v⟩ hy => ?_) fun env isEnv s1 fresh => ?_
  · rcases sc.par n (List.of_mem_zip hy).1 with q | q
    · exact .inl q
    · exact .inr ⟨q, PySem.W.cellsFrom_some _ _ _ (.inl q)⟩
  subst isEnv
  refine ⟨noLim.keeps fresh.toInCall.keep, codeAny_func ?_⟩
  obtain ⟨t, term, reading⟩ := walk A outer s H vs Q E (room.deeper _) quiet asked
  have J : Inv (cxOf XT P w K mg base N qual scope f cdv A outer s H E) [] (start N vs) H s1 := inv_start sc room.hd env0 same rel fresh
  refine wpAny_mono (term.run [] s1 (start N vs) H _ J reading) (fun flow s2 got => ?_) fun e s2 got => got
  cases flow with
  | ret u =>
    obtain ⟨v, σ2, H2, J2, rv, q⟩ := got
    exact ⟨v, H2, J2.os, J2.bare, J2.base, J2.hok, rv, q⟩
  | next =>
    obtain ⟨σ2, H2, J2, q⟩ := got
    exact ⟨V.non, H2, J2.os, J2.bare, J2.base, J2.hok, rfl, q⟩
  | brk =>
    obtain ⟨_, _, _, q⟩ := got
    exact q.elim
  | cont =>
    obtain ⟨_, _, _, q⟩ := got
    exact q.elim
end
section
variable {X : Cx} {XT : CXT} {k : Nat} {f : Addr} {fd : FuncData} {n x : Str} {sp : Sp} {E : XK} {p pos kpos : Pos} {e : Expr} {te : TE}
theorem runKW {pins : List (Addr × Obj)} {σ : L2.St} {H : Hp} {s : Shared} {Q : VK} {args : Args} {us : List Value} {vs : List V} {ps : List Str} (F : FnOk X.prog X.w X.K X.mg X.base XT k f fd ps sp) (hr : Room k X.A) (hx : Passes XT X E) (I : Inv X pins σ H s) (b : BindsTo s fd args (ps.zip us)) (r : Vals vs us) (h : sp vs H Q E) :
    wpAny (model X.prog X.w) X.A (call (.ref f) args.pos args.kw) (EP X pins σ Q) X.xe s := by
  refine wpAny_call (codeAny_mono (F.run X.A X.stack s H args us vs Q E hr I.env0 b r h) fun r2 s3 got => ?_)
  cases r2 with
  | error e => exact hx pins σ H s e s3 I got
  | ok fl =>
    cases fl with
    | ret u => exact I.after got
    | next => exact False.elim got
    | brk => exact False.elim got
    | cont => exact False.elim got
def tCallKW (sp : Sp) (E : XK) (te : TE) : TE := fun σ H Q => tCons te tNil σ H fun zs H1 => sp zs H1 Q E
/-- f(n=e), f a def of this one parameter -/
theorem pe_callKW (F : FnOk X.prog X.w X.K X.mg X.base XT k f fd [n] sp) (hr : Room k X.A) (hg : Gl X x) (hm : X.mg x = some (.ref f)) (hk : PySem.W.keepIn X.K (.ref f) = true) (hb : ∀ (s : Shared) (u : Value), X.K.In s.heap → BindsTo s fd ⟨[], [(n, u)]⟩ [(n, u)]) (hx : Passes XT X E)
    (he : PE X e te) (hdb : (x == ("__debug__" : Str)) = false := by decide) (hall : (backToKw pos (keywordEach [⟨some n, e, kpos⟩] X.env)).all (·.1.isSome) = true := by rfl)
    (hks : (backToKw pos (keywordEach [⟨some n, e, kpos⟩] X.env)).filterMap (·.1) = [n] := by rfl) (hpl : ((backTo pos (starEach [] X.env)).any (·.1) || (backToKw pos (keywordEach [⟨some n, e, kpos⟩] X.env)).any (·.1.isNone)) = false := by rfl) :
    PE X (.Call (.Name x p) [] [⟨some n, e, kpos⟩] pos) (tCallKW sp E te) := by
  refine ⟨fun pins s σ H Q I h => ?_⟩
  refine wpAny_Call_Name_kw (ld_glob I hg hm ?_ hdb)
  refine PySem.W.callWith_KW0 (h₀ := X.base) I.ok.mod.kin hk hall (thn ((pk_cons (nm := some n) he pk_nil).run pos pins s σ H _ I h) fun ws s2 ⟨zs, H2, I2, rz, q2⟩ => ⟨I2.kIn, ?_⟩) hpl
  rw [hks]
  have hl := F.len _ _ _ _ q2
  cases rz with
  | nil => exact absurd hl (by simp)
  | cons r1 r2 =>
    cases r2 with
    | cons r3 r4 => exact absurd hl (by simp)
    | nil =>
      exact runKW F hr hx I2 (hb s2 _ I2.kIn) (.cons r1 .nil) q2
end
end Kg
namespace Kg
open PySem PySem.Spec PyProof.Rows L2 LamX
abbrev QL : Str := ("_law_right" : Str) ++ (".<locals>." : Str) ++ ("<lambda>" : Str)
def rightScope : FnScope ["pot", "value", "gap", "rows", "seized"] ["pot"] (defScope sRight) := ⟨rfl, rfl, rfl, by decide +kernel, rfl, by decide +kernel, by decide +kernel⟩
theorem right_cells {L f : Addr} {cdv : Value} : ∀ q ∈ (envOfC "_law_right" (defScope sRight) L f cdv).cells, (envOfC "_law_right" (defScope sRight) L f cdv).cells.lookup q.1 = some q.2 := by
  have e : ∃ a b : Addr, (envOfC "_law_right" (defScope sRight) L f cdv).cells = [(("value" : Str), a), (("gap" : Str), b)] := ⟨_, _, rfl⟩
  obtain ⟨a, b, e⟩ := e
  rw [e]
  intro q hq
  rcases List.mem_cons.mp hq with z | z
  · rw [z]
    rfl
  · rcases List.mem_cons.mp z with z | z
    · rw [z]
      rfl
    · cases z
def GAPS : List Str := ["", " ", "\n", ";a b\n", " \n ", ";", "\n\n"]
def gapB (y : Str) : Bool := decide (y.length ≤ 100) && (!(linesOf y).isEmpty) && decide ((linesOf y).length < 12) && (linesOf y).all (fun l => decide (l.length < 11) && decide ((codeOfLine l).length ≤ 100)) && decide (textWords y = [])
theorem gaps_all : GAPS.all gapB = true := by decide +kernel
structure GapOk (y : Str) : Prop where
  fits : Fits y
  words : textWords y = []
  many : (linesOf y).length < 12
  last : ((linesOf y).getLastD ("" : Str)).length + 1 < 12
theorem gap_ok {y : Str} (h : y ∈ GAPS) : GapOk y := by
  have b := List.all_eq_true.mp gaps_all y h
  unfold gapB at b
  simp only [Bool.and_eq_true, decide_eq_true_eq, List.all_eq_true, Bool.not_eq_true'] at b
  obtain ⟨⟨⟨⟨b1, b2⟩, b3⟩, b4⟩, b5⟩ := b
  have ne : linesOf y ≠ [] := fun z => by
    rw [z] at b2
    cases b2
  refine ⟨⟨by omega, ne, by omega, fun l hl => ⟨by have := (b4 l hl).1; omega, by have := (b4 l hl).2; omega⟩, by rw [b5]; decide⟩, b5, b3, ?_⟩
  rw [lastD_eq ne]
  have := (b4 _ (List.getLast_mem ne)).1
  omega
theorem two_small : ∀ i j : Fin 12, (two ((i.val : Nat) : Int) ((j.val : Nat) : Int)).shown.length ≤ 100 ∧ ((i.val : Nat) : Int).natAbs.log2 < 1920 := by decide +kernel
def OPENA : Str := "(a"
theorem openA_words : textWords OPENA = [(("(" : Str), 1, 1), (("a" : Str), 1, 2)] := by decide +kernel
theorem openA_end : textEnd OPENA = (1, 3) := by decide +kernel
theorem openA_b : (decide (OPENA.length ≤ 100) && (!(linesOf OPENA).isEmpty) && decide ((linesOf OPENA).length < 12) && (linesOf OPENA).all (fun l => decide (l.length < 11) && decide ((codeOfLine l).length ≤ 100))) = true := by decide +kernel
theorem openA_fits : Fits OPENA := by
  have b := openA_b
  simp only [Bool.and_eq_true, decide_eq_true_eq, List.all_eq_true, Bool.not_eq_true'] at b
  obtain ⟨⟨⟨b1, b2⟩, b3⟩, b4⟩ := b
  have ne : linesOf OPENA ≠ [] := fun z => by
    rw [z] at b2
    cases b2
  exact ⟨by omega, ne, by omega, fun l hl => ⟨by have := (b4 l hl).1; omega, by have := (b4 l hl).2; omega⟩, by rw [openA_words]; decide⟩
theorem openA_run : RunOk S0 (textWords OPENA) := by
  rw [openA_words]
  have e0 : whereS S0 = .non := rfl
  refine ⟨.inl ⟨rfl, (by rw [e0]; exact (fun z => nomatch z)), by decide⟩, .inr ⟨by decide +kernel, by decide +kernel, by decide +kernel, by decide +kernel, ?_, ?_⟩, True.intro⟩
  · intro z
    have e : whereS (stepS S0 ("(" : Str)) = .str INLIST := by
      unfold stepS
      rw [if_pos rfl]
      rfl
    rw [e] at z
    exact absurd (V.str.inj z) (by decide +kernel)
  · intro z
    have e : whereS (stepS S0 ("(" : Str)) = .str INLIST := by
      unfold stepS
      rw [if_pos rfl]
      rfl
    rw [e] at z
    exact absurd (V.str.inj z) (by decide +kernel)
theorem openA_left : (runS S0 (textWords OPENA)).stack ≠ [] := by
  rw [openA_words]
  have e : (runS S0 [(("(" : Str), 1, 1), (("a" : Str), 1, 2)]).stack.isEmpty = false := by decide +kernel
  intro z
  rw [z] at e
  cases e
structure RightT (K : PySem.W.Frag) (mg : Str → Option Value) (CB CK fRf fOd fOf fCa fRd fPr : Addr) : Prop where
  l : LT K mg CB CK
  b : BT mg
  gRf : mg "_law_is_refused" = some (.ref fRf)
  gOd : mg "_law_odd" = some (.ref fOd)
  gOf : mg "_law_of" = some (.ref fOf)
  gCa : mg "_law_caught" = some (.ref fCa)
  gRd : mg "read" = some (.ref fRd)
  gPr : mg "printed" = some (.ref fPr)
  kRf : PySem.W.keepIn K (.ref fRf) = true
  kOd : PySem.W.keepIn K (.ref fOd) = true
  kOf : PySem.W.keepIn K (.ref fOf) = true
  kCa : PySem.W.keepIn K (.ref fCa) = true
  kRd : PySem.W.keepIn K (.ref fRd) = true
  kPr : PySem.W.keepIn K (.ref fPr) = true
/-- all but what stands at p, and the tables, stays -/
def KB (p : Addr) (G G' : Hp) : Prop := ∀ b o, b ≠ p → G b = some o → (∀ ps, o ≠ .tbl ps) → G' b = some o
theorem KB.same {p : Addr} {H G G' : Hp} (k : KB p H G) (s : Same G G') : KB p H G' := fun b o n e t => s _ _ (k b o n e t)
theorem KB.extn {p : Addr} {H G G' : Hp} (k : KB p H G) (s : ExtN G G') : KB p H G' := fun b o n e t => s _ _ (k b o n e t) t
theorem KB.but {p : Addr} {H G G' : Hp} (k : KB p H G) (s : SameBut G G' p) : KB p H G' := fun b o n e t => s _ _ n (k b o n e t)
theorem KB.refl {p : Addr} {H : Hp} : KB p H H := fun b o n e t => e
theorem tabs_but {T : List (Addr × Str)} {H H' : Hp} {p : Addr} (t : Tabs T H) (s : SameBut H H' p) (h : ∃ xs, H p = some (.lst xs)) : Tabs T H' := fun q hq => by
  obtain ⟨xs, e⟩ := h
  obtain ⟨ps, h1, h2, h3⟩ := t q hq
  refine ⟨ps, s _ _ (fun z => by rw [z, e] at h1; cases h1) h1, h2, fun pos cv hc => ?_⟩
  obtain ⟨c, e1, e2⟩ := h3 pos cv hc
  exact ⟨c, e1, s _ _ (fun z => by rw [z, e] at e2; cases e2) e2⟩
theorem pot_extn {H H' : Hp} {p : Addr} {n : Int} (h : PotAt H p n) (s : ExtN H H') : PotAt H' p n := by
  obtain ⟨a, b, c, e, r⟩ := h
  exact ⟨a, b, c, s _ _ e (fun _ z => nomatch z), r⟩
def spRight (Pt : Addr) : Sp := fun vs H Q _ => ∃ (p : Addr), vs = [.ref p] ∧ PotAt H p 0 ∧ Tabs [(Pt, QL)] H ∧ ∀ H', KB p H H' → Tabs [(Pt, QL)] H' → Q (.bl true) H'
section
variable {P : Program} {w : World} {K : PySem.W.Frag} {mg : Str → Option Value} {base : Heap} {f CB CK CP c Pt fRf fOd fOf fCa fRd fPr : Addr} {fdRf fdOd fdOf fdCa fdRd fdPr : FuncData}
theorem ok_right {dV kV doc pm ct oc : Value} {an od : Option Addr} {osl : Array (Option Value)} (lk : K.lookup f = some ⟨oc, od, .func (PySem.W.fnOf "_law_right" "_law_right" (defArgs sRight) (defBody sRight) (defScope sRight) dV kV doc pm an (.ref c) ct), osl⟩) (hcd : PySem.W.codeIn K (.ref c) "_law_right" = true)
    (TB : TabB base mg c Pt) (R : RightT K mg CB CK fRf fOd fOf fCa fRd fPr)
    (GRf : ∀ B : Heap, FnG P w K mg B CX0 10 fRf fdRf ["call", "word", "value"] (spRefused P w K mg CB B)) (GOd : FnOk P w K mg base CX0 3 fOd fdOd ["pot"] spOdd) (GOf : FnOk P w K mg base CX0 2 fOf fdOf ["pot", "some"] (spOf K))
    (GCa : ∀ B : Heap, FnG P w K mg B CX0 9 fCa fdCa ["call"] (spCaught P w K mg CK B)) (GRd : FnOk P w K mg base (L2.CX P w) 7 fRd fdRd ["text"] (spRead0 K CB)) (GPr : FnOk P w K mg base (L2.CX P w) 7 fPr fdPr ["text"] (spDatum0 K CB))
    (bRf : Binds K fdRf ["call", "word", "value"] []) (bOd : Binds K fdOd ["pot"] []) (bOf : Binds K fdOf ["pot", "some"] []) (bCa : Binds K fdCa ["call"] []) (bRd : Binds K fdRd ["text"] []) (bPr : Binds K fdPr ["text"] [])
    (wRd : ∀ (s : Shared) (u : Value), K.In s.heap → BindsTo s fdRd ⟨[], [(("text" : Str), u)]⟩ [(("text" : Str), u)]) (wPr : ∀ (s : Shared) (u : Value), K.In s.heap → BindsTo s fdPr ⟨[], [(("text" : Str), u)]⟩ [(("text" : Str), u)]) :
    FnG P w K mg base CX0 11 f (PySem.W.fnOf "_law_right" "_law_right" (defArgs sRight) (defBody sRight) (defScope sRight) dV kV doc pm an (.ref c) ct) ["pot"] (spRight Pt) := by
  refine okGc lk hcd rightScope (fun vs H Q E h => ?_) (fun A outer s H vs Q E hr hgu h => ?_)
  · obtain ⟨p, rfl, _⟩ := h
    rfl
  · obtain ⟨p, rfl, hp, hT, k⟩ := h
    have hr3 : Room 3 _ := hr.mono (by decide)
    have hr2 : Room 2 _ := hr.mono (by decide)
    have hr9 : Room 9 _ := hr.mono (by decide)
    have hr7 : Room 7 _ := hr.mono (by decide)
    have hu64 : (A.deeper (envOfC ("_law_right" : Str) (defScope sRight) s.heap.objs.size f (.ref c))).units + 64 < cLine := by
      have z := hr.un
      omega
    refine ⟨_, pss_cons (ps_for (passes_of rfl) rfl (pi_tup (pe_tup (pa_cons pe_non (pa_cons pe_int (pa_cons pe_bl (pa_cons (pe_tup pa_nil) (pa_cons (pe_tup (pa_cons pe_str pa_nil)) (pa_cons (pe_lst (pa_cons pe_str pa_nil)) (pa_cons pe_dnewK
          (pa_cons (pe_disp (pps_cons pe_str pe_str pps_nil) (by rfl) (by rfl) (fun z => by cases z) (by decide)) (pa_cons (pe_un un_neg pe_int) (pa_cons (pe_call GOd hr3 rfl R.gOd R.kOd bOd .nil pass0 (pa_cons (pv 0) pa_nil)) pa_nil)))))))))))) (pg_name (i := 1) rightScope.nd rfl (Or.inr rfl))
        (pss_cons (ps_if (pt_not (pt_val (pe_lamArg (T := [(Pt, QL)]) (k := 7) (CX := CX0) (E := E0) (tb := fun E => tCallKW (spRead0 K CB) E (tVar 1)) (fun B _ _ => GRf B) hr hgu rfl R.gRf R.kRf bRf pass0 TB rfl (List.mem_singleton.mpr rfl) (fun p hp _ => by rw [List.mem_singleton.mp hp] <;> rfl) (lamS_by (sc := defScope sRight) (by decide +kernel)) rfl (fun _ _ _ _ _ => rfl)
              (fun A outer u1 H1 E f c' hr' => pe_callKW (XT := L2.CX P w) GRd hr' rfl R.gRd R.kRd wRd (passes_call (takes_of rfl rfl rfl rfl) (fun _ _ _ _ h => h)) (pv 1))
              (pa_cons pe_str (pa_cons (pe_tup (pa_cons pe_int (pa_cons pe_int pa_nil))) pa_nil)) rfl rfl (fun _ => rfl) right_cells))) (pss_one (ps_ret pe_bl)) pss_nil)
        (pss_one (ps_if (pt_not (pt_val (pe_lamArg (T := [(Pt, QL)]) (k := 7) (CX := CX0) (E := E0) (tb := fun E => tCallKW (spDatum0 K CB) E (tVar 1)) (fun B _ _ => GRf B) hr hgu rfl R.gRf R.kRf bRf pass0 TB rfl (List.mem_singleton.mpr rfl) (fun p hp _ => by rw [List.mem_singleton.mp hp] <;> rfl) (lamS_by (sc := defScope sRight) (by decide +kernel)) rfl (fun _ _ _ _ _ => rfl)
              (fun A outer u1 H1 E f c' hr' => pe_callKW (XT := L2.CX P w) GPr hr' rfl R.gPr R.kPr wPr (passes_call (takes_of rfl rfl rfl rfl) (fun _ _ _ _ h => h)) (pv 1))
              (pa_cons pe_str (pa_cons (pe_tup (pa_cons pe_int (pa_cons pe_int pa_nil))) pa_nil)) rfl rfl (fun _ => rfl) right_cells))) (pss_one (ps_ret pe_bl)) pss_nil))))
      (pss_cons (ps_set (i := 2) rightScope.nd rfl (Or.inr rfl) (pe_call GOf hr2 rfl R.gOf R.kOf bOf .nil pass0 (pa_cons (pv 0) (pa_cons (pe_lst (pa_cons pe_str (pa_cons pe_str (pa_cons pe_str (pa_cons pe_str (pa_cons pe_str (pa_cons pe_str (pa_cons pe_str pa_nil)))))))) pa_nil))))
      (pss_cons (ps_set (i := 3) rightScope.nd rfl (Or.inl rfl) (pe_split (pv 2) pe_str))
      (pss_cons (ps_if (PW.pt (pw_or (pt_cmpR (op_neD hu64) (pe_call (E := E0) GRd hr7 rfl R.gRd R.kRd bRd .nil (passes_call L2.takes0 (fun _ _ _ _ h => h)) (pa_cons (pv 2) pa_nil)) (pe_tup pa_nil) (nomark _))
          (pw_or1 (pt_not (pt_val (pe_lamArg (T := [(Pt, QL)]) (k := 7) (CX := CX0) (E := E0) (tb := fun E => tCall (spDatum0 K CB) [] E (tCons (tVar 2) tNil)) (fun B _ _ => GRf B) hr hgu rfl R.gRf R.kRf bRf pass0 TB rfl (List.mem_singleton.mpr rfl) (fun p hp _ => by rw [List.mem_singleton.mp hp] <;> rfl) (lamS_by (sc := defScope sRight) (by decide +kernel)) rfl (fun _ _ _ _ _ => rfl)
              (fun A outer u1 H1 E f c' hr' => pe_call (CX := L2.CX P w) GPr hr' rfl R.gPr R.kPr bPr .nil (passes_call (takes_of rfl rfl rfl rfl) (fun _ _ _ _ h => h)) (pa_cons (pv 2) pa_nil))
              (pa_cons pe_str (pa_cons (pe_tup (pa_cons (pe_callB call_len_seq (by rfl) R.b.len PySem.boot_len (pa_cons (pv 3) pa_nil)) (pa_cons (pe_op op_add (pe_callB call_len_str (by rfl) R.b.len PySem.boot_len (pa_cons (pe_ix ix_list (pv 3) (pe_un un_neg pe_int) (fun _ _ => rfl)) pa_nil)) pe_int) pa_nil))) pa_nil)) rfl rfl (fun _ => rfl) right_cells)))))) (pss_one (ps_ret pe_bl)) pss_nil)
      (pss_cons (ps_set (i := 4) rightScope.nd rfl (Or.inl rfl) (pe_ix ix_tup (pe_lamArg (T := [(Pt, QL)]) (k := 7) (CX := CX0) (E := E0) (tb := fun E => tCall (spRead0 K CB) [] E (tCons (tC (.str "(a")) tNil)) (fun B _ _ => GCa B) hr9 hgu rfl R.gCa R.kCa bCa pass0 TB rfl (List.mem_singleton.mpr rfl) (fun p hp _ => by rw [List.mem_singleton.mp hp] <;> rfl) (lamS_by (sc := defScope sRight) (by decide +kernel)) rfl (fun _ _ _ _ _ => rfl)
              (fun A outer u1 H1 E f c' hr' => pe_call (CX := L2.CX P w) GRd hr' rfl R.gRd R.kRd bRd .nil (passes_call (takes_of rfl rfl rfl rfl) (fun _ _ _ _ h => h)) (pa_cons pe_str pa_nil)) pa_nil rfl rfl (fun _ => rfl) right_cells) pe_int (fun _ _ => rfl)))
      (pss_one (ps_ret (pe_and (pe_callB call_isv (by rfl) R.l.isi (by decide +kernel) (pa_cons (pv 4) (pa_cons (pe_glob (v := .ref CK) rfl R.l.gK rfl) pa_nil))) (pe_and (pe_callB call_isv (by rfl) R.l.isi (by decide +kernel) (pa_cons (pv 4) (pa_cons (pe_bltn (v := .ty "ValueError") rfl R.l.vE (by decide +kernel) rfl) pa_nil)))
        (pe_one (pe_cmpR op_eq (pe_callB (call_rep2 hr hgu) (by rfl) R.l.rep (by decide +kernel) (pa_cons (pe_xv (pv 4)) pa_nil)) (pe_callB (call_rep2 hr hgu) (by rfl) R.l.rep (by decide +kernel) (pa_cons (pe_tup (pa_cons pe_int (pa_cons pe_int pa_nil))) pa_nil)) (nomark _))))))))))), ?_⟩
    refine ⟨(by show 0 ≤ sizeLine; decide), fun a1 n1 => ⟨(by show 1 ≤ sizeLine; decide), fun a2 n2 => ⟨(by show 1 ≤ sizeLine; decide), fun a3 n3 => ?_⟩⟩⟩
    intro a4 n4
    intro a5 n5
    have u1 := same_upd (o := .tup []) n1
    have u2 := u1.trans (same_upd (o := .tup [.str "a"]) n2)
    have u3 := u2.trans (same_upd (o := .lst [.str "a"]) n3)
    have u4 := u3.trans (same_upd (o := .dK []) n4)
    have u5 := u4.trans (same_upd (o := .dK []) n5)
    refine ⟨upd_same, [(Sum.inr "text", .str "a")], rfl, by decide, 1, rfl, _, rfl, p, 0, rfl, ?_⟩
    generalize hG5 : upd (upd (upd (upd (upd (upd H a1 (.tup [])) a2 (.tup [.str "a"])) a3 (.lst [.str "a"])) a4 (.dK [])) a5 (.dK [])) a5 (.dK (mergeK [] [(Sum.inr "text", .str "a")])) = G5
    have w5 : Same (upd (upd (upd (upd H a1 (.tup [])) a2 (.tup [.str "a"])) a3 (.lst [.str "a"])) a4 (.dK [])) G5 := fun b o e => by
      have nb := ne_of_none e n5
      rw [← hG5, upd_ne nb, upd_ne nb]
      exact e
    have w0 : Same H G5 := u4.trans w5
    have o1 : OddV G5 (.ref a1) := .tup (w5 _ _ ((((same_upd n2).trans (same_upd n3)).trans (same_upd n4)) _ _ upd_same))
    have o2 : OddV G5 (.ref a2) := .tup (w5 _ _ (((same_upd n3).trans (same_upd n4)) _ _ upd_same))
    have o3 : OddV G5 (.ref a3) := .lst (w5 _ _ ((same_upd n4) _ _ upd_same))
    have o4 : OddV G5 (.ref a4) := .dK (w5 _ _ upd_same)
    have o5 : OddV G5 (.ref a5) := .dK (by rw [← hG5]; exact upd_same)
    have np : ∀ {G : Hp} {q : Addr}, Same H G → G q = none → q ≠ p := fun sG nq z => by
      obtain ⟨xs, e⟩ := pot_lst hp
      rw [z, sG _ _ e] at nq
      cases nq
    have p1 : a1 ≠ p := np (fun _ _ e => e) n1
    have p2 : a2 ≠ p := np u1 n2
    have p3 : a3 ≠ p := np u2 n3
    have p4 : a4 ≠ p := np u3 n4
    have p5 : a5 ≠ p := np u4 n5
    refine ⟨pot_ext hp w0, by decide, fun x G6 hx sb pn => ?_⟩
    have t6 : Tabs [(Pt, QL)] G6 := tabs_but (hT.ext w0) sb (pot_lst (pot_ext hp w0))
    have k6 : KB p H G6 := (KB.refl.same w0).but sb
    have go : ∀ a, a ≠ p → OddV G5 (.ref a) → OddV G6 (.ref a) := fun a n o => o.keep fun b u e1 e2 _ => by
      cases e1
      exact sb _ _ n e2
    generalize hvs : ([.non, .int 5, .bl true, .ref a1, .ref a2, .ref a3, .ref a4, .ref a5, .int (-1), x] : List V) = vs
    have allodd : ∀ v ∈ vs, OddV G6 v := by
      intro v hv
      rw [← hvs] at hv
      have mem : v = .non ∨ v = .int 5 ∨ v = .bl true ∨ v = .ref a1 ∨ v = .ref a2 ∨ v = .ref a3 ∨ v = .ref a4 ∨ v = .ref a5 ∨ v = .int (-1) ∨ v = x := by simpa using hv
      rcases mem with e | e | e | e | e | e | e | e | e | e <;> subst e
      · exact .inl rfl
      · exact .inr (.inr (.inl ⟨_, rfl⟩))
      · exact .inr (.inl ⟨_, rfl⟩)
      · exact go _ p1 o1
      · exact go _ p2 o2
      · exact go _ p3 o3
      · exact go _ p4 o4
      · exact go _ p5 o5
      · exact .inr (.inr (.inl ⟨_, rfl⟩))
      · exact hx
    refine ⟨(by show 10 ≤ sizeLine; decide), fun T nT => ?_⟩
    refine ⟨T, rfl, ⟨_, SqT.of upd_same⟩, for_tup (K := K) (a := T) (xs := vs) (fun i σ G => ∃ o, σ = [some (.ref p), o, none, none, none] ∧ KB p H G ∧ Tabs [(Pt, QL)] G ∧ PotAt G p 1 ∧ G T = some (.tup vs) ∧ ∀ v ∈ vs, OddV G v) ?_ ?_ ?_ ?_⟩
    · refine ⟨none, rfl, k6.same (same_upd nT), t6.ext (same_upd nT), pot_ext pn (same_upd nT), by rw [← hvs]; exact upd_same, fun v hv => (allodd v hv).keep fun b u _ e _ => (same_upd nT) _ _ e⟩
    · rintro i σ G _ ⟨_, _, _, _, _, h, _⟩
      exact SqT.of h
    · rintro i v σ G hi ⟨o, rfl, k1, t1, q1, g1, v1⟩
      have vm : v ∈ vs := List.mem_of_getElem? hi
      have z0 : (0 : Int).natAbs.log2 < 1920 := by decide
      have zz : (two 0 0).shown.length ≤ sizeLine := Nat.le_trans (show (two 0 0).shown.length ≤ 100 by decide +kernel) (by decide)
      refine ⟨t1, fun G1 f1 c1 eN T1 hco => ⟨(by show 2 ≤ sizeLine; decide), fun t nt => ?_⟩⟩
      intro B hB th
      have st := same_upd (o := .tup [.int 0, .int 0]) nt
      have v1' : OddV (upd G1 t (.tup [.int 0, .int 0])) v := (v1 v vm).keep fun b u _ e n => st _ _ (eN _ _ e n)
      refine ⟨f1, t, 0, 0, _, rfl, upd_same, z0, z0, zz, hB, th, fun Q1 E1 hE => ⟨st _ _ hco, v, rfl, v, rfl, .inr ⟨v1'.nst, fun H1 T1 s1 hT1 d H' s2 nd hd => hE d T1 H' (s1.trans s2) hd (s2 _ _ hT1)⟩⟩, fun G2 s2 => ⟨true, rfl, ?_⟩⟩
      refine iteF ?_
      have S2 := st.trans s2
      have T2 : Tabs [(Pt, QL)] G2 := T1.ext S2
      have v2 : OddV G2 v := (v1 v vm).keep fun b u _ e n => S2 _ _ (eN _ _ e n)
      refine ⟨T2, fun G3 f3 c3 eN3 T3 hco3 => ⟨(by show 2 ≤ sizeLine; decide), fun t3 nt3 => ?_⟩⟩
      intro B3 hB3 th3
      have st3 := same_upd (o := .tup [.int 0, .int 0]) nt3
      have v3' : OddV (upd G3 t3 (.tup [.int 0, .int 0])) v := v2.keep fun b u _ e n => st3 _ _ (eN3 _ _ e n)
      refine ⟨f3, t3, 0, 0, _, rfl, upd_same, z0, z0, zz, hB3, th3, fun Q1 E1 hE => ⟨st3 _ _ hco3, v, rfl, v, rfl, .inr ⟨v3'.nst, fun H1 T1 s1 hT1 d H' s2 nd hd => hE d T1 H' (s1.trans s2) hd (s2 _ _ hT1)⟩⟩, fun G4 s4 => ⟨true, rfl, ?_⟩⟩
      refine iteF ?_
      have S4 := st3.trans s4
      have X4 : ExtN G G4 := ((eN.trans (ExtN.of S2)).trans eN3).trans (ExtN.of S4)
      exact ⟨_, rfl, k1.extn X4, T3.ext S4, pot_extn q1 X4, X4 _ _ g1 (fun _ z => nomatch z), fun u hu => (v1 u hu).keep fun b o _ e n => X4 _ _ e n⟩
    · rintro σ G ⟨o, rfl, k1, t1, q1, g1, v1⟩
      refine ⟨_, rfl, (by show 7 ≤ sizeLine; decide), fun l nl => ?_⟩
      have npl : l ≠ p := fun z => by
        obtain ⟨xs, e⟩ := pot_lst q1
        rw [z, e] at nl
        cases nl
      refine ⟨p, l, _, 1, rfl, pot_ext q1 (same_upd nl), by decide, upd_same, npl, by simp, (by show 7 < 100; decide), fun y0 G1 hy0 sb1 pn1 => ?_⟩
      have hy : ∃ y, y0 = .str y ∧ y ∈ GAPS := by
        have mem : y0 ∈ GAPS.map V.str := hy0
        obtain ⟨y, h1, h2⟩ := List.mem_map.mp mem
        exact ⟨y, h2.symm, h1⟩
      obtain ⟨y, rfl, hyG⟩ := hy
      have gk := gap_ok hyG
      have k2 : KB p H G1 := (k1.same (same_upd nl)).but sb1
      have t2 : Tabs [(Pt, QL)] G1 := tabs_but (t1.ext (same_upd nl)) sb1 (pot_lst (pot_ext q1 (same_upd nl)))
      refine ⟨_, rfl, ⟨_, rfl⟩, y, _, rfl, rfl, (by decide +kernel), Nat.le_trans (Nat.add_le_add_right gk.fits.len 2) (by decide), fun ls nls => ?_⟩
      have s3 := same_upd (o := .lst ((linesOf y).map V.str)) nls
      have hls : upd G1 ls (.lst ((linesOf y).map V.str)) ls = some (.lst ((linesOf y).map V.str)) := upd_same
      refine ⟨_, rfl, .str y, rfl, .inl ⟨y, rfl, gk.fits, by rw [gk.words]; exact True.intro, fun _ => ⟨by rw [gk.words]; rfl, fun G4 r4 s4 hr4 => ?_⟩, fun hne => absurd (by rw [gk.words]; rfl) hne⟩⟩
      refine ⟨(by show 0 ≤ sizeLine; decide), fun r5 n5 => ?_⟩
      refine ⟨.tuple [], .tuple [], .tup (SqT.of ((same_upd n5) _ _ hr4)) .nil, .tup (SqT.of upd_same) .nil, rfl, rfl, false, by rw [SeqAt.eqv_refl] <;> rfl, ?_⟩
      refine iteF ?_
      have s5 := s4.trans (same_upd (o := .tup []) n5)
      have s35 := s3.trans s5
      refine ⟨t2.ext s35, fun G6 f6 c6 eN6 T6 hco6 => ?_⟩
      have hls6 : G6 ls = some (.lst ((linesOf y).map V.str)) := eN6 _ _ (s5 _ _ hls) (fun _ z => nomatch z)
      have hlen : ((linesOf y).map V.str).length = (linesOf y).length := by simp
      have hlast : atI ((linesOf y).map V.str) (-1) = some (.str ((linesOf y).getLastD ("" : Str))) := by
        have e : linesOf y = (linesOf y).dropLast ++ [(linesOf y).getLast gk.fits.ne] := (List.dropLast_concat_getLast gk.fits.ne).symm
        have e2 : (linesOf y).getLastD ("" : Str) = (linesOf y).getLast gk.fits.ne := lastD_eq gk.fits.ne
        rw [e2]
        conv => lhs; rw [e]
        rw [List.map_append]
        exact atI_last _ _
      have hll : ((linesOf y).getLastD ("" : Str)).length ≤ sizeLine := Nat.le_trans (show _ ≤ 12 by have := gk.last; omega) (by decide)
      refine ⟨_, rfl, ls, _, rfl, .inl (SqL.of hls6), _, rfl, 1, rfl, ls, _, _, _, rfl, rfl, SqL.of hls6, hlast, _, rfl, hll, _, _, rfl, rfl, (by show 2 ≤ sizeLine; decide), fun t nt => ?_⟩
      intro B hB th
      have st := same_upd (o := .tup [.int (((linesOf y).map V.str).length : Nat), .int ((((linesOf y).getLastD ("" : Str)).length : Nat) + 1)]) nt
      have zb := two_small ⟨(linesOf y).length, gk.many⟩ ⟨((linesOf y).getLastD ("" : Str)).length + 1, gk.last⟩
      have zc := two_small ⟨((linesOf y).getLastD ("" : Str)).length + 1, gk.last⟩ ⟨(linesOf y).length, gk.many⟩
      refine ⟨f6, t, (((linesOf y).length : Nat) : Int), ((((linesOf y).getLastD ("" : Str)).length + 1 : Nat) : Int), _, rfl, by rw [upd_same, hlen]; rfl, zb.2, zc.2, Nat.le_trans zb.1 (by decide), hB, th,
        fun Q1 E1 hE => ⟨st _ _ hco6, _, rfl, .str y, rfl, .inl ⟨y, rfl, gk.fits, gk.words, fun H1 T1 s1 hEnd d H' s2 nd hd => hE d T1 H' (s1.trans s2) hd (s2 _ _ hEnd)⟩⟩, fun G7 s7 => ⟨true, rfl, ?_⟩⟩
      refine iteF ?_
      have S7 := st.trans s7
      have T7 : Tabs [(Pt, QL)] G7 := T6.ext S7
      have k7 : KB p H G7 := ((k2.same s35).extn eN6).same S7
      refine ⟨T7, fun G8 f8 c8 eN8 T8 hco8 => ?_⟩
      intro B8 hB8 th8
      refine ⟨f8, _, rfl, hB8, th8, fun Q1 E1 _ hE => ⟨hco8, .str OPENA, rfl, .inl ⟨OPENA, rfl, openA_fits, openA_run, fun hst => absurd hst openA_left, fun _ H1 T1 s1 hEnd d H' s2 nd hd => hE _ _ _ ⟨R.l.eK, fun a t na nt ne => ?_⟩⟩⟩⟩
      have hT1 : H1 T1 = some (.tup [.int 1, .int 3]) := by
        have z : H1 T1 = some (.tup [.int ((textEnd OPENA).1 : Nat), .int ((textEnd OPENA).2 : Nat)]) := hEnd
        rw [openA_end] at z
        exact z
      have ht : upd (upd H' t (.tup [.ref a, .non])) a (exv a (.ref CB) (some d)) t = some (.tup [.ref a, .non]) := by
        rw [upd_ne ne, upd_same]
      have sm : Same H' (upd (upd H' t (.tup [.ref a, .non])) a (exv a (.ref CB) (some d))) := fun b o q => by
        rw [upd_ne (ne_of_none q na), upd_ne (ne_of_none q nt)]
        exact q
      have ha : upd (upd H' t (.tup [.ref a, .non])) a (exv a (.ref CB) (some d)) a = some (exv a (.ref CB) (some d)) := upd_same
      have S9 := (s1.trans s2).trans sm
      have l1 : (1 : Int).natAbs.log2 < 1920 := by decide +kernel
      have l3 : (3 : Int).natAbs.log2 < 1920 := by decide +kernel
      have zl : (two 1 3).shown.length ≤ sizeLine := Nat.le_trans (show (two 1 3).shown.length ≤ 100 by decide +kernel) (by decide)
      refine ⟨t, [.ref a, .non], 0, .ref a, rfl, rfl, SqT.of ht, atI_nat (j := 0) rfl, ?_⟩
      refine ⟨_, rfl, a, d, CB, _, .ref CK, .ref CK, true, rfl, ha, sm _ _ hd, R.l.x, .own _, R.l.kK, _, rfl, ?_⟩
      refine iteT ?_
      refine ⟨_, rfl, a, d, CB, _, .ty "ValueError", .type "ValueError", true, rfl, ha, sm _ _ hd, R.l.x, .ty _, R.l.kV, _, rfl, ?_⟩
      refine iteT ?_
      refine ⟨_, rfl, a, d, CB, _, .ref T1, rfl, ha, sm _ _ hd, R.l.x, R.l.noV, rfl, ?_⟩
      refine ⟨T1, 1, 3, rfl, sm _ _ (s2 _ _ hT1), l1, l3, zl, ?_⟩
      refine ⟨(by show 2 ≤ sizeLine; decide), fun t9 n9 => ?_⟩
      refine ⟨t9, 1, 3, rfl, upd_same, l1, l3, zl, ?_⟩
      refine ⟨rfl, ?_⟩
      rw [show (decide (V.str (two 1 3).shown = V.str (two 1 3).shown)) = true from by simp]
      have S10 := S9.trans (same_upd (o := .tup [.int 1, .int 3]) n9)
      exact k _ ((k7.extn eN8).same S10) (T8.ext S10)
end
end Kg
namespace Kg
open PySem PySem.Spec PyProof.Rows L2 LamX
def spLaw (K : PySem.W.Frag) (Pt : Addr) : Sp := fun vs H Q _ => ∃ (l : Addr) (ns : List Int), vs = [.ref l] ∧ SqL K H l (ns.map V.int) ∧ ns.length ≤ 100 ∧ Tabs [(Pt, QL)] H ∧ ∀ H', Q (.bl true) H'
theorem scLaw : FnScope ["script", "place"] ["script"] (defScope sLaw) := ⟨rfl, rfl, rfl, by decide +kernel, rfl, by decide +kernel, by decide +kernel⟩
theorem seq_extn {K : PySem.W.Frag} {H H' : Hp} {a : Addr} {xs : List V} (e : ExtN H H') (h : SqL K H a xs) : SqL K H' a xs := by
  rcases h with (h | ⟨o, h⟩) | h
  · exact .inl (.inl (e _ _ h (fun _ z => nomatch z)))
  · exact .inl (.inr ⟨o, e _ _ h (fun _ z => nomatch z)⟩)
  · exact .inr h
section
variable {P : Program} {w : World} {K : PySem.W.Frag} {mg : Str → Option Value} {base : Heap} {f Pt fPo fCe fRi : Addr} {fd fdPo fdCe fdRi : FuncData}
theorem ok_law (F : FnP K "law" "law" sLaw f fd) (T : BT mg) (GPo : FnOk P w K mg base CX0 1 fPo fdPo ["script", "place"] (spLawPot K)) (GCe : FnOk P w K mg base CX0 1 fCe fdCe ["script", "limit"] (spCells K)) (GRi : FnG P w K mg base CX0 11 fRi fdRi ["pot"] (spRight Pt))
    (bPo : Binds K fdPo ["script", "place"] []) (bCe : Binds K fdCe ["script", "limit"] []) (bRi : Binds K fdRi ["pot"] []) (gPo : mg "_law_pot" = some (.ref fPo)) (gCe : mg "_law_cells" = some (.ref fCe)) (gRi : mg "_law_right" = some (.ref fRi))
    (kPo : PySem.W.keepIn K (.ref fPo) = true) (kCe : PySem.W.keepIn K (.ref fCe) = true) (kRi : PySem.W.keepIn K (.ref fRi) = true) : FnG P w K mg base CX0 12 f fd ["script"] (spLaw K Pt) := by
  refine okG F scLaw (fun vs H Q E h => ?_) (fun cdv A outer s H vs Q E hr hgu h => ?_)
  · obtain ⟨l, ns, rfl, _⟩ := h
    rfl
  · obtain ⟨l, ns, rfl, hl, hz, hT, k⟩ := h
    have hr1 : Room 1 _ := hr.mono (by decide)
    refine ⟨_, pss_one (ps_ret (pe_callB (cr_all rfl) (by rfl) T.all (by decide +kernel) (pa_cons (pe_lc (own := [("place", 1)]) (g := gName 1) (tt := tYes) rfl scLaw.nd
      (pi_list (pe_call GCe hr1 rfl gCe kCe bCe .nil pass0 (pa_cons (pv 0) (pa_cons pe_int pa_nil)))) (blkOk_by (own := [("place", 1)]) (N := ["script", "place"]) (sc := defScope sLaw) (by decide +kernel))
        (fun _ _ _ _ _ => pg_name (i := 1) scLaw.nd rfl (Or.inl rfl)) (fun _ _ _ _ _ => pts_nil)
        (fun _ _ _ _ _ => pe_callG GRi hr hgu rfl gRi kRi bRi pass0 (pa_cons (pe_call GPo hr1 rfl gPo kPo bPo .nil pass0 (pa_cons (pv 0) (pa_cons (pv 1) pa_nil))) pa_nil))) pa_nil))), ?_⟩
    refine ⟨_, rfl, l, _, rfl, hl, by rw [List.length_map]; exact hz, fun q nq c c0 c2 cx => ?_⟩
    have s1 := same_upd (o := .lst (rgV 0 c)) nq
    refine ⟨q, rfl, ⟨_, SqL.of upd_same⟩, fun D nD => lc_list (K := K) (a := q) (xs := rgV 0 c) (fun i G => ExtN (upd H q (.lst (rgV 0 c))) G ∧ Tabs [(Pt, QL)] G ∧ G D = some (.lst ((List.replicate i true).map V.bl))) ?_ ?_ ?_ ?_⟩
    · exact ⟨ExtN.of (same_upd nD), (hT.ext s1).ext (same_upd nD), upd_same⟩
    · exact fun i G _ ⟨e, _, _⟩ => SqL.of (e _ _ upd_same (fun _ z => nomatch z))
    · rintro i v G hi ⟨e1, t1, d1⟩
      refine ⟨rfl, ?_⟩
      refine yesI ?_
      have hn : (rgV 0 (c : Int)).length = c := by rw [rgV_length]; omega
      have hi2 : i < c := by
        have := (List.getElem?_eq_some_iff.mp hi).1
        omega
      have hv : v = .int (i : Int) := by
        unfold rgV at hi
        rw [List.getElem?_map] at hi
        have e : (List.range ((c : Int) - 0).toNat)[i]? = some i := by
          rw [List.getElem?_range]
          omega
        rw [e] at hi
        have z := Option.some.inj hi
        rw [← z]
        simp
      subst hv
      have hsc : SqL K G l (ns.map V.int) := seq_extn e1 (s1.seq hl)
      refine ⟨_, rfl, _, rfl, l, ns, i, rfl, hsc, hz, by omega, ?_, fun p G2 s2 np pz => ?_⟩
      · rcases cx with h1 | ⟨_, h1⟩
        · rw [List.length_map] at h1
          exact .inl (by omega)
        · exact .inr (by simpa using h1)
      refine ⟨p, rfl, pz, t1.ext s2, fun G3 k3 t3 => ?_⟩
      have nDp : D ≠ p := ne_of_none d1 np
      have d3 : G3 D = some (.lst ((List.replicate i true).map V.bl)) := k3 _ _ nDp (s2 _ _ d1) (fun _ z => nomatch z)
      refine ⟨_, d3, ?_, fun b o e n => ?_, ?_, ?_⟩
      · rw [List.length_map, List.length_replicate]
        exact Nat.lt_of_le_of_lt (show i ≤ 10 by omega) (by decide)
      · have nb : b ≠ D := ne_of_none e nD
        have g1 := e1 b o e n
        rw [upd_ne nb]
        exact k3 _ _ (ne_of_none g1 np) (s2 _ _ g1) n
      · exact tabs_but t3 (fun b o ne e => by rw [upd_ne ne]; exact e) ⟨_, d3⟩
      · rw [upd_same, List.replicate_succ', List.map_append]
        rfl
    · rintro G ⟨e1, t1, d1⟩
      refine ⟨D, _, rfl, SqL.of d1, ?_⟩
      rw [show (List.replicate (rgV 0 c).length true).all id = true from by simp]
      exact k _
end
end Kg
namespace Kg
open PySem PySem.Spec PyProof.Rows L2 LamX
def d_words_in : He.DefD := ⟨("words_in", none), "words_in", "words_in", defArgs sWordsIn, defBody sWordsIn, defScope sWordsIn, [], []⟩
def d_line_words : He.DefD := ⟨("line_words", none), "line_words", "line_words", defArgs sLineWords, defBody sLineWords, defScope sLineWords, [], []⟩
def d_word_end : He.DefD := ⟨("word_end", none), "word_end", "word_end", defArgs sWordEnd, defBody sWordEnd, defScope sWordEnd, [], []⟩
def d_is_integer : He.DefD := ⟨("is_integer", none), "is_integer", "is_integer", defArgs sIsInt, defBody sIsInt, defScope sIsInt, [], []⟩
def d_is_name : He.DefD := ⟨("is_name", none), "is_name", "is_name", defArgs sIsName, defBody sIsName, defScope sIsName, [], []⟩
def d_has_only : He.DefD := ⟨("has_only", none), "has_only", "has_only", defArgs sHas, defBody sHas, defScope sHas, [], []⟩
def d__init__KeptError : He.DefD := ⟨("KeptError", some "__init__"), "__init__", "KeptError.__init__", defArgs sEInit, defBody sEInit, defScope sEInit, [], []⟩
def d__init__Opened : He.DefD := ⟨("Opened", some "__init__"), "__init__", "Opened.__init__", defArgs sOInit, defBody sOInit, defScope sOInit, [], []⟩
def d__init__Reader : He.DefD := ⟨("Reader", some "__init__"), "__init__", "Reader.__init__", defArgs sRInit, defBody sRInit, defScope sRInit, [], []⟩
def d_where_Reader : He.DefD := ⟨("Reader", some "where"), "where", "Reader.where", defArgs sWhere, defBody sWhere, defScope sWhere, [], []⟩
def d_take_Reader : He.DefD := ⟨("Reader", some "take"), "take", "Reader.take", defArgs sTake, defBody sTake, defScope sTake, [], []⟩
def d_take_opening_Reader : He.DefD := ⟨("Reader", some "take_opening"), "take_opening", "Reader.take_opening", defArgs sTakeOp, defBody sTakeOp, defScope sTakeOp, [], []⟩
def d_take_single_Reader : He.DefD := ⟨("Reader", some "take_single"), "take_single", "Reader.take_single", defArgs sTakeSg, defBody sTakeSg, defScope sTakeSg, [], []⟩
def d_put_Reader : He.DefD := ⟨("Reader", some "put"), "put", "Reader.put", defArgs sPut, defBody sPut, defScope sPut, [], []⟩
def d_data_in : He.DefD := ⟨("data_in", none), "data_in", "data_in", defArgs sDataIn, defBody sDataIn, defScope sDataIn, [], []⟩
def d_datum_in : He.DefD := ⟨("datum_in", none), "datum_in", "datum_in", defArgs sDatumIn, defBody sDatumIn, defScope sDatumIn, [], []⟩
def d_checked_words : He.DefD := ⟨("checked_words", none), "checked_words", "checked_words", defArgs sChecked, defBody sChecked, defScope sChecked, [], []⟩
def d_read : He.DefD := ⟨("read", none), "read", "read", defArgs sRead, defBody sRead, defScope sRead, [], []⟩
def d_printed : He.DefD := ⟨("printed", none), "printed", "printed", defArgs sPrinted, defBody sPrinted, defScope sPrinted, [], []⟩
def d_datum_text : He.DefD := ⟨("datum_text", none), "datum_text", "datum_text", defArgs (top 11), defBody (top 11), defScope (top 11), [], []⟩
def d__law_pot : He.DefD := ⟨("_law_pot", none), "_law_pot", "_law_pot", defArgs sLawPot, defBody sLawPot, defScope sLawPot, [], []⟩
def d__law_take : He.DefD := ⟨("_law_take", none), "_law_take", "_law_take", defArgs sLawTake, defBody sLawTake, defScope sLawTake, [], []⟩
def d__law_of : He.DefD := ⟨("_law_of", none), "_law_of", "_law_of", defArgs sLawOf, defBody sLawOf, defScope sLawOf, [], []⟩
def d__law_cells : He.DefD := ⟨("_law_cells", none), "_law_cells", "_law_cells", defArgs sCells, defBody sCells, defScope sCells, [], []⟩
def d__law_caught : He.DefD := ⟨("_law_caught", none), "_law_caught", "_law_caught", defArgs sCaught, defBody sCaught, defScope sCaught, [], []⟩
def d__law_is_refused : He.DefD := ⟨("_law_is_refused", none), "_law_is_refused", "_law_is_refused", defArgs sIsRefused, defBody sIsRefused, defScope sIsRefused, [], []⟩
def d__law_odd : He.DefD := ⟨("_law_odd", none), "_law_odd", "_law_odd", defArgs sOdd, defBody sOdd, defScope sOdd, [], []⟩
def d__law_word : He.DefD := ⟨("_law_word", none), "_law_word", "_law_word", defArgs sLawWord, defBody sLawWord, defScope sLawWord, [], []⟩
def d__law_right : He.DefD := ⟨("_law_right", none), "_law_right", "_law_right", defArgs sRight, defBody sRight, defScope sRight, [], []⟩
def d_law : He.DefD := ⟨("law", none), "law", "law", defArgs sLaw, defBody sLaw, defScope sLaw, [], []⟩
def fnL : List He.DefD := [d_words_in, d_line_words, d_word_end, d_is_integer, d_is_name, d_has_only, d__init__KeptError, d__init__Opened, d__init__Reader, d_where_Reader, d_take_Reader, d_take_opening_Reader, d_take_single_Reader, d_put_Reader, d_data_in, d_datum_in, d_checked_words, d_read, d_printed, d_datum_text, d__law_pot, d__law_take, d__law_of, d__law_cells, d__law_caught, d__law_is_refused, d__law_odd, d__law_word, d__law_right, d_law]
def faL : List He.Fa := [.glo "words_in", .glo "line_words", .glo "word_end", .glo "is_integer", .glo "is_name", .glo "has_only", .glo "data_in", .glo "datum_in", .glo "checked_words", .glo "read", .glo "printed", .glo "datum_text", .glo "_law_pot", .glo "_law_take", .glo "_law_of", .glo "_law_cells", .glo "_law_caught", .glo "_law_is_refused", .glo "_law_odd", .glo "_law_word", .glo "_law_right", .glo "law", .glo "KeptError", .glo "BadText", .glo "Opened", .glo "Reader", .glo "Pair", .free "len", .free "int", .free "sum", .free "abs", .free "range", .free "list", .free "max", .free "min", .free "all", .free "enumerate", .free "isinstance", .free "str", .free "tuple", .free "repr", .free "ValueError", .int "LONGEST_NAME" 16, .int "MOST_OPEN" 40, .str "BEHIND_QUOTE" QUOTE, .str "IN_LIST" INLIST, .str "BEHIND_DOT" DOTTED, .str "BEHIND_TAIL" TAILED, .str "DOT" ".", .str "FIGURES" FIG, .str "WORD_SIGNS" SIGNS, .cls "Reader", .cls "Opened", .noat "Reader" "data", .noat "Reader" "opened", .noat "Opened" "state", .noat "Opened" "data", .mkr "Opened", .mkr "Reader", .meth "Reader" "where", .meth "Reader" "put", .meth "Reader" "take_single", .meth "Reader" "take_opening", .meth "Reader" "take"]
def oexB (K : PySem.W.Frag) (C : Addr) : Bool := match K.lookup C with
  | some ⟨.type "type", _, .cls ⟨_, _, mro, _, _, hd, _, _, _, _, del⟩, sl⟩ => (match mro, sl.toList with
    | .ref C' :: bm, [_, _, _, _, some (.builtin n), _] => C' == C && n == "ValueError.__new__" && !del && hd && PySem.HandSPX.refsVE bm
    | _, _ => false)
  | _ => false
def eqF {α : Type} [DecidableEq α] (a b : α) : Bool := decide (a = b)
def exL (K : PySem.W.Frag) : List Bool :=
  let CB := He.ga K "BadText"
  let CK := He.ga K "KeptError"
  let fE := He.ma K CK "__init__"
  [oexB K CB, decide (PySem.W.findIn K (.ref CB) "__setattr__" = some (some (.builtin "object.__setattr__"))), decide (PySem.W.subIn K (.ref CB) (.type "BaseException") = some true), decide (PySem.W.typeIn K (.ref CB) = some (.type "type")), PySem.W.keepIn K (.ref CB),
   decide (PySem.W.findIn K (.ref CB) "value" = some none), decide (PySem.W.findIn K (.ref CB) "__init__" = some (some (.ref fE))), decide (PySem.W.typeIn K (.ref fE) = some (.type "function")),
   decide (PySem.W.findIn K (.ref CB) "__getattribute__" = some (some (.builtin "BaseException.__getattribute__"))), decide (PySem.W.findIn K (.ref CB) "__getattr__" = some none), PySem.W.hasDictIn K CB,
   decide (PySem.W.findIn K (.ref CB) "__class__" = some (some (.builtin "object.__class__"))), decide (PySem.W.specialIn K (.builtin "object.__class__") "__get__" = some (some (.builtin "getset_descriptor.__get__"))), decide (PySem.W.takesIn K (.builtin "object.__class__") = some true), decide (PySem.W.mroIn K CB (.type "object") = some true),
   decide (PySem.W.kitOne K (.ref CB) (.ref CB) = some true), decide (PySem.W.kitOne K (.ref CB) (.ref CK) = some true), decide (PySem.W.kitOne K (.ref CB) (.type "ValueError") = some true), decide (PySem.W.exmOne K (.ref CB) (.ref CK) = some true)]
def exB (K : PySem.W.Frag) : Bool := (exL K).all id
def rightAt : He.Defn := ("_law_right", none)
abbrev hk : PySem.W.Hook := He.hookX 5 faL fnL [] [rightAt] exB
def obK (s : PySem.W.SharedT) : He.AlX := He.obsX 5 faL fnL [] [rightAt] exB (HandSHeadRun.getT s)
theorem obK_eq (s : PySem.W.SharedT) : obK s = hk.obs s.abs := He.obsX_eq (HandSHeadRun.getT_eq s)
abbrev RWK : PySem.W.OpenRow := PySem.W.OpenLaw.row PySem.Challenge.rw_keptagain_k05_what_reading_refuses
def looseA : List PySem.Str := ["EMPTY", "Pair", "list_of", "KeptError", "BadText", "MOST_SIGNS", "LONG", "Unwritten", "datum_text", "is_too_great", "next_text", "tail_text", "put_list", "FIGURES", "WORD_SIGNS", "LONGEST_NAME", "DOT", "CHUNK", "CHUNK_SCALE", "words_in", "line_words", "word_end", "is_integer", "is_name", "has_only"]
def looseB : List PySem.Str := ["number_of", "paired", "MOST_OPEN", "BEHIND_QUOTE", "IN_LIST", "BEHIND_DOT", "BEHIND_TAIL", "Opened", "Reader", "data_in", "datum_in", "checked_words", "read", "printed", "_law_pot", "_law_take", "_law_of", "_law_cells", "_law_caught", "_law_is_refused", "_law_odd", "_law_word", "_law_right"]
def looseL : List PySem.Str := looseA ++ looseB
end Kg
set_option maxHeartbeats 0
namespace Kg
open PySem PySem.Spec PyProof.Rows L2 LamX
theorem runK (w : World) : HandSHeadRun.RunEq RWK (PySem.W.view RWK.prog [54]) hk obK 6000 looseL w := by
  intro os
  kernel_rfl
end Kg
namespace Kg
open PySem PySem.Spec PyProof.Rows L2 LamX
/-- what is tracked when the law is called: the table at T, the script at a where it is not told -/
def atLaw (K : PySem.W.Frag) (T a : Addr) (ob : Obj) (ns : List Int) : Hp := fun b => if b = T then some (.tbl #[]) else if b = a ∧ K.lookup a = none then some (.frz ob (.lst (ns.map V.int))) else none
theorem atLaw_some {K : PySem.W.Frag} {T a b : Addr} {ob : Obj} {ns : List Int} {u : HO} (e : atLaw K T a ob ns b = some u) : (b = T ∧ u = .tbl #[]) ∨ (b ≠ T ∧ b = a ∧ K.lookup a = none ∧ u = .frz ob (.lst (ns.map V.int))) := by
  unfold atLaw at e
  by_cases h1 : b = T
  · rw [if_pos h1] at e
    exact .inl ⟨h1, (Option.some.inj e).symm⟩
  · rw [if_neg h1] at e
    by_cases h2 : b = a ∧ K.lookup a = none
    · rw [if_pos h2] at e
      exact .inr ⟨h1, h2.1, h2.2, (Option.some.inj e).symm⟩
    · rw [if_neg h2] at e
      cases e
theorem law_atG {P : Program} {w : World} {K : PySem.W.Frag} {mg mb : Str → Option Value} {k : Nat} {fa a c T : Addr} {fd : FuncData} {x : Str} {sp : Sp} {u₀ : Shared} {its : List Value} {ns : List Int}
    (inK : K.In u₀.heap) (glob : u₀.heap.Ns mainGlobals mg) (blt : u₀.heap.Ns builtinsNs mb) (bltIs : ∀ x : Str, x ≠ "__name__" → mb x = bootBuiltins x) (noLim : u₀.heap.NoLimit) (noGen : u₀.gens = #[])
    (tabIs : u₀.heap.get? T = some { cls := .none, data := .fields #[] }) (tabOut : K.lookup T = none) (code : PySem.W.CodeHd u₀.heap c T)
    (bmain : ∃ (bm : Addr) (o : Obj), mg "__builtins__" = some (.ref bm) ∧ bm ≠ builtinsNs ∧ u₀.heap.get? bm = some o ∧ o.cls = .type "module" ∧ o.dict = some builtinsNs ∧ o.data = .plain)
    (lst : u₀.heap.get? a = some { cls := .type "list", data := .seq its.toArray }) (allInt : IntsAre its ns) (short : ns.length ≤ sizeLine) (room : Room k callerA)
    (F : ∀ base : Heap, K.In base → base.Ns mainGlobals mg → TabB base mg c T → FnG P w K mg base CX0 k fa fd [x] sp) (bound : ∀ (s : Shared) (u : Value), BindsTo s fd ⟨[u], []⟩ [(x, u)])
    (asked : ∀ H : Hp, H T = some (.tbl #[]) → SqL K H a (ns.map V.int) → sp [.ref a] H (fun v _ => v = .bl true) fun _ _ _ => False) :
    codeAny (model P w) callerA (.call (.ref fa) ⟨[.ref a], []⟩) (fun r u => r = .ok (.ret (.bool true)) ∧ OldK u₀.heap u.heap ∧ u.os = u₀.os ∧ AllBare u.gens) u₀ := by
  have rel := vals_ints allInt
  have many := allInt.length
  generalize hob : ({ cls := .type "list", data := .seq its.toArray } : Obj) = ob at lst
  have apart : a ≠ T := fun z => by
    rw [z, tabIs, ← hob] at lst
    have z2 : Data.fields #[] = Data.seq its.toArray _ := congrArg Obj.data (Option.some.inj lst)
    cases z2
  have hT : atLaw K T a ob ns T = some (.tbl #[]) := if_pos rfl
  have hok : HOk P w (atLaw K T a ob ns) u₀.heap := fun b u e => by
    rcases atLaw_some e with ⟨rfl, rfl⟩ | ⟨_, rfl, _, rfl⟩
    · exact tabIs
    · exact ⟨lst, by rw [List.length_map]; exact short, its, _, rel, lst.trans (congrArg some hob.symm)⟩
  have seq : SqL K (atLaw K T a ob ns) a (ns.map V.int) := by
    cases hk : K.lookup a with
    | none => exact .inl (.inr ⟨ob, (if_neg apart).trans (if_pos ⟨rfl, hk⟩)⟩)
    | some o =>
      have e := inK a o hk
      rw [lst] at e
      cases e
      exact .inr ⟨_, its.toArray, _, hk, (congrArg Obj.cls hob).symm, (congrArg Obj.dict hob).symm, (congrArg Obj.data hob).symm, by rw [List.size_toArray, many]; exact short, by simpa using rel⟩
  have free : ∀ {b : Addr} {o : Obj}, u₀.heap.get? b = some o → b ≠ T → (b = a → K.lookup a ≠ none) → atLaw K T a ob ns b = none := fun {b o} e n1 n2 => by
    cases q : atLaw K T a ob ns b with
    | none => rfl
    | some u =>
      rcases atLaw_some q with ⟨z, _⟩ | ⟨_, z, z2, _⟩
      · exact absurd z n1
      · exact absurd z2 (n2 z)
  have notT : ∀ {b : Addr} {o : Obj}, u₀.heap.get? b = some o → o.data ≠ .fields #[] → b ≠ T := fun {b o} e n z => by
    rw [z, tabIs] at e
    exact n (congrArg Obj.data (Option.some.inj e)).symm
  have notA : ∀ {b : Addr} {o : Obj}, u₀.heap.get? b = some o → (∀ vs n, o.data ≠ .seq vs n) → b ≠ a := fun {b o} e n z => by
    rw [z, lst, ← hob] at e
    exact n _ _ (congrArg Obj.data (Option.some.inj e)).symm
  have freeD : ∀ {b : Addr} {o : Obj}, u₀.heap.get? b = some o → (∀ vs n, o.data ≠ .seq vs n) → o.data ≠ .fields #[] → atLaw K T a ob ns b = none := fun {b o} e n1 n2 => free e (notT e n2) fun z => absurd z (notA e n1)
  generalize hB : keepHeap u₀.heap (fun b => (atLaw K T a ob ns b).isNone) = B
  have up : ∀ {b : Addr} {o : Obj}, u₀.heap.get? b = some o → atLaw K T a ob ns b = none → B.get? b = some o := fun {b o} e n => by
    rw [← hB]
    exact keepHeap_get e (by rw [n]; rfl)
  have dn : ∀ b o, B.get? b = some o → u₀.heap.get? b = some o ∧ atLaw K T a ob ns b = none := fun b o e => by
    rw [← hB] at e
    obtain ⟨e1, e2⟩ := of_keepHeap e
    exact ⟨e1, Option.isNone_iff_eq_none.mp e2⟩
  have ns2 : ∀ {b : Addr} {m : Str → Option Value}, u₀.heap.Ns b m → B.Ns b m := fun {b m} ⟨o, es, ep, e, d, r⟩ => ⟨o, es, ep, up e (freeD e (fun vs n z => by rw [d] at z; cases z) (fun z => by rw [d] at z; cases z)), d, r⟩
  have inB : K.In B := fun b o e => up (inK b o e) (free (inK b o e) (fun z => by rw [z, tabOut] at e; cases e) fun z => by rw [← z, e]; exact fun y => nomatch y)
  have modB : L2.Mod K mg B := ⟨inB, ns2 glob, ⟨mb, ns2 blt, bltIs⟩, let ⟨mc, h1, h2⟩ := noLim; ⟨mc, ns2 h1, h2⟩⟩
  have tabB : TabB B mg c T := by
    refine ⟨?_, ?_, fun z => ?_⟩
    · obtain ⟨o, us, file, tf, flags, tg, inF, text, tt, e1, r1, r2, r3, rest⟩ := code
      refine ⟨o, us, file, tf, flags, tg, inF, text, tt, up e1 (freeD e1 (fun vs n z => by rw [r2] at z; cases z) fun z => ?_), r1, r2, r3, rest⟩
      rw [r2] at z
      cases z
      simp at r3
    · obtain ⟨bm, o, b1, b2, b3, b4, b5, b6⟩ := bmain
      have n1 : bm ≠ mainGlobals := fun z => by
        obtain ⟨o2, es, ep, e, d, _⟩ := glob
        rw [z, e] at b3
        cases b3
        rw [d] at b6
        cases b6
      exact ⟨bm, o, b1, b2, n1, notT b3 (fun z => by rw [b6] at z; cases z), up b3 (freeD b3 (fun vs n z => by rw [b6] at z; cases z) fun z => by rw [b6] at z; cases z), b4, b5, b6⟩
    · obtain ⟨o2, es, ep, e, d, _⟩ := glob
      rw [z, tabIs] at e
      cases e
      cases d
  have env0 : Env0 P w K mg B callerA [] u₀ (atLaw K T a ob ns) := ⟨rfl, modB, dn, by rw [← hB, keepHeap_size]; exact Nat.le_refl _, trivial, fun b z => absurd (show b ∈ ([] : List Addr) from z) (by simp), hok, .of_eq noGen⟩
  refine codeAny_mono ((F B inB (ns2 glob) tabB).go callerA [] u₀ (atLaw K T a ob ns) ⟨[.ref a], []⟩ [.ref a] [.ref a] _ _ room rfl env0 (bound u₀ (.ref a)) (.cons rfl .nil) (asked _ hT seq)) fun r u got => ?_
  cases r with
  | error e => exact got.elim
  | ok fl =>
    cases fl with
    | next => exact False.elim got
    | brk => exact False.elim got
    | cont => exact False.elim got
    | ret y =>
      obtain ⟨v, H2, os, bare, un, hok2, rv, q⟩ := got
      have ev : v = .bl true := q
      subst ev
      obtain rfl : y = Value.bool true := rv
      have stays : ∀ b o, b ≠ T → u₀.heap.get? b = some o → u.heap.get? b = some o := fun b o n e => by
        cases q2 : atLaw K T a ob ns b with
        | none => exact un.keep b o e q2 (fun z => absurd (show b ∈ ([] : List Addr) from z) (by simp)) (by simp)
        | some x2 =>
          rcases atLaw_some q2 with ⟨z, _⟩ | ⟨_, rfl, _, rfl⟩
          · exact absurd z n
          · obtain ⟨e2, _⟩ := hok2 b _ (un.frzs b ob _ q2)
            rw [lst] at e
            cases e
            exact e2
      obtain ⟨more, grown⟩ := un.tbls T #[] hT
      have grown2 : u.heap.get? T = some { cls := .none, data := .fields (#[] ++ more) } := hok2 T _ grown
      refine ⟨rfl, ⟨fun b o e => ?_, fun b o e => ?_⟩, os, bare⟩
      · by_cases z : b = T
        · rw [z, tabIs] at e
          cases e
          rw [z]
          exact .inr (.inl ⟨(code.tab tabIs).isCodeTable, rfl, #[], #[] ++ more, rfl, by rw [Array.empty_append] at grown2 ⊢; rw [Array.empty_append]; exact grown2⟩)
        · exact .inl (stays b o z e)
      · by_cases z : b = T
        · rw [z]
          exact ⟨_, grown2⟩
        · exact ⟨o, stays b o z e⟩
end Kg
namespace Kg
open PySem PySem.Spec PyProof.Rows L2 LamX
theorem oexB_cls {K : PySem.W.Frag} {C : Addr} (h : oexB K C = true) : ∃ nm q N bs bm sn sub ab col dd k0 k1 k2 k3 k5, K.lookup C = some (excClassObj nm q C N bs bm true sn sub ab col dd k0 k1 k2 k3 k5 "ValueError.__new__") ∧ PySem.HandSPX.refsVE bm = true := by
  unfold oexB at h
  split at h
  · rename_i dd nm bs mro ns qn hd sn sub ab col del sl look
    split at h
    · rename_i C2 bm k0 k1 k2 k3 n k5 slots
      simp only [Bool.and_eq_true, beq_iff_eq, Bool.not_eq_true'] at h
      obtain ⟨⟨⟨⟨rfl, rfl⟩, rfl⟩, rfl⟩, good⟩ := h
      obtain ⟨l⟩ := sl
      simp only at slots
      subst slots
      exact ⟨_, _, _, _, bm, _, _, _, _, _, _, _, _, _, _, look, good⟩
    · cases h
  · cases h
theorem bindsKw {K : PySem.W.Frag} {f : Addr} {fd : FuncData} (F : FnP K "read" "read" sRead f fd) (s : Shared) (u : Value) : BindsTo s fd ⟨[], [(("text" : Str), u)]⟩ [(("text" : Str), u)] := by
  obtain ⟨oc, od, dV, kV, doc, pm, an, cdv, ct, osl, rfl, lk, hcd, hD, hK⟩ := F.ex
  rcases hD with ⟨_, rfl⟩ | ⟨e, _⟩
  · exact .of_eq rfl
  · exact absurd rfl e
theorem bindsKw2 {K : PySem.W.Frag} {f : Addr} {fd : FuncData} (F : FnP K "printed" "printed" sPrinted f fd) (s : Shared) (u : Value) : BindsTo s fd ⟨[], [(("text" : Str), u)]⟩ [(("text" : Str), u)] := by
  obtain ⟨oc, od, dV, kV, doc, pm, an, cdv, ct, osl, rfl, lk, hcd, hD, hK⟩ := F.ex
  rcases hD with ⟨_, rfl⟩ | ⟨e, _⟩
  · exact .of_eq rfl
  · exact absurd rfl e
section
variable {P : Program} {w : World} {K : PySem.W.Frag} {h : Heap} {mg : Str → Option Value} {fa : Addr}
theorem exAt (c : He.SaysX faL fnL [] [rightAt] exB w h K) (i : Nat) {b : Bool} (e : (exL K)[i]? = some b) : b = true := by
  have z := List.all_eq_true.mp (show (exL K).all id = true from c.more) b (List.mem_of_getElem? e)
  exact z
theorem kept (X : K.In h) (G : h.Ns mainGlobals mg) (hfa : mg ("law" : Str) = some (.ref fa)) (c : He.SaysX faL fnL [] [rightAt] exB w h K) :
    ∃ fd : FuncData, (∀ (s : Shared) (u : Value), BindsTo s fd ⟨[u], []⟩ [(("script" : Str), u)]) ∧ ∀ base : Heap, K.In base → base.Ns mainGlobals mg → TabB base mg (He.cT K rightAt).1 (He.cT K rightAt).2 → FnG P w K mg base CX0 12 fa fd ["script"] (spLaw K (He.cT K rightAt).2) := by
  obtain ⟨fdWo, FWo⟩ := c.t.d.def_ 0 (d := d_words_in) rfl
  replace FWo : FnP K "words_in" "words_in" sWordsIn (He.ga K "words_in") fdWo := FWo
  obtain ⟨fdLi, FLi⟩ := c.t.d.def_ 1 (d := d_line_words) rfl
  replace FLi : FnP K "line_words" "line_words" sLineWords (He.ga K "line_words") fdLi := FLi
  obtain ⟨fdWe, FWe⟩ := c.t.d.def_ 2 (d := d_word_end) rfl
  replace FWe : FnP K "word_end" "word_end" sWordEnd (He.ga K "word_end") fdWe := FWe
  obtain ⟨fdIn, FIn⟩ := c.t.d.def_ 3 (d := d_is_integer) rfl
  replace FIn : FnP K "is_integer" "is_integer" sIsInt (He.ga K "is_integer") fdIn := FIn
  obtain ⟨fdNa, FNa⟩ := c.t.d.def_ 4 (d := d_is_name) rfl
  replace FNa : FnP K "is_name" "is_name" sIsName (He.ga K "is_name") fdNa := FNa
  obtain ⟨fdHa, FHa⟩ := c.t.d.def_ 5 (d := d_has_only) rfl
  replace FHa : FnP K "has_only" "has_only" sHas (He.ga K "has_only") fdHa := FHa
  obtain ⟨fdE, FE⟩ := c.t.d.def_ 6 (d := d__init__KeptError) rfl
  replace FE : FnP K "__init__" "KeptError.__init__" sEInit (He.ma K (He.ga K "KeptError") "__init__") fdE := FE
  obtain ⟨fdOI, FOI⟩ := c.t.d.def_ 7 (d := d__init__Opened) rfl
  replace FOI : FnP K "__init__" "Opened.__init__" sOInit (He.ma K (He.ga K "Opened") "__init__") fdOI := FOI
  obtain ⟨fdRI, FRI⟩ := c.t.d.def_ 8 (d := d__init__Reader) rfl
  replace FRI : FnP K "__init__" "Reader.__init__" sRInit (He.ma K (He.ga K "Reader") "__init__") fdRI := FRI
  obtain ⟨fdWh, FWh⟩ := c.t.d.def_ 9 (d := d_where_Reader) rfl
  replace FWh : FnP K "where" "Reader.where" sWhere (He.ma K (He.ga K "Reader") "where") fdWh := FWh
  obtain ⟨fdTk, FTk⟩ := c.t.d.def_ 10 (d := d_take_Reader) rfl
  replace FTk : FnP K "take" "Reader.take" sTake (He.ma K (He.ga K "Reader") "take") fdTk := FTk
  obtain ⟨fdTo, FTo⟩ := c.t.d.def_ 11 (d := d_take_opening_Reader) rfl
  replace FTo : FnP K "take_opening" "Reader.take_opening" sTakeOp (He.ma K (He.ga K "Reader") "take_opening") fdTo := FTo
  obtain ⟨fdTs, FTs⟩ := c.t.d.def_ 12 (d := d_take_single_Reader) rfl
  replace FTs : FnP K "take_single" "Reader.take_single" sTakeSg (He.ma K (He.ga K "Reader") "take_single") fdTs := FTs
  obtain ⟨fdPu, FPu⟩ := c.t.d.def_ 13 (d := d_put_Reader) rfl
  replace FPu : FnP K "put" "Reader.put" sPut (He.ma K (He.ga K "Reader") "put") fdPu := FPu
  obtain ⟨fdDa, FDa⟩ := c.t.d.def_ 14 (d := d_data_in) rfl
  replace FDa : FnP K "data_in" "data_in" sDataIn (He.ga K "data_in") fdDa := FDa
  obtain ⟨fdDm, FDm⟩ := c.t.d.def_ 15 (d := d_datum_in) rfl
  replace FDm : FnP K "datum_in" "datum_in" sDatumIn (He.ga K "datum_in") fdDm := FDm
  obtain ⟨fdCk, FCk⟩ := c.t.d.def_ 16 (d := d_checked_words) rfl
  replace FCk : FnP K "checked_words" "checked_words" sChecked (He.ga K "checked_words") fdCk := FCk
  obtain ⟨fdRd, FRd⟩ := c.t.d.def_ 17 (d := d_read) rfl
  replace FRd : FnP K "read" "read" sRead (He.ga K "read") fdRd := FRd
  obtain ⟨fdPr, FPr⟩ := c.t.d.def_ 18 (d := d_printed) rfl
  replace FPr : FnP K "printed" "printed" sPrinted (He.ga K "printed") fdPr := FPr
  obtain ⟨fdDt, FDt⟩ := c.t.d.def_ 19 (d := d_datum_text) rfl
  replace FDt : FnP K "datum_text" "datum_text" (top 11) (He.ga K "datum_text") fdDt := FDt
  obtain ⟨fdPo, FPo⟩ := c.t.d.def_ 20 (d := d__law_pot) rfl
  replace FPo : FnP K "_law_pot" "_law_pot" sLawPot (He.ga K "_law_pot") fdPo := FPo
  obtain ⟨fdLt, FLt⟩ := c.t.d.def_ 21 (d := d__law_take) rfl
  replace FLt : FnP K "_law_take" "_law_take" sLawTake (He.ga K "_law_take") fdLt := FLt
  obtain ⟨fdOf, FOf⟩ := c.t.d.def_ 22 (d := d__law_of) rfl
  replace FOf : FnP K "_law_of" "_law_of" sLawOf (He.ga K "_law_of") fdOf := FOf
  obtain ⟨fdCe, FCe⟩ := c.t.d.def_ 23 (d := d__law_cells) rfl
  replace FCe : FnP K "_law_cells" "_law_cells" sCells (He.ga K "_law_cells") fdCe := FCe
  obtain ⟨fdCa, FCa⟩ := c.t.d.def_ 24 (d := d__law_caught) rfl
  replace FCa : FnP K "_law_caught" "_law_caught" sCaught (He.ga K "_law_caught") fdCa := FCa
  obtain ⟨fdRf, FRf⟩ := c.t.d.def_ 25 (d := d__law_is_refused) rfl
  replace FRf : FnP K "_law_is_refused" "_law_is_refused" sIsRefused (He.ga K "_law_is_refused") fdRf := FRf
  obtain ⟨fdOd, FOd⟩ := c.t.d.def_ 26 (d := d__law_odd) rfl
  replace FOd : FnP K "_law_odd" "_law_odd" sOdd (He.ga K "_law_odd") fdOd := FOd
  obtain ⟨fdLw, FLw⟩ := c.t.d.def_ 27 (d := d__law_word) rfl
  replace FLw : FnP K "_law_word" "_law_word" sLawWord (He.ga K "_law_word") fdLw := FLw
  obtain ⟨fdRi, FRi⟩ := c.t.d.def_ 28 (d := d__law_right) rfl
  replace FRi : FnP K "_law_right" "_law_right" sRight (He.ga K "_law_right") fdRi := FRi
  obtain ⟨fdLa, FLa⟩ := c.t.d.def_ 29 (d := d_law) rfl
  replace FLa : FnP K "law" "law" sLaw (He.ga K "law") fdLa := FLa
  have bCk : Binds K fdCk ["text"] [] := FCk.bindsN fun _ _ _ _ _ _ us hl => match us, hl with | [_], _ => rfl
  have bTk : Binds K fdTk ["self", "word", "place"] [] := FTk.bindsN fun _ _ _ _ _ _ us hl => match us, hl with | [_, _, _], _ => rfl
  have bDa : Binds K fdDa ["text"] [] := FDa.bindsN fun _ _ _ _ _ _ us hl => match us, hl with | [_], _ => rfl
  have bDm : Binds K fdDm ["text"] [] := FDm.bindsN fun _ _ _ _ _ _ us hl => match us, hl with | [_], _ => rfl
  have bRd : Binds K fdRd ["text"] [] := FRd.bindsN fun _ _ _ _ _ _ us hl => match us, hl with | [_], _ => rfl
  have bPr : Binds K fdPr ["text"] [] := FPr.bindsN fun _ _ _ _ _ _ us hl => match us, hl with | [_], _ => rfl
  have bDt : Binds K fdDt ["datum"] [] := FDt.bindsN fun _ _ _ _ _ _ us hl => match us, hl with | [_], _ => rfl
  have bPo : Binds K fdPo ["script", "place"] [] := FPo.bindsN fun _ _ _ _ _ _ us hl => match us, hl with | [_, _], _ => rfl
  have bOf : Binds K fdOf ["pot", "some"] [] := FOf.bindsN fun _ _ _ _ _ _ us hl => match us, hl with | [_, _], _ => rfl
  have bCe : Binds K fdCe ["script", "limit"] [] := FCe.bindsN fun _ _ _ _ _ _ us hl => match us, hl with | [_, _], _ => rfl
  have bCa : Binds K fdCa ["call"] [] := FCa.bindsN fun _ _ _ _ _ _ us hl => match us, hl with | [_], _ => rfl
  have bRf : Binds K fdRf ["call", "word", "value"] [] := FRf.bindsN fun _ _ _ _ _ _ us hl => match us, hl with | [_, _, _], _ => rfl
  have bOd : Binds K fdOd ["pot"] [] := FOd.bindsN fun _ _ _ _ _ _ us hl => match us, hl with | [_], _ => rfl
  have bRi : Binds K fdRi ["pot"] [] := FRi.bindsN fun _ _ _ _ _ _ us hl => match us, hl with | [_], _ => rfl
  have e := hfa.symm.trans (He.glo_ok X G (c.t.d.fact 21 (f := .glo "law") rfl))
  cases e
  have W : WT K mg (He.ga K "has_only") (He.ga K "is_integer") (He.ga K "is_name") := ⟨He.glo_ok X G (c.t.d.fact 5 (f := .glo "has_only") rfl), He.glo_ok X G (c.t.d.fact 3 (f := .glo "is_integer") rfl), He.glo_ok X G (c.t.d.fact 4 (f := .glo "is_name") rfl), He.free_ok X G (c.t.d.fact 35 (f := .free "all") rfl), He.free_ok X G (c.t.d.fact 27 (f := .free "len") rfl), He.free_ok X G (c.t.d.fact 33 (f := .free "max") rfl), He.free_ok X G (c.t.d.fact 36 (f := .free "enumerate") rfl), He.str_ok X G (c.t.d.fact 49 (f := .str "FIGURES" FIG) rfl), He.str_ok X G (c.t.d.fact 50 (f := .str "WORD_SIGNS" SIGNS) rfl), He.int_ok X G (c.t.d.fact 42 (f := .int "LONGEST_NAME" 16) rfl), He.str_ok X G (c.t.d.fact 48 (f := .str "DOT" ".") rfl)⟩
  have R : RT K mg (He.ga K "Reader") (He.ga K "Opened") (He.ma K (He.ga K "Opened") "__init__") (He.ma K (He.ga K "Reader") "where") (He.ma K (He.ga K "Reader") "put") (He.ma K (He.ga K "Reader") "take_single") (He.ma K (He.ga K "Reader") "take_opening") := ⟨He.cls_ok (c.t.d.fact 51 (f := .cls "Reader") rfl), He.cls_ok (c.t.d.fact 52 (f := .cls "Opened") rfl), He.noat_ok (c.t.d.fact 53 (f := .noat "Reader" "data") rfl), He.noat_ok (c.t.d.fact 54 (f := .noat "Reader" "opened") rfl), He.noat_ok (c.t.d.fact 55 (f := .noat "Opened" "state") rfl), He.noat_ok (c.t.d.fact 56 (f := .noat "Opened" "data") rfl), He.glo_ok X G (c.t.d.fact 24 (f := .glo "Opened") rfl), He.mkr_ok (c.t.d.fact 57 (f := .mkr "Opened") rfl), He.meth_ok (c.t.d.fact 59 (f := .meth "Reader" "where") rfl), He.meth_ok (c.t.d.fact 60 (f := .meth "Reader" "put") rfl), He.meth_ok (c.t.d.fact 61 (f := .meth "Reader" "take_single") rfl), He.meth_ok (c.t.d.fact 62 (f := .meth "Reader" "take_opening") rfl), He.free_ok X G (c.t.d.fact 27 (f := .free "len") rfl), He.str_ok X G (c.t.d.fact 44 (f := .str "BEHIND_QUOTE" QUOTE) rfl), He.str_ok X G (c.t.d.fact 45 (f := .str "IN_LIST" INLIST) rfl), He.str_ok X G (c.t.d.fact 46 (f := .str "BEHIND_DOT" DOTTED) rfl), He.str_ok X G (c.t.d.fact 47 (f := .str "BEHIND_TAIL" TAILED) rfl), He.int_ok X G (c.t.d.fact 43 (f := .int "MOST_OPEN" 40) rfl), He.str_ok X G (c.t.d.fact 48 (f := .str "DOT" ".") rfl)⟩
  have MR : Mk K (He.ga K "Reader") (He.ma K (He.ga K "Reader") "__init__") := He.mkr_ok (c.t.d.fact 58 (f := .mkr "Reader") rfl)
  have mT : Meth K (He.ga K "Reader") "take" (He.ma K (He.ga K "Reader") "take") := He.meth_ok (c.t.d.fact 63 (f := .meth "Reader" "take") rfl)
  have T : ET K mg (He.ga K "BadText") (He.ma K (He.ga K "KeptError") "__init__") := ⟨⟨oexB_cls (exAt c 0 rfl), of_decide_eq_true (exAt c 1 rfl), of_decide_eq_true (exAt c 2 rfl), of_decide_eq_true (exAt c 3 rfl), exAt c 4 rfl⟩, of_decide_eq_true (exAt c 5 rfl), of_decide_eq_true (exAt c 6 rfl), of_decide_eq_true (exAt c 7 rfl), He.glo_ok X G (c.t.d.fact 23 (f := .glo "BadText") rfl), He.free_ok X G (c.t.d.fact 37 (f := .free "isinstance") rfl), He.free_ok X G (c.t.d.fact 38 (f := .free "str") rfl)⟩
  have xv : XvC K (He.ga K "BadText") := ⟨⟨of_decide_eq_true (exAt c 8 rfl), of_decide_eq_true (exAt c 9 rfl), of_decide_eq_true (exAt c 2 rfl), exAt c 10 rfl, of_decide_eq_true (exAt c 11 rfl), of_decide_eq_true (exAt c 12 rfl), of_decide_eq_true (exAt c 13 rfl), of_decide_eq_true (exAt c 14 rfl)⟩, ⟨of_decide_eq_true (exAt c 8 rfl), of_decide_eq_true (exAt c 9 rfl), of_decide_eq_true (exAt c 2 rfl), exAt c 10 rfl⟩⟩
  have L : LT K mg (He.ga K "BadText") (He.ga K "KeptError") := ⟨xv, of_decide_eq_true (exAt c 5 rfl), He.glo_ok X G (c.t.d.fact 23 (f := .glo "BadText") rfl), He.glo_ok X G (c.t.d.fact 22 (f := .glo "KeptError") rfl), He.free_ok X G (c.t.d.fact 37 (f := .free "isinstance") rfl), He.free_ok X G (c.t.d.fact 40 (f := .free "repr") rfl), of_decide_eq_true (exAt c 15 rfl), of_decide_eq_true (exAt c 16 rfl), of_decide_eq_true (exAt c 17 rfl), of_decide_eq_true (exAt c 18 rfl), He.free_ok X G (c.t.d.fact 41 (f := .free "ValueError") rfl)⟩
  have B : BT mg := ⟨He.free_ok X G (c.t.d.fact 27 (f := .free "len") rfl), He.free_ok X G (c.t.d.fact 28 (f := .free "int") rfl), He.free_ok X G (c.t.d.fact 29 (f := .free "sum") rfl), He.free_ok X G (c.t.d.fact 30 (f := .free "abs") rfl), He.free_ok X G (c.t.d.fact 31 (f := .free "range") rfl), He.free_ok X G (c.t.d.fact 32 (f := .free "list") rfl), He.free_ok X G (c.t.d.fact 33 (f := .free "max") rfl), He.free_ok X G (c.t.d.fact 34 (f := .free "min") rfl), He.free_ok X G (c.t.d.fact 35 (f := .free "all") rfl)⟩
  have RR : RightT K mg (He.ga K "BadText") (He.ga K "KeptError") (He.ga K "_law_is_refused") (He.ga K "_law_odd") (He.ga K "_law_of") (He.ga K "_law_caught") (He.ga K "read") (He.ga K "printed") := ⟨L, B, He.glo_ok X G (c.t.d.fact 17 (f := .glo "_law_is_refused") rfl), He.glo_ok X G (c.t.d.fact 18 (f := .glo "_law_odd") rfl), He.glo_ok X G (c.t.d.fact 14 (f := .glo "_law_of") rfl), He.glo_ok X G (c.t.d.fact 16 (f := .glo "_law_caught") rfl), He.glo_ok X G (c.t.d.fact 9 (f := .glo "read") rfl), He.glo_ok X G (c.t.d.fact 10 (f := .glo "printed") rfl), FRf.kp, FOd.kp, FOf.kp, FCa.kp, FRd.kp, FPr.kp⟩
  have GTk : ∀ B2 : Heap, FnOk P w K mg B2 CX0 4 _ fdTk ["self", "word", "place"] (spTake (He.ga K "Reader") (He.ga K "Opened") (He.ga K "Pair")) := fun B2 => ok_take FTk R W FWh FPu FOI FTs FTo FHa FIn FNa
  have GCk : ∀ B2 : Heap, FnOk P w K mg B2 (L2.CX P w) 5 _ fdCk ["text"] (spChecked K (He.ga K "BadText")) := fun B2 => ok_checked FCk T FE FWo FLi FWe W (He.glo_ok X G (c.t.d.fact 0 (f := .glo "words_in") rfl)) (He.glo_ok X G (c.t.d.fact 1 (f := .glo "line_words") rfl)) (He.glo_ok X G (c.t.d.fact 2 (f := .glo "word_end") rfl))
  have GDa : ∀ B2 : Heap, FnOk P w K mg B2 (L2.CX P w) 6 _ fdDa ["text"] (spData K (He.ga K "BadText") (He.ga K "Pair")) := fun B2 => ok_data (fdO := fdOI) (fdW := fdWh) (fdP := fdPu) (fdS := fdTs) (fdT := fdTo) (fdH := fdHa) (fdI := fdIn) (fdN := fdNa) (fH := 0) (fI := 0) (fN := 0) FDa T FE (GCk B2) bCk (He.glo_ok X G (c.t.d.fact 8 (f := .glo "checked_words") rfl)) FCk.kp R MR (He.glo_ok X G (c.t.d.fact 25 (f := .glo "Reader") rfl)) FRI (GTk B2) bTk mT
  have GDm : ∀ B2 : Heap, FnOk P w K mg B2 (L2.CX P w) 6 _ fdDm ["text"] (spDatum0 K (He.ga K "BadText")) := fun B2 => ok_datum FDm T FE (GCk B2) bCk (He.glo_ok X G (c.t.d.fact 8 (f := .glo "checked_words") rfl)) FCk.kp R MR (He.glo_ok X G (c.t.d.fact 25 (f := .glo "Reader") rfl)) FRI
  have GRd : ∀ B2 : Heap, FnOk P w K mg B2 (L2.CX P w) 7 _ fdRd ["text"] (spRead0 K (He.ga K "BadText")) := fun B2 => ok_read FRd (He.free_ok X G (c.t.d.fact 39 (f := .free "tuple") rfl)) (He.glo_ok X G (c.t.d.fact 6 (f := .glo "data_in") rfl)) FDa.kp (GDa B2) bDa
  have GPr : ∀ B2 : Heap, FnOk P w K mg B2 (L2.CX P w) 7 _ fdPr ["text"] (spDatum0 K (He.ga K "BadText")) := fun B2 => ok_printed FPr (He.glo_ok X G (c.t.d.fact 7 (f := .glo "datum_in") rfl)) FDm.kp (GDm B2) bDm (He.glo_ok X G (c.t.d.fact 11 (f := .glo "datum_text") rfl)) FDt.kp bDt
  have GCa : ∀ B2 : Heap, FnG P w K mg B2 CX0 9 _ fdCa ["call"] (spCaught P w K mg (He.ga K "KeptError") B2) := fun B2 => FnG.of (ok_caught FCa L.gK)
  have GRf : ∀ B2 : Heap, FnG P w K mg B2 CX0 10 _ fdRf ["call", "word", "value"] (spRefused P w K mg (He.ga K "BadText") B2) := fun B2 => ok_refused FRf L FCa FLw (He.glo_ok X G (c.t.d.fact 16 (f := .glo "_law_caught") rfl)) (He.glo_ok X G (c.t.d.fact 19 (f := .glo "_law_word") rfl))
  have wRd : ∀ (s : Shared) (u : Value), K.In s.heap → BindsTo s fdRd ⟨[], [(("text" : Str), u)]⟩ [(("text" : Str), u)] := fun s u _ => bindsKw FRd s u
  have wPr : ∀ (s : Shared) (u : Value), K.In s.heap → BindsTo s fdPr ⟨[], [(("text" : Str), u)]⟩ [(("text" : Str), u)] := fun s u _ => bindsKw2 FPr s u
  have bLa := FunD.bindsA (ps := ["script"]) FLa fun _ _ _ _ _ _ us hl => match us, hl with | [_], _ => rfl
  refine ⟨fdLa, fun s u => bLa s [u] rfl, fun base inB nsB TB => ?_⟩
  have GRi : FnG P w K mg base CX0 11 (He.ga K "_law_right") fdRi ["pot"] (spRight (He.cT K rightAt).2) := by
    obtain ⟨oc, od, dV, kV, doc, pm, an, cdv, ct, osl, rfl, lk, hcd, _, _⟩ := FRi.ex
    obtain ⟨cc, rfl⟩ := He.codeIn_ref hcd
    have ec : (He.cT K rightAt).1 = cc := He.codeOf_eq (p := rightAt) lk rfl
    rw [ec] at TB
    exact ok_right lk hcd TB RR GRf (ok_lawodd FOd B FOf FLt (He.glo_ok X G (c.t.d.fact 14 (f := .glo "_law_of") rfl)) (He.glo_ok X G (c.t.d.fact 13 (f := .glo "_law_take") rfl))) (ok_lawof FOf B FLt (He.glo_ok X G (c.t.d.fact 13 (f := .glo "_law_take") rfl))) GCa (GRd base) (GPr base) bRf bOd bOf bCa bRd bPr wRd wPr
  exact ok_law FLa B (ok_lawpot FPo B) (ok_cells FCe B) GRi bPo bCe bRi (He.glo_ok X G (c.t.d.fact 12 (f := .glo "_law_pot") rfl)) (He.glo_ok X G (c.t.d.fact 15 (f := .glo "_law_cells") rfl)) (He.glo_ok X G (c.t.d.fact 20 (f := .glo "_law_right") rfl)) FPo.kp FCe.kp FRi.kp
end
end Kg
set_option maxHeartbeats 0
open PySem PySem.W PySem.Calls PyProof.Rows
theorem PySem.Challenge.cw_keptagain_k05_what_reading_refuses_holds : PySem.Challenge.rw_keptagain_k05_what_reading_refuses.Holds := by
  w_on; o_law
  refine HandSHeadRun.head_any (r := Kg.RWK) (q := view Kg.RWK.prog [54]) (H := Kg.hk) (ob := Kg.obK) (M := 6000) (loose := Kg.looseL) (d := HandSHeadRun.topDef Kg.RWK.prog 54) (kwd := []) Kg.obK_eq
    (by kernel_rfl) (fun s => by kernel_rfl) Kg.runK (by kernel_rfl) (by kernel_rfl) (by kernel_rfl) (by rfl) (by first | assumption | decide +kernel) (by decide +kernel) ⟨rfl, rfl, rfl, rfl, rfl, by decide +kernel⟩ ?hw ?hc
  case hw => w_witness2
  case hc =>
    refine Att.attach_callB (l := PySem.Challenge.rw_keptagain_k05_what_reading_refuses) (n := 63) rfl (by kernel_rfl) fun w s₀ u₀ mg mb fa o pm cd doc a its ns G Y ho hd hcd hmg0 lst allInt short hbits noGen => ?_
    obtain ⟨K, inK, c⟩ := Y
    have hmg : mg ("law" : PySem.Str) = some (.ref fa) := by
      have e : (HandSHeadRun.topDef Kg.RWK.prog 54).name = ("law" : PySem.Str) := by kernel_rfl
      rw [← e]
      exact hmg0
    obtain ⟨fd, bound, F⟩ := Kg.kept (P := PySem.Challenge.rw_keptagain_k05_what_reading_refuses.prog) (w := w) inK G.T.g hmg c
    have few : ns.length ≤ 100 := Nat.le_trans short (by decide)
    have at0 := List.mem_singleton.mpr (rfl : Kg.rightAt = Kg.rightAt)
    exact Kg.law_atG (k := 12) inK G.T.g G.T.b G.T.builtins G.T.nolimit noGen (c.empty _ at0) (c.out _ at0) (codeHd_of_K inK (c.hd _ at0)) G.T.bmain lst allInt (Nat.le_trans few (by decide)) ⟨rfl, by decide, by decide⟩ F bound
      fun H tab seq => ⟨a, ns, rfl, seq, few, fun p hp => by rw [List.mem_singleton.mp hp]; exact LamX.TabS.nil tab, fun _ => rfl⟩
