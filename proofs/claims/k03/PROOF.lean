import PyProof.Rows.All
import Wide.All
import OpenK.AllK
import Wide.FinOn
import HandS.ForMost
import HandS.AnyAll
import HandS.EndOwn
import HandS.IsInst
import HandS.GenOver
import HandS.Replace
import HandS.Zip
import HandS.TupAny
import HandS.Flow
import HandS.Strs
import HandS.Style
import HandS.TupMul
import PyProof.NeKinds
import PySem.Challenge.RW_eachplace_k03_what_is_a_standing
set_option Elab.async false
set_option linter.all false
set_option maxRecDepth 100000
namespace My
open PySem PySem.Spec PyProof.Rows L2
def tp (i : Nat) : Stmt :=
  PySem.Challenge.pw_eachplace_k03_what_is_a_standing.main.body.getD i
    (.Pass ⟨0, 0, 0, 0⟩)
abbrev sDeck : Stmt := tp 17
abbrev sDraw : Stmt := tp 18
theorem scDeck : FnScope ["_law_cell"] ["_law_cell"] (defScope sDeck) :=
  ⟨rfl, rfl, rfl, by decide +kernel, rfl, by decide +kernel, by decide +kernel⟩
theorem scDraw : FnScope ["_law_deck_here", "_law_most", "_law_found", "_law_mixed"]
    ["_law_deck_here", "_law_most"] (defScope sDraw) :=
  ⟨rfl, rfl, rfl, by decide +kernel, rfl, by decide +kernel, by decide +kernel⟩

/-- a deck at d: digits left, draws made (at most n), the mixed start -/
def Deck (H : Hp) (d : Addr) (n : Nat) : Prop :=
  ∃ a b c : Int, H d = some (.lst [.int a, .int b, .int c]) ∧ 0 ≤ a ∧ 0 ≤ b ∧ b ≤ n ∧ 0 ≤ c ∧ c < 2147483647
/-- like H but at d -/
def But (d : Addr) (H H' : Hp) : Prop := ∀ b, b ≠ d → H' b = H b

theorem pM : (0 : Int) < 2147483647 := by decide
theorem pN : (0 : Int) < 2147483629 := by decide
theorem z3 : 3 ≤ sizeLine := by decide
section
variable {P : Program} {w : World} {K : PySem.W.Frag} {mg : Str → Option Value} {base : Heap}
def spDeck : Sp := fun vs H Q _ => ∃ n : Int, vs = [.int n] ∧
  ∀ d H', H d = none → But d H H' → Deck H' d 0 → Q (.ref d) H'
theorem ok_deck {f : Addr} {fd : FuncData} {k : Nat} (F : Fun K "_law_deck" "_law_deck" sDeck f fd) :
    FnOk P w K mg base CX0 (k + 1) f fd ["_law_cell"] spDeck := by
  refine F.ok scDeck (fun vs H Q E h => ?_) (fun cdv A outer s H vs Q E hr h => ?_)
  · obtain ⟨n, rfl, _⟩ := h
    rfl
  · obtain ⟨n, rfl, q⟩ := h
    refine ⟨_, pss_cons (ps_if (pt_cmpR op_lt (pv 0) (pe_op op_pow pe_int pe_int) (nomark _))
        (pss_one (ps_ret (pe_lst (pa_cons pe_int (pa_cons pe_int
          (pa_cons (pe_op op_mod (pv 0) pe_int) pa_nil)))))) pss_nil)
      (pss_one (ps_ret (pe_lst (pa_cons (pv 0) (pa_cons pe_int
        (pa_cons (pe_op op_mod (pv 0) pe_int) pa_nil)))))), ?_⟩
    have hm0 : 0 ≤ n % 2147483647 := Int.emod_nonneg n (by decide)
    have hm1 : n % 2147483647 < 2147483647 := Int.emod_lt_of_pos n (by decide)
    refine ⟨.int n, rfl, 10, 18, rfl, rfl, ⟨by decide, by decide, by decide⟩, n, _, rfl, rfl, _, rfl,
      ite2 (fun e => ?_) (fun e => ?_)⟩
    · refine ⟨.int n, rfl, n, 2147483647, rfl, rfl, pM, z3, fun d hd => ?_⟩
      exact q d _ hd (fun b hb => upd_ne hb)
        ⟨0, 0, _, upd_same, by decide, by decide, by decide, hm0, hm1⟩
    · have hn : 0 ≤ n := by
        have e2 : ¬ n < 10 ^ 18 := fun z => e (decide_eq_true z)
        omega
      refine ⟨.int n, rfl, .int n, rfl, n, 2147483647, rfl, rfl, pM, z3, fun d hd => ?_⟩
      exact q d _ hd (fun b hb => upd_ne hb)
        ⟨n, 0, _, upd_same, hn, by decide, by decide, hm0, hm1⟩

def spDraw : Sp := fun vs H Q _ => ∃ (d : Addr) (m : Int) (n : Nat), vs = [.ref d, .int m] ∧
  0 < m ∧ m < 1073741824 ∧ n < 1073741824 ∧ Deck H d n ∧
  ∀ r H', 0 ≤ r → r < m → But d H H' → Deck H' d (n + 1) → Q (.int r) H'
theorem ok_draw {f : Addr} {fd : FuncData} {k : Nat} (F : Fun K "_law_draw" "_law_draw" sDraw f fd) :
    FnOk P w K mg base CX0 (k + 1) f fd ["_law_deck_here", "_law_most"] spDraw := by
  refine F.ok scDraw (fun vs H Q E h => ?_) (fun cdv A outer s H vs Q E hr h => ?_)
  · obtain ⟨d, m, n, rfl, _⟩ := h
    rfl
  · obtain ⟨d, m, n, rfl, hm0, hm1, hn, ⟨a, b, c, hd, ha, hb0, hb1, hc0, hc1⟩, q⟩ := h
    refine ⟨_, pss_cons (ps_if (pt_cmpR op_gt (pe_ix ix_list (pv 0) pe_int (fun _ _ => rfl)) pe_int (nomark _))
        (pss_cons (ps_set (i := 2) scDraw.nd rfl (.inl rfl)
            (pe_op op_mod (pe_ix ix_list (pv 0) pe_int (fun _ _ => rfl)) (pv 1)))
          (pss_cons (ps_asg (pe_op op_fdiv (pe_ix ix_list (pv 0) pe_int (fun _ _ => rfl)) (pv 1))
              (pg_sub (pv 0) pe_int set_list))
            (pss_one (ps_ret (pv 2))))) pss_nil)
      (pss_cons (ps_asg (pe_op op_add (pe_ix ix_list (pv 0) pe_int (fun _ _ => rfl)) pe_int)
          (pg_sub (pv 0) pe_int set_list))
      (pss_cons (ps_set (i := 3) scDraw.nd rfl (.inl rfl)
          (pe_op op_mod (pe_op op_mul (pe_op op_add (pe_ix ix_list (pv 0) pe_int (fun _ _ => rfl))
            (pe_op op_mul (pe_op op_mul pe_int (pe_ix ix_list (pv 0) pe_int (fun _ _ => rfl)))
              (pe_ix ix_list (pv 0) pe_int (fun _ _ => rfl)))) pe_int) pe_int))
      (pss_one (ps_ret (pe_op op_mod (pe_op op_fdiv (pe_op op_mod (pe_op op_mul (pv 3)
          (pe_op op_add (pv 3) pe_int)) pe_int) pe_int) (pv 1)))))), ?_⟩
    refine ⟨.ref d, rfl, d, _, 0, .int a, rfl, rfl, SqL.of hd, atI_nat (j := 0) rfl, a, 0, rfl, rfl, _, rfl,
      ite2 (fun e => ?_) (fun e => ?_)⟩
    · have hm : 0 ≤ a % m := Int.emod_nonneg a (by omega)
      have hm2 : a % m < m := Int.emod_lt_of_pos a hm0
      refine ⟨.ref d, rfl, d, _, 0, .int a, rfl, rfl, SqL.of hd, atI_nat (j := 0) rfl, .int m, rfl, a, m, rfl, rfl, hm0, ?_⟩
      refine ⟨.ref d, rfl, d, _, 0, .int a, rfl, rfl, SqL.of hd, atI_nat (j := 0) rfl, .int m, rfl, a, m, rfl, rfl, ⟨hm0, hm1⟩, ?_⟩
      refine ⟨.ref d, rfl, d, _, 0, 0, rfl, rfl, hd, rfl, ?_⟩
      refine ⟨_, rfl, q _ _ hm hm2 (fun x hx => upd_ne hx) ⟨a / m, b, c, upd_same, ?_, hb0, ?_, hc0, hc1⟩⟩
      · exact Int.ediv_nonneg ha (by omega)
      · omega
    · refine ⟨.ref d, rfl, d, _, 1, .int b, rfl, rfl, SqL.of hd, atI_nat (j := 1) rfl, b, 1, rfl, rfl, ?_⟩
      refine ⟨.ref d, rfl, d, _, 1, 1, rfl, rfl, hd, rfl, ?_⟩
      have hd2 : upd H d (.lst [.int a, .int (b + 1), .int c]) d = some (.lst [.int a, .int (b + 1), .int c]) := upd_same
      refine ⟨.ref d, rfl, d, _, 2, .int c, rfl, rfl, SqL.of hd2, atI_nat (j := 2) rfl, ?_⟩
      refine ⟨.ref d, rfl, d, _, 1, .int (b + 1), rfl, rfl, SqL.of hd2, atI_nat (j := 1) rfl, _, _, rfl, rfl, .inl ⟨by decide, by decide⟩, ?_⟩
      refine ⟨.ref d, rfl, d, _, 1, .int (b + 1), rfl, rfl, SqL.of hd2, atI_nat (j := 1) rfl, _, _, rfl, rfl, .inr ⟨by omega, by omega⟩, ?_⟩
      refine ⟨_, _, rfl, rfl, _, _, rfl, rfl, .inr ⟨by decide, by decide⟩, _, _, rfl, rfl, pM, ?_⟩
      generalize (c + 7919 * (b + 1) * (b + 1)) * 48271 = z
      have y0 : 0 ≤ z % 2147483647 := Int.emod_nonneg z (by decide)
      have y1 : z % 2147483647 < 2147483647 := Int.emod_lt_of_pos z (by decide)
      refine ⟨_, rfl, _, rfl, _, _, rfl, rfl, _, _, rfl, rfl, .inl ⟨by omega, by omega⟩, _, _, rfl, rfl, pN, _, _, rfl, rfl, ⟨by decide, by decide⟩, .int m, rfl, _, _, rfl, rfl, hm0, ?_⟩
      refine q _ _ (Int.emod_nonneg _ (by omega)) (Int.emod_lt_of_pos _ hm0) (fun x hx => upd_ne hx) ⟨a, b + 1, c, upd_same, ha, by omega, by omega, hc0, hc1⟩
end
end My
namespace My
open PySem PySem.Spec PyProof.Rows L2
abbrev sTongue : Stmt := tp 19
abbrev sName : Stmt := tp 20
abbrev sNames : Stmt := tp 21
theorem scTongue : FnScope ["_law_words"] [] (defScope sTongue) :=
  ⟨rfl, rfl, rfl, by decide +kernel, rfl, by decide +kernel, by decide +kernel⟩
theorem scName : FnScope ["_law_deck_here", "_law_letters", "_law_some", "_law_way", "_law_k"] ["_law_deck_here"] (defScope sName) :=
  ⟨rfl, rfl, rfl, by decide +kernel, rfl, by decide +kernel, by decide +kernel⟩
theorem scNames : FnScope ["_law_deck_here", "_law_many", "_law_letters", "_law_barred", "_law_found", "_law_k", "_law_name_here"]
    ["_law_deck_here", "_law_many"] (defScope sNames) :=
  ⟨rfl, rfl, rfl, by decide +kernel, rfl, by decide +kernel, by decide +kernel⟩

/-! words -/
def W : List Str := (["end", "most", "less", "same", "unlike", "ahead", "here", "next",
  "not", "and", "or", "if", "each", "pairs", "nexts", "least", "more", "row", "place",
  "number", "put", "swap", "set", "stand", "begin", "go", "while", "kept", "changed",
  "exchanged", "turned", "moved", "front", "back"] : List String).map Str.ofString
def w1 : Str := "end most less same unlike ahead here next not and or if each pairs nexts least"
def w2 : Str := " more row place number put swap set stand begin go while kept"
def w3 : Str := " changed exchanged turned moved front back"
theorem split_w : Txt.split (w1 ++ w2 ++ w3) " " = W := by decide +kernel
theorem len_w1 : w1.length + w2.length ≤ sizeLine := by decide +kernel
theorem len_w2 : (w1 ++ w2).length + w3.length ≤ sizeLine := by decide +kernel
theorem len_w3 : (w1 ++ w2 ++ w3).length + 2 ≤ sizeLine := by decide +kernel
def W5 : List Str := (["holds", "broken", "yes", "no", "ok"] : List String).map Str.ofString
def bar : List Str := W ++ W5
def abc : Str := "abcdefghijklmnopqrstuvwxyz"
def abca : Str := "abcdefghijklmnopqrstuvwxyza"
/-- a text of one to eight small letters -/
def Low (z : Str) : Prop := 1 ≤ z.length ∧ z.length ≤ 8 ∧ ∀ c ∈ z.cps.toList, 97 ≤ c ∧ c ≤ 122
theorem small {n : Nat} (h : n ≤ 1000) : n ≤ sizeLine := Nat.le_of_lt (small1000 h)
theorem same_new {H : Hp} {p : Addr} {o : HO} (h : H p = none) : Same H (upd H p o) := fun b x e =>
  (upd_ne (ne_of_none e h)).trans e
/-- all but d stays -/
def SameBut (d : Addr) (H H' : Hp) : Prop := ∀ b o, b ≠ d → H b = some o → H' b = some o
theorem But.sb {d : Addr} {H H' : Hp} (h : But d H H') : SameBut d H H' := fun b o hb e => (h b hb).trans e
theorem SameBut.trans {d : Addr} {H H1 H2 : Hp} (a : SameBut d H H1) (b : SameBut d H1 H2) : SameBut d H H2 :=
  fun x o hx e => b x o hx (a x o hx e)
theorem SameBut.refl {d : Addr} {H : Hp} : SameBut d H H := fun _ _ _ e => e
theorem same_sb {d : Addr} {H H' : Hp} (h : Same H H') : SameBut d H H' := fun b o _ e => h b o e
theorem Deck.mono {H H' : Hp} {d : Addr} {n : Nat} (h : Deck H d n) (s : Same H H') : Deck H' d n := by
  obtain ⟨a, b, c, e, r⟩ := h
  exact ⟨a, b, c, s _ _ e, r⟩
theorem Deck.more {H : Hp} {d : Addr} {n m : Nat} (h : Deck H d n) (l : n ≤ m) : Deck H d m := by
  obtain ⟨a, b, c, e, h1, h2, h3, h4⟩ := h
  exact ⟨a, b, c, e, h1, h2, by omega, h4⟩
theorem Deck.ne {H : Hp} {d p : Addr} {n : Nat} (h : Deck H d n) (e : H p = none) : d ≠ p := by
  obtain ⟨_, _, _, e1, _⟩ := h
  exact ne_of_none e1 e
/-- a new object and the deck -/
theorem Deck.lay {H : Hp} {d p : Addr} {n : Nat} {o : HO} (h : Deck H d n) (e : H p = none) : Deck (upd H p o) d n := h.mono (same_new e)
theorem at_list {α : Type} (xs : List α) {r : Int} (h0 : 0 ≤ r) (h1 : r < xs.length) : ∃ v, atI xs r = some v ∧ v ∈ xs := by
  obtain ⟨n, rfl⟩ := Int.eq_ofNat_of_zero_le h0
  have hn : n < xs.length := by omega
  exact ⟨xs[n], atI_nat (List.getElem?_eq_getElem hn), List.getElem_mem hn⟩
theorem len_app (x y : Str) : (x ++ y).length = x.length + y.length := PySem.Str.length_append x y
def some12 : List Str := (["a", "b", "i", "j", "aa", "ab", "ends", "mostly", "rows", "c", "nexta", "placed"] : List String).map Str.ofString
theorem some12_ok : ∀ z ∈ some12, Low z := by
  unfold Low
  decide +kernel
theorem abc_at {r : Int} (h0 : 0 ≤ r) (h1 : r < 26) : ∃ c, atI abc.cps.toList r = some c ∧ 97 ≤ c ∧ c ≤ 122 := by
  obtain ⟨c, h, m⟩ := at_list abc.cps.toList h0 (show r < (abc.cps.toList.length : Int) by
    have : abc.cps.toList.length = 26 := by decide +kernel
    omega)
  have ha : ∀ c ∈ abc.cps.toList, 97 ≤ c ∧ c ≤ 122 := by decide +kernel
  exact ⟨c, h, ha c m⟩
theorem app_mem {x y : Str} {c : Nat} (h : c ∈ (x ++ y).cps.toList) : c ∈ x.cps.toList ∨ c ∈ y.cps.toList := by
  have e : (x ++ y).cps.toList = x.cps.toList ++ y.cps.toList := by
    show (x.cps ++ y.cps).toList = _
    simp
  rw [e] at h
  exact List.mem_append.mp h
theorem join_low : ∀ ys : List Str, (∀ y ∈ ys, y.length = 1 ∧ ∀ c ∈ y.cps.toList, 97 ≤ c ∧ c ≤ 122) →
    (Txt.join "" ys).length = ys.length ∧ ∀ c ∈ (Txt.join "" ys).cps.toList, 97 ≤ c ∧ c ≤ 122
  | [], _ => ⟨rfl, fun c hc => by cases hc⟩
  | [x], h => h x List.mem_cons_self
  | x :: y :: r, h => by
    have ih := join_low (y :: r) fun z hz => h z (List.mem_cons_of_mem _ hz)
    have hx := h x List.mem_cons_self
    have gl : ∀ l, Txt.join ("" : Str) l = Str.join "" l := fun l => PySem.StrLaws.glued_eq_join "" l
    have e : Txt.join "" (x :: y :: r) = x ++ "" ++ Txt.join "" (y :: r) := by
      rw [gl, gl]
      rfl
    rw [e]
    have l0 : ("" : Str).length = 0 := rfl
    refine ⟨?_, fun c hc => ?_⟩
    · rw [len_app, len_app, l0, hx.1, ih.1]
      simp only [List.length_cons]
      omega
    · rcases app_mem hc with z | z
      · rcases app_mem z with z | z
        · exact hx.2 c z
        · cases z
      · exact ih.2 c z
theorem sum_ones : ∀ ys : List Str, (∀ y ∈ ys, y.length = 1) → (ys.map (·.length)).sum = ys.length
  | [], _ => rfl
  | y :: r, h => by
    rw [List.map_cons, List.sum_cons, sum_ones r fun z hz => h z (List.mem_cons_of_mem _ hz), h y List.mem_cons_self, List.length_cons]
    omega

section
variable {P : Program} {w : World} {K : PySem.W.Frag} {mg : Str → Option Value} {base : Heap}
def spTongue : Sp := fun vs H Q _ => vs = [] ∧ ∀ p, H p = none → Q (.ref p) (upd H p (.lst (W.map V.str)))
theorem ok_tongue {f : Addr} {fd : FuncData} {k : Nat} (F : Fun K "_law_tongue" "_law_tongue" sTongue f fd) :
    FnOk P w K mg base CX0 (k + 1) f fd [] spTongue := by
  refine F.ok scTongue (fun vs H Q E h => ?_) (fun cdv A outer s H vs Q E hr h => ?_)
  · obtain ⟨rfl, _⟩ := h
    rfl
  · obtain ⟨rfl, q⟩ := h
    refine ⟨_, pss_cons (ps_set (i := 0) scTongue.nd rfl (.inl rfl) pe_str)
      (pss_cons (ps_set (i := 0) scTongue.nd rfl (.inl rfl) (pe_op op_add_str (pv 0) pe_str))
      (pss_cons (ps_set (i := 0) scTongue.nd rfl (.inl rfl) (pe_op op_add_str (pv 0) pe_str))
      (pss_one (ps_ret (pe_split (pv 0) pe_str))))), ?_⟩
    refine ⟨_, rfl, w1, w2, rfl, rfl, len_w1, ?_⟩
    refine ⟨_, rfl, w1 ++ w2, w3, rfl, rfl, len_w2, ?_⟩
    refine ⟨_, rfl, ⟨_, rfl⟩, w1 ++ w2 ++ w3, " ", rfl, rfl, by decide +kernel, len_w3, fun p hp => ?_⟩
    rw [split_w]
    exact q p hp

def spName : Sp := fun vs H Q _ => ∃ (d : Addr) (n : Nat), vs = [.ref d] ∧ Deck H d n ∧ n ≤ 100000000 ∧
  ∀ z H', Low z → SameBut d H H' → Deck H' d (n + 10) → Q (.str z) H'
theorem ok_name {f fD : Addr} {fd fdD : FuncData} {k : Nat} (F : Fun K "_law_name" "_law_name" sName f fd)
    (FD : Fun K "_law_draw" "_law_draw" sDraw fD fdD) (bD : Binds K fdD ["_law_deck_here", "_law_most"] [])
    (gD : mg "_law_draw" = some (.ref fD)) (mr : mg "range" = none) :
    FnOk P w K mg base CX0 (k + 2) f fd ["_law_deck_here"] spName := by
  have GD : FnOk P w K mg base CX0 (k + 1) fD fdD ["_law_deck_here", "_law_most"] spDraw := ok_draw FD
  refine F.ok scName (fun vs H Q E h => ?_) (fun cdv A outer s H vs Q E hr h => ?_)
  · obtain ⟨d, n, rfl, _⟩ := h
    rfl
  · obtain ⟨d, n, rfl, hd, hn, q⟩ := h
    refine ⟨_, pss_cons (ps_set (i := 1) scName.nd rfl (.inr rfl) pe_str)
      (pss_cons (ps_set (i := 2) scName.nd rfl (.inl rfl) (pe_lst (pa_cons pe_str (pa_cons pe_str (pa_cons pe_str (pa_cons pe_str (pa_cons pe_str (pa_cons pe_str (pa_cons pe_str (pa_cons pe_str (pa_cons pe_str (pa_cons pe_str (pa_cons pe_str (pa_cons pe_str pa_nil))))))))))))))
      (pss_cons (ps_set (i := 3) scName.nd rfl (.inl rfl) (pe_call GD hr (by rfl) gD FD.kp bD .nil pass0 (pa_cons (pv 0) (pa_cons pe_int pa_nil))))
      (pss_cons (ps_if (pt_cmpR op_lt (pv 3) pe_int (nomark _)) (pss_one (ps_ret (pe_ix ix_list (pv 2) (pv 3) (fun _ _ => rfl)))) pss_nil)
      (pss_one (ps_ret (pe_join pe_str
        (pe_lc (own := [("_law_k", 4)]) (g := gName 4) (by rfl) scName.nd
          (pi_range1 (by rfl) mr (pa_cons (pe_op op_add pe_int (pe_call GD hr (by rfl) gD FD.kp bD .nil pass0 (pa_cons (pv 0) (pa_cons pe_int pa_nil)))) pa_nil))
          (blkOk_by (own := [("_law_k", 4)]) (N := ["_law_deck_here", "_law_letters", "_law_some", "_law_way", "_law_k"]) (sc := defScope sName) (by decide +kernel))
          (fun _ _ _ _ _ => pg_name (i := 4) scName.nd rfl (Or.inl rfl))
          (fun _ _ _ _ _ => pts_nil)
          (fun _ _ _ _ _ => pe_ix ix_str (pv 1) (pe_call GD hr (by rfl) gD FD.kp bD .nil pass0 (pa_cons (pv 0) (pa_cons pe_int pa_nil))) (fun _ _ => rfl))))))))), ?_⟩
    refine ⟨(show 12 ≤ sizeLine by decide), fun l nl => ?_⟩
    have ndl := hd.ne nl
    refine ⟨.ref d, rfl, d, 18, n, rfl, by decide, by decide, by omega, hd.lay nl, fun r H1 r0 r1 b1 d1 => ?_⟩
    have el : H1 l = some (.lst (some12.map V.str)) := (b1 l ndl.symm).trans upd_same
    have sb1 : SameBut d H H1 := (same_sb (same_new nl)).trans b1.sb
    refine ⟨.int r, rfl, r, 12, rfl, rfl, _, rfl, ite2 (fun e => ?_) (fun e => ?_)⟩
    · have e2 : r < 12 := of_decide_eq_true e
      obtain ⟨v, hv, hm⟩ := at_list (some12.map V.str) r0 (show r < ((some12.map V.str).length : Int) by exact e2)
      obtain ⟨z, hz, rfl⟩ := List.mem_map.mp hm
      refine ⟨.ref l, rfl, .int r, rfl, l, _, r, .str z, rfl, rfl, SqL.of el, hv, ?_⟩
      exact q z H1 (some12_ok z hz) sb1 (d1.more (by omega))
    · refine ⟨⟨_, rfl⟩, .ref d, rfl, d, 8, n + 1, rfl, by decide, by decide, by omega, d1, fun r2 H2 r20 r21 b2 d2 => ?_⟩
      refine ⟨1, r2, rfl, rfl, 1 + r2, rfl, by omega, by omega, fun D hD => ?_⟩
      have nD := d2.ne hD
      have hn8 : (1 + r2).toNat ≤ 8 := by omega
      have hn1 : 1 ≤ (1 + r2).toNat := by omega
      refine lc_range (lo := 0) (n := (1 + r2).toNat) (fun i Hc => ∃ ys : List Str, ys.length = i ∧ (∀ y ∈ ys, y.length = 1 ∧ ∀ c ∈ y.cps.toList, 97 ≤ c ∧ c ≤ 122) ∧
        Hc D = some (.lst (ys.map V.str)) ∧ Deck Hc d (n + 2 + i) ∧ SameBut d H Hc) ?_ ?_ ?_
      · exact ⟨[], rfl, fun y hy => (by cases hy), upd_same, d2.lay hD, (sb1.trans b2.sb).trans (same_sb (same_new hD))⟩
      · intro i Hc hi hP
        obtain ⟨ys, hl, hy, eD, hdk, hsb⟩ := hP
        refine ⟨rfl, ?_⟩
        refine ⟨.str abc, rfl, .ref d, rfl, d, 26, _, rfl, by decide, by decide, by omega, hdk, fun r' H3 r0' r1' b3 d3 => ?_⟩
        obtain ⟨c, hc, hc2⟩ := abc_at r0' r1'
        refine ⟨abc, r', c, rfl, rfl, by decide +kernel, hc, ?_⟩
        refine ⟨_, (b3 D nD.symm).trans eD, by rw [List.length_map]; exact small1000 (by omega), ys ++ [⟨#[c]⟩], by simp [hl], ?_, ?_, ?_, ?_⟩
        · intro y hyy
          rcases List.mem_append.mp hyy with z | z
          · exact hy y z
          · have ez : y = ⟨#[c]⟩ := by simpa using z
            subst ez
            refine ⟨rfl, fun x hx => ?_⟩
            have ex : x = c := by simpa using hx
            rw [ex]
            exact hc2
        · rw [upd_same, List.map_append]
          rfl
        · obtain ⟨a, b, c', e, rest⟩ := d3
          exact ⟨a, b, c', (upd_ne nD).trans e, by rw [show n + 2 + (i + 1) = n + 2 + i + 1 by omega]; exact rest⟩
        · intro b o hb e
          by_cases hbD : b = D
          · subst hbD
            have e1 := (sb1.trans b2.sb) b o hb e
            rw [hD] at e1
            cases e1
          · rw [upd_ne hbD, b3 b hb]
            exact hsb b o hb e
      · intro Hc hP
        obtain ⟨ys, hl, hy, eD, hdk, hsb⟩ := hP
        obtain ⟨jl, ja⟩ := join_low ys hy
        refine ⟨"", D, ys, rfl, rfl, .inl (SqL.of eD), ?_, ?_⟩
        · rw [sum_ones ys fun y h => (hy y h).1]
          have l0 : ("" : Str).length = 0 := rfl
          rw [l0]
          omega
        · exact q _ Hc ⟨by omega, by omega, ja⟩ hsb (hdk.more (by omega))
end
end My
namespace My
open PySem PySem.Spec PyProof.Rows L2
def mk (c : Nat) (t : List Nat) : Str := ⟨(c :: t).toArray⟩
def rot (c j : Nat) : Nat := 97 + (c - 97 + j) % 26
theorem rot_zero {c : Nat} (h1 : 97 ≤ c) (h2 : c ≤ 122) : rot c 0 = c := by
  unfold rot
  omega
theorem rot_lo (c j : Nat) : 97 ≤ rot c j ∧ rot c j ≤ 122 := by
  unfold rot
  omega
theorem rot_inj {c i j : Nat} (hi : i < 26) (hj : j < 26) (h : rot c i = rot c j) : i = j := by
  unfold rot at h
  omega
theorem mk_inj {c c' : Nat} {t : List Nat} (h : mk c t = mk c' t) : c = c' := by
  have e : (c :: t).toArray = (c' :: t).toArray := congrArg Str.cps h
  have e2 := congrArg Array.toList e
  simpa using e2
theorem mk_of {z : Str} (h : Low z) : ∃ c t, z = mk c t ∧ 97 ≤ c ∧ c ≤ 122 ∧ t.length ≤ 7 ∧ ∀ x ∈ t, 97 ≤ x ∧ x ≤ 122 := by
  obtain ⟨h1, h2, h3⟩ := h
  obtain ⟨⟨l⟩⟩ := z
  cases l with
  | nil => exact absurd h1 (by decide)
  | cons c t =>
    have hc := h3 c (by simp)
    refine ⟨c, t, rfl, hc.1, hc.2, ?_, fun x hx => h3 x (by simp [hx])⟩
    have : (c :: t).length ≤ 8 := h2
    simpa using this
theorem low_mk {c : Nat} {t : List Nat} (h1 : 97 ≤ c) (h2 : c ≤ 122) (h3 : t.length ≤ 7) (h4 : ∀ x ∈ t, 97 ≤ x ∧ x ≤ 122) : Low (mk c t) := by
  refine ⟨?_, ?_, fun x hx => ?_⟩
  · show 1 ≤ (c :: t).toArray.size
    simp
  · show (c :: t).toArray.size ≤ 8
    simp
    omega
  · have : x = c ∨ x ∈ t := by simpa [mk] using hx
    rcases this with rfl | h
    · exact ⟨h1, h2⟩
    · exact h4 x h
theorem mk_len (c : Nat) (t : List Nat) : (mk c t).length = t.length + 1 := by
  show (c :: t).toArray.size = _
  simp
theorem mk_tail (c : Nat) (t : List Nat) : (⟨#[c]⟩ : Str) ++ cutS (mk c t) (some 1) none = mk c t := by
  apply PySem.Str.ext'
  show #[c] ++ (cutS (mk c t) (some 1) none).cps = (c :: t).toArray
  have e : (cutS (mk c t) (some 1) none).cps = t.toArray := by
    unfold cutS
    have h1 : HT.sIx (mk c t).length 0 (some 1) = 1 := by
      have q : HT.sIx (mk c t).length 0 (some 1) = min 1 (mk c t).length := HT.sIx_nat (mk c t).length 0 1
      rw [q, mk_len]
      omega
    have h2 : HT.sIx (mk c t).length (mk c t).length none = (mk c t).length := HT.sIx_none ..
    rw [h1, h2, mk_len]
    show ((List.take (t.length + 1 - 1) (List.drop 1 (c :: t))).toArray) = t.toArray
    simp
  rw [e]
  simp
theorem mk_cut (c c' : Nat) (t : List Nat) : (⟨#[c']⟩ : Str) ++ cutS (mk c t) (some 1) none = mk c' t := by
  have e : cutS (mk c t) (some 1) none = cutS (mk c' t) (some 1) none := by
    unfold cutS
    rw [mk_len, mk_len]
    have h1 : HT.sIx (t.length + 1) 0 (some 1) = 1 := by
      have q : HT.sIx (t.length + 1) 0 (some 1) = min 1 (t.length + 1) := HT.sIx_nat (t.length + 1) 0 1
      rw [q]
      omega
    rw [h1]
    show (⟨(List.take _ (List.drop 1 (c :: t))).toArray⟩ : Str) = ⟨(List.take _ (List.drop 1 (c' :: t))).toArray⟩
    rfl
  rw [e]
  exact mk_tail c' t
theorem mk_first (c : Nat) (t : List Nat) : atI (mk c t).cps.toList 0 = some c := atI_nat (j := 0) (by simp [mk])
/-- the place of a letter, and the letter behind it -/
theorem occ26 : ∀ k : Fin 26, Builtin.Str.occurrences abca ⟨#[97 + k.val]⟩ 0 abca.length 1 = [k.val] := by decide +kernel
theorem occ_at {c : Nat} (h1 : 97 ≤ c) (h2 : c ≤ 122) : Builtin.Str.occurrences abca ⟨#[c]⟩ 0 abca.length 1 = [c - 97] := by
  have := occ26 ⟨c - 97, by omega⟩
  have e : 97 + (c - 97) = c := by omega
  simpa [e] using this
theorem nxt26 : ∀ k : Fin 26, abca.cps.toList[1 + k.val]? = some (97 + (k.val + 1) % 26) := by decide +kernel
theorem nxt_at {c j : Nat} : atI abca.cps.toList (1 + ((rot c j - 97 : Nat) : Int)) = some (rot c (j + 1)) := by
  have hlt : rot c j - 97 < 26 := by
    have := rot_lo c j
    omega
  have h := nxt26 ⟨rot c j - 97, hlt⟩
  have e : 97 + (rot c j - 97 + 1) % 26 = rot c (j + 1) := by
    unfold rot
    omega
  rw [← e]
  have e2 : (1 + ((rot c j - 97 : Nat) : Int)) = ((1 + (rot c j - 97) : Nat) : Int) := by omega
  rw [e2]
  exact atI_nat h
theorem inV_str (z : Str) : ∀ l : List Str, inV (.str z) (l.map V.str) = decide (z ∈ l)
  | [] => rfl
  | y :: r => by
    have ih := inV_str z r
    unfold inV at ih ⊢
    rw [List.map_cons, List.any_cons, ih]
    show ((y == z) || decide (z ∈ r)) = decide (z ∈ y :: r)
    by_cases h : y = z
    · subst h
      simp
    · have h' : ¬ z = y := fun e => h e.symm
      simp [h, h', beq_eq_false_iff_ne.mpr h]
theorem flat_strs : ∀ l : List Str, (l.map V.str).all flatV = true
  | [] => rfl
  | y :: r => by
    rw [List.map_cons, List.all_cons, flat_strs r]
    rfl
theorem nodup_len {α : Type} [BEq α] [LawfulBEq α] : ∀ (l L : List α), l.Nodup → (∀ x ∈ l, x ∈ L) → l.length ≤ L.length
  | [], _, _, _ => Nat.zero_le _
  | x :: r, L, hn, hs => by
    rw [List.nodup_cons] at hn
    have hx := hs x List.mem_cons_self
    have ih := nodup_len r (L.erase x) hn.2 fun y hy => by
      have hne : y ≠ x := fun e => hn.1 (e ▸ hy)
      exact (List.mem_erase_of_ne hne).mpr (hs y (List.mem_cons_of_mem _ hy))
    rw [List.length_erase_of_mem hx] at ih
    have : 0 < L.length := List.length_pos_of_mem hx
    simp only [List.length_cons]
    omega
def tl (w : Str) : List Nat := w.cps.toList.tail
theorem bar_tl0 : ∀ w ∈ bar, (bar.filter fun v => decide (tl v = tl w)).length ≤ 2 := by decide +kernel
theorem bar_tl (t : List Nat) : (bar.filter fun v => decide (tl v = t)).length ≤ 2 := by
  cases h : bar.filter fun v => decide (tl v = t) with
  | nil => simp
  | cons w r =>
    have hm : w ∈ bar.filter fun v => decide (tl v = t) := by rw [h]; exact List.mem_cons_self
    obtain ⟨h1, h2⟩ := List.mem_filter.mp hm
    have e : tl w = t := of_decide_eq_true h2
    rw [← h, ← e]
    exact bar_tl0 w h1
theorem not_all26 {c : Nat} {t : List Nat} {zs : List Str} (hz : zs.length ≤ 20) (h : ∀ i, i < 26 → mk (rot c i) t ∈ zs ∨ mk (rot c i) t ∈ bar) : False := by
  have l := nodup_len ((List.range 26).map fun i => mk (rot c i) t) (zs ++ bar.filter fun v => decide (tl v = t)) ?_ ?_
  · rw [List.length_map, List.length_range, List.length_append] at l
    have := bar_tl t
    omega
  · rw [List.nodup_iff_pairwise_ne]
    rw [List.pairwise_map]
    refine List.Pairwise.imp_of_mem ?_ (List.nodup_iff_pairwise_ne.mp List.nodup_range)
    intro i j hi hj hne e
    exact hne (rot_inj (List.mem_range.mp hi) (List.mem_range.mp hj) (mk_inj e))
  · intro x hx
    obtain ⟨i, hi, rfl⟩ := List.mem_map.mp hx
    rcases h i (List.mem_range.mp hi) with z | z
    · exact List.mem_append_left _ z
    · exact List.mem_append_right _ (List.mem_filter.mpr ⟨z, decide_eq_true (by simp [tl, mk])⟩)
def Good (zs : List Str) : Prop := zs.Nodup ∧ ∀ z ∈ zs, Low z ∧ z ∉ bar
section
variable {P : Program} {w : World} {K : PySem.W.Frag} {mg : Str → Option Value} {base : Heap}
def spNames : Sp := fun vs H Q _ => ∃ (d : Addr) (m n : Nat), vs = [.ref d, .int m] ∧ Deck H d n ∧ n ≤ 1000000 ∧ m ≤ 20 ∧
  ∀ p zs H', zs.length = m → Good zs → H p = none → H' p = some (.lst (zs.map V.str)) → SameBut d H H' → Deck H' d (n + 10 * m) → Q (.ref p) H'
theorem ok_names {f fN fT : Addr} {fd fdN fdT : FuncData} {k : Nat} (F : Fun K "_law_names" "_law_names" sNames f fd)
    (GN : FnOk P w K mg base CX0 (k + 2) fN fdN ["_law_deck_here"] spName) (kN : PySem.W.keepIn K (.ref fN) = true) (bN : Binds K fdN ["_law_deck_here"] []) (gN : mg "_law_name" = some (.ref fN))
    (GT : FnOk P w K mg base CX0 1 fT fdT [] spTongue) (kT : PySem.W.keepIn K (.ref fT) = true) (bT : Binds K fdT [] []) (gT : mg "_law_tongue" = some (.ref fT))
    (mr : mg "range" = none) :
    FnOk P w K mg base CX0 (k + 3) f fd ["_law_deck_here", "_law_many"] spNames := by
  refine F.ok scNames (fun vs H Q E h => ?_) (fun cdv A outer s H vs Q E hr h => ?_)
  · obtain ⟨d, m, n, rfl, _⟩ := h
    rfl
  · obtain ⟨d, m, n, rfl, hd, hn, hm, q⟩ := h
    refine ⟨_, pss_cons (ps_set (i := 2) scNames.nd rfl (.inl rfl) pe_str)
      (pss_cons (ps_set (i := 3) scNames.nd rfl (.inl rfl) (pe_op op_cat (pe_call0 GT (hr.mono (by omega)) (by rfl) gT kT bT .nil pass0)
          (pe_lst (pa_cons pe_str (pa_cons pe_str (pa_cons pe_str (pa_cons pe_str (pa_cons pe_str pa_nil))))))))
      (pss_cons (ps_set (i := 4) scNames.nd rfl (.inl rfl) (pe_lst pa_nil))
      (pss_cons (ps_for PassesOwn.never rfl (pi_range1 (by rfl) mr (pa_cons (pv 1) pa_nil)) (pg_name (i := 5) scNames.nd rfl (.inl rfl))
        (pss_cons (ps_set (i := 6) scNames.nd rfl (.inl rfl) (pe_call GN hr (by rfl) gN kN bN .nil pass0 (pa_cons (pv 0) pa_nil)))
        (pss_cons (ps_while PassesOwn.never (PW.pt (pw_or (pt_cmpR op_in_seq (pv 6) (pv 4) (by rfl)) (pw_or1 (pt_cmpR op_in_seq (pv 6) (pv 3) (by rfl)))))
          (pss_one (ps_set (i := 6) scNames.nd rfl (.inl rfl) (pe_op op_add_str
            (pe_ix ix_str (pv 2) (pe_op op_add pe_int (pe_m1 PySem.F.slot_str_index PySem.F.type_str_index mt_sindex (pv 2) (pe_ix ix_str (pv 6) pe_int (fun _ _ => rfl)))) (fun _ _ => rfl))
            (pe_slice sl_str (pv 6) (po_some pe_int) po_none)))))
        (pss_one (ps_expr (pe_bm PySem.F.plainAttrs_list PySem.F.slot_list_append PySem.F.type_list_append mt_append (pv 4) (pa_cons (pv 6) pa_nil)))))))
      (pss_one (ps_ret (pv 4)))))), ?_⟩
    refine ⟨rfl, fun t1 n1 => ?_⟩
    refine ⟨(show 5 ≤ sizeLine by decide), fun t2 n2 => ?_⟩
    refine ⟨t1, t2, W.map V.str, W5.map V.str, rfl, rfl, (same_new n2) _ _ upd_same, upd_same, by decide, fun lb nlb => ?_⟩
    refine ⟨Nat.zero_le _, fun lf nlf => ?_⟩
    have sA := (same_new (o := .lst (W.map V.str)) n1).trans ((same_new (o := .lst (W5.map V.str)) n2).trans ((same_new (o := .lst (W.map V.str ++ W5.map V.str)) nlb).trans (same_new (o := .lst []) nlf)))
    have nlf0 : H lf = none := ((same_new (o := .lst (W.map V.str)) n1).trans ((same_new (o := .lst (W5.map V.str)) n2).trans (same_new (o := .lst (W.map V.str ++ W5.map V.str)) nlb))).free nlf
    have elb := same_new (o := .lst []) nlf lb _ upd_same
    refine ⟨.int m, rfl, m, rfl, by omega, by omega, ?_⟩
    have hmN : (m : Int).toNat = m := by omega
    refine for_range (lo := 0) (n := (m : Int).toNat) (fun i σ Hc => ∃ zs y5 y6, σ = [some (.ref d), some (.int m), some (.str abca), some (.ref lb), some (.ref lf), y5, y6] ∧ zs.length = i ∧ Good zs ∧
      Hc lf = some (.lst (zs.map V.str)) ∧ Hc lb = some (.lst (bar.map V.str)) ∧ Deck Hc d (n + 10 * i) ∧ SameBut d H Hc) ?_ ?_ ?_
    · refine ⟨[], none, none, rfl, rfl, ⟨List.nodup_nil, fun z hz => (by cases hz)⟩, upd_same, ?_, hd.mono sA, same_sb sA⟩
      rw [show bar.map V.str = W.map V.str ++ W5.map V.str from List.map_append]
      exact elb
    · intro i σ Hc hi hP
      obtain ⟨zs, y5, y6, rfl, hzl, hg, ef, eb, hdk, hsb⟩ := hP
      refine ⟨.ref d, rfl, d, _, rfl, hdk, by omega, fun z0 H1 hlow sb1 d1 => ?_⟩
      have nef : lf ≠ d := by
        intro e
        obtain ⟨_, _, _, e2, _⟩ := hd
        rw [e, e2] at nlf0
        cases nlf0
      have neb : lb ≠ d := by
        intro e
        obtain ⟨_, _, _, e2, _⟩ := hdk
        rw [e, e2] at eb
        have : [V.int _, V.int _, V.int _] = bar.map V.str := HO.lst.inj (Option.some.inj eb)
        cases this
      have ef1 := sb1 lf _ nef ef
      have eb1 := sb1 lb _ neb eb
      obtain ⟨c, t, rfl, hc1, hc2, htl, htc⟩ := mk_of hlow
      -- the while
      refine ⟨fun mm σ Hw => ∃ j, σ = [some (.ref d), some (.int m), some (.str abca), some (.ref lb), some (.ref lf), some (.int (0 + i)), some (.str (mk (rot c j) t))] ∧ mm = 26 - j ∧ j ≤ 26 ∧
        (∀ x, x < j → mk (rot c x) t ∈ zs ∨ mk (rot c x) t ∈ bar) ∧ Hw = H1, ⟨26, 0, by rw [rot_zero hc1 hc2]; rfl, rfl, by omega, fun x hx => absurd hx (by omega), rfl⟩, ?_⟩
      rintro mm σ Hw ⟨j, rfl, rfl, hj, hall, rfl⟩
      have turn : mk (rot c j) t ∈ zs ∨ mk (rot c j) t ∈ bar → (∀ x, x < j + 1 → mk (rot c x) t ∈ zs ∨ mk (rot c x) t ∈ bar) ∧ j + 1 ≤ 26 := fun hin => by
        have hall' : ∀ x, x < j + 1 → mk (rot c x) t ∈ zs ∨ mk (rot c x) t ∈ bar := fun x hx => by
          by_cases e : x = j
          · subst e
            exact hin
          · exact hall x (by omega)
        refine ⟨hall', ?_⟩
        apply Nat.le_of_not_lt
        intro hgt
        exact not_all26 (c := c) (t := t) (zs := zs) (by omega) fun x hx => hall' x (by omega)
      refine ⟨.str (mk (rot c j) t), rfl, .ref lf, rfl, lf, _, rfl, .inl (SqL.of ef1), rfl, flat_strs zs, _, rfl, ?_⟩
      by_cases h1 : mk (rot c j) t ∈ zs
      · obtain ⟨hall', hj26⟩ := turn (.inl h1)
        have e1 : inV (.str (mk (rot c j) t)) (zs.map V.str) = true := by rw [inV_str]; exact decide_eq_true h1
        show if (inV (.str (mk (rot c j) t)) (zs.map V.str)) = true then _ else _
        rw [if_pos e1]
        refine ⟨fun σ' H' => σ' = [some (.ref d), some (.int m), some (.str abca), some (.ref lb), some (.ref lf), some (.int (0 + i)), some (.str (mk (rot c (j + 1)) t))] ∧ H' = Hw,
          fun σ' H' e => ⟨26 - (j + 1), by omega, j + 1, e.1, rfl, hj26, hall', e.2⟩, ?_⟩
        refine ⟨.str abca, rfl, .str abca, rfl, ⟨_, rfl⟩, .str (mk (rot c j) t), rfl, mk (rot c j) t, 0, rot c j, rfl, rfl, small (by rw [mk_len]; omega), mk_first _ _, ?_⟩
        refine ⟨abca, ⟨#[rot c j]⟩, rot c j - 97, [], rfl, rfl, occ_at (rot_lo c j).1 (rot_lo c j).2, ?_⟩
        refine ⟨1, _, rfl, rfl, abca, _, rot c (j + 1), rfl, rfl, by decide +kernel, nxt_at, ?_⟩
        refine ⟨.str (mk (rot c j) t), rfl, 1, rfl, mk (rot c j) t, rfl, small (by rw [mk_len]; omega), _, _, rfl, rfl, small ?_, ?_⟩
        · have := cutS_length (mk (rot c j) t) (some 1) none
          rw [mk_len] at this
          show 1 + _ ≤ 1000
          omega
        · rw [mk_cut]
          exact ⟨rfl, rfl⟩
      · have e1 : inV (.str (mk (rot c j) t)) (zs.map V.str) = false := by rw [inV_str]; exact decide_eq_false h1
        show if (inV (.str (mk (rot c j) t)) (zs.map V.str)) = true then _ else _
        rw [if_neg (by rw [e1]; decide)]
        refine ⟨.str (mk (rot c j) t), rfl, .ref lb, rfl, lb, _, rfl, .inl (SqL.of eb1), rfl, flat_strs bar, _, rfl, ?_⟩
        by_cases h2 : mk (rot c j) t ∈ bar
        · obtain ⟨hall', hj26⟩ := turn (.inr h2)
          have e2 : inV (.str (mk (rot c j) t)) (bar.map V.str) = true := by rw [inV_str]; exact decide_eq_true h2
          show if (inV (.str (mk (rot c j) t)) (bar.map V.str)) = true then _ else _
          rw [if_pos e2]
          refine ⟨fun σ' H' => σ' = [some (.ref d), some (.int m), some (.str abca), some (.ref lb), some (.ref lf), some (.int (0 + i)), some (.str (mk (rot c (j + 1)) t))] ∧ H' = Hw,
            fun σ' H' e => ⟨26 - (j + 1), by omega, j + 1, e.1, rfl, hj26, hall', e.2⟩, ?_⟩
          refine ⟨.str abca, rfl, .str abca, rfl, ⟨_, rfl⟩, .str (mk (rot c j) t), rfl, mk (rot c j) t, 0, rot c j, rfl, rfl, small (by rw [mk_len]; omega), mk_first _ _, ?_⟩
          refine ⟨abca, ⟨#[rot c j]⟩, rot c j - 97, [], rfl, rfl, occ_at (rot_lo c j).1 (rot_lo c j).2, ?_⟩
          refine ⟨1, _, rfl, rfl, abca, _, rot c (j + 1), rfl, rfl, by decide +kernel, nxt_at, ?_⟩
          refine ⟨.str (mk (rot c j) t), rfl, 1, rfl, mk (rot c j) t, rfl, small (by rw [mk_len]; omega), _, _, rfl, rfl, small ?_, ?_⟩
          · have := cutS_length (mk (rot c j) t) (some 1) none
            rw [mk_len] at this
            show 1 + _ ≤ 1000
            omega
          · rw [mk_cut]
            exact ⟨rfl, rfl⟩
        · have e2 : inV (.str (mk (rot c j) t)) (bar.map V.str) = false := by rw [inV_str]; exact decide_eq_false h2
          show if (inV (.str (mk (rot c j) t)) (bar.map V.str)) = true then _ else _
          rw [if_neg (by rw [e2]; decide)]
          -- found.append(name)
          refine ⟨.ref lf, rfl, .inl ⟨rfl, _, SqL.of ef1⟩, .str (mk (rot c j) t), rfl, lf, _, _, rfl, rfl, ef1, by rw [List.length_map]; exact small1000 (by omega), ?_⟩
          have hlw := low_mk (rot_lo c j).1 (rot_lo c j).2 htl htc
          refine ⟨zs ++ [mk (rot c j) t], some (.int (0 + i)), some (.str (mk (rot c j) t)), rfl, by simp [hzl], ⟨?_, fun z hz => ?_⟩, ?_, ?_, ?_, ?_⟩
          · rw [List.nodup_append]
            refine ⟨hg.1, by simp, fun x hx y hy e => ?_⟩
            have ey : y = mk (rot c j) t := by simpa using hy
            rw [e, ey] at hx
            exact h1 hx
          · rcases List.mem_append.mp hz with hz | hz
            · exact hg.2 z hz
            · have ez : z = mk (rot c j) t := by simpa using hz
              rw [ez]
              exact ⟨hlw, h2⟩
          · rw [upd_same, List.map_append]
            rfl
          · rw [upd_ne (fun e => by
              rw [e, ef1] at eb1
              have l1 := congrArg List.length (HO.lst.inj (Option.some.inj eb1))
              have l2 : (bar.map V.str).length = 39 := by decide +kernel
              rw [List.length_map, l2] at l1
              omega)]
            exact eb1
          · obtain ⟨a, b, c', e, rest⟩ := d1
            exact ⟨a, b, c', (upd_ne nef.symm).trans e, by rw [show n + 10 * (i + 1) = n + 10 * i + 10 by omega]; exact rest⟩
          · intro b o hb e
            by_cases hbl : b = lf
            · rw [hbl, nlf0] at e
              cases e
            · rw [upd_ne hbl]
              exact sb1 b o hb (hsb b o hb e)
    · intro σ Hc hP
      obtain ⟨zs, y5, y6, rfl, hzl, hg, ef, eb, hdk, hsb⟩ := hP
      rw [hmN] at hzl hdk
      exact ⟨.ref lf, rfl, q lf zs Hc hzl hg nlf0 ef hsb hdk⟩
end
end My
namespace My
open PySem PySem.Spec PyProof.Rows L2
abbrev sWorld : Stmt := tp 22
theorem scWorld : FnScope ["_law_deck_here", "_law_great", "_law_rows", "_law_places", "_law_numbers", "_law_names_here", "_law_some", "_law_one"] ["_law_deck_here"] (defScope sWorld) :=
  ⟨rfl, rfl, rfl, by decide +kernel, rfl, by decide +kernel, by decide +kernel⟩
theorem cutV_nat (zs : List Str) {i j : Nat} (hi : i ≤ j) (hj : j ≤ zs.length) : cutV (zs.map V.str) (some (i : Int)) (some (j : Int)) = ((zs.drop i).take (j - i)).map V.str := by
  unfold cutV
  have h1 : HT.sIx (zs.map V.str).length 0 (some (i : Int)) = i := by
    rw [HT.sIx_nat, List.length_map]
    omega
  have h2 : HT.sIx (zs.map V.str).length (zs.map V.str).length (some (j : Int)) = j := by
    rw [HT.sIx_nat, List.length_map]
    omega
  rw [h1, h2, ← List.map_drop, ← List.map_take]
theorem cutV_to (zs : List Str) {j : Nat} (hj : j ≤ zs.length) : cutV (zs.map V.str) none (some (j : Int)) = (zs.take j).map V.str := by
  unfold cutV
  have h1 : HT.sIx (zs.map V.str).length 0 none = 0 := HT.sIx_none ..
  have h2 : HT.sIx (zs.map V.str).length (zs.map V.str).length (some (j : Int)) = j := by
    rw [HT.sIx_nat, List.length_map]
    omega
  rw [h1, h2, ← List.map_drop, ← List.map_take]
  rfl
theorem cutV_from (zs : List Str) {i : Nat} (hi : i ≤ zs.length) : cutV (zs.map V.str) (some (i : Int)) none = (zs.drop i).map V.str := by
  unfold cutV
  have h1 : HT.sIx (zs.map V.str).length 0 (some (i : Int)) = i := by
    rw [HT.sIx_nat, List.length_map]
    omega
  have h2 : HT.sIx (zs.map V.str).length (zs.map V.str).length none = zs.length := by
    rw [HT.sIx_none, List.length_map]
  rw [h1, h2, ← List.map_drop, ← List.map_take, List.take_of_length_le (by simp)]
theorem bt_tuple : bootBuiltins "tuple" = some (.type "tuple") := by decide +kernel
theorem bt_sorted : bootBuiltins "sorted" = some (.builtin "sorted") := by decide +kernel
def rTupOf (K : PySem.W.Frag) : List V → Hp → VK → Prop := fun xs H Q => ∃ p ys, xs = [.ref p] ∧
  ((SqL K H p ys ∧ ∀ l, H l = none → Q (.ref l) (upd H l (.tup ys))) ∨ (SqT K H p ys ∧ Q (.ref p) H))
theorem cr_tup {X : Cx} : CallR X (.type "tuple") (rTupOf X.K) := call_tuple_of
/-- a cast and spare names -/
structure World4 (R L U S : List Str) : Prop where
  good : Good (R ++ (L ++ (U ++ S)))
  r1 : 1 ≤ R.length
  r3 : R.length ≤ 3
  l4 : L.length ≤ 4
  u4 : U.length ≤ 4
  s2 : 2 ≤ S.length
  s4 : S.length ≤ 4
  rs : sortedS R = true
  ls : sortedS L = true
  us : sortedS U = true
theorem good_perm {a b : List Str} (h : Good a) (p : b.Perm a) : Good b := ⟨p.nodup_iff.mpr h.1, fun z hz => h.2 z (p.mem_iff.mp hz)⟩
/-- a cast in the heap -/
def CastAt (H : Hp) (c : Addr) (R L U : List Str) : Prop := ∃ r l u : Addr, H c = some (.tup [.ref r, .ref l, .ref u]) ∧
  H r = some (.tup (R.map V.str)) ∧ H l = some (.tup (L.map V.str)) ∧ H u = some (.tup (U.map V.str))
section
variable {P : Program} {w : World} {K : PySem.W.Frag} {mg : Str → Option Value} {base : Heap}
def spWorld : Sp := fun vs H Q _ => ∃ (d : Addr) (n : Nat), vs = [.ref d] ∧ Deck H d n ∧ n ≤ 100000 ∧
  ∀ p c s R L U S H', World4 R L U S → H' p = some (.tup [.ref c, .ref s]) → CastAt H' c R L U → H' s = some (.tup (S.map V.str)) →
    SameBut d H H' → Deck H' d (n + 200) → Q (.ref p) H'
theorem ok_world {f fD fN : Addr} {fd fdD fdN : FuncData} {k : Nat} (F : Fun K "_law_world" "_law_world" sWorld f fd)
    (FD : Fun K "_law_draw" "_law_draw" sDraw fD fdD) (bD : Binds K fdD ["_law_deck_here", "_law_most"] []) (gD : mg "_law_draw" = some (.ref fD))
    (GN : FnOk P w K mg base CX0 (k + 3) fN fdN ["_law_deck_here", "_law_many"] spNames) (kN : PySem.W.keepIn K (.ref fN) = true) (bN : Binds K fdN ["_law_deck_here", "_law_many"] []) (gN : mg "_law_names" = some (.ref fN))
    (mi : mg "int" = none) (mt : mg "tuple" = none) (ms : mg "sorted" = none) :
    FnOk P w K mg base CX0 (k + 4) f fd ["_law_deck_here"] spWorld := by
  have GD : FnOk P w K mg base CX0 1 fD fdD ["_law_deck_here", "_law_most"] spDraw := ok_draw FD
  refine F.ok scWorld (fun vs H Q E h => ?_) (fun cdv A outer s H vs Q E hr h => ?_)
  · obtain ⟨d, n, rfl, _⟩ := h
    rfl
  · obtain ⟨d, n, rfl, hd, hn, q⟩ := h
    have hr1 : Room 1 _ := hr.mono (by omega)
    refine ⟨_, pss_cons (ps_set (i := 1) scWorld.nd rfl (.inl rfl) (pe_callTy call_int1 (by rfl) mi (by decide +kernel) (pa_cons
          (pe_cmpR op_eq (pe_call GD hr1 (by rfl) gD FD.kp bD .nil pass0 (pa_cons (pv 0) (pa_cons pe_int pa_nil))) pe_int (nomark _)) pa_nil)))
      (pss_cons (ps_set (i := 2) scWorld.nd rfl (.inl rfl) (pe_op op_add (pe_ix ix_list (pe_lst (pa_cons pe_int (pa_cons pe_int (pa_cons pe_int (pa_cons pe_int pa_nil)))))
          (pe_call GD hr1 (by rfl) gD FD.kp bD .nil pass0 (pa_cons (pv 0) (pa_cons pe_int pa_nil))) (fun _ _ => rfl)) (pv 1)))
      (pss_cons (ps_set (i := 3) scWorld.nd rfl (.inl rfl) (pe_op op_add (pe_ix ix_list (pe_lst (pa_cons pe_int (pa_cons pe_int (pa_cons pe_int (pa_cons pe_int pa_nil)))))
          (pe_call GD hr1 (by rfl) gD FD.kp bD .nil pass0 (pa_cons (pv 0) (pa_cons pe_int pa_nil))) (fun _ _ => rfl)) (pe_op op_mul pe_int (pv 1))))
      (pss_cons (ps_set (i := 4) scWorld.nd rfl (.inl rfl) (pe_op op_add (pe_ix ix_list (pe_lst (pa_cons pe_int (pa_cons pe_int (pa_cons pe_int (pa_cons pe_int pa_nil)))))
          (pe_call GD hr1 (by rfl) gD FD.kp bD .nil pass0 (pa_cons (pv 0) (pa_cons pe_int pa_nil))) (fun _ _ => rfl)) (pe_op op_mul pe_int (pv 1))))
      (pss_cons (ps_set (i := 5) scWorld.nd rfl (.inl rfl) (pe_call GN hr (by rfl) gN kN bN .nil pass0 (pa_cons (pv 0) (pa_cons
          (pe_op op_add (pe_op op_add (pe_op op_add (pe_op op_add (pv 2) (pv 3)) (pv 4)) pe_int) (pe_op op_mul pe_int (pv 1))) pa_nil))))
      (pss_cons (ps_set (i := 6) scWorld.nd rfl (.inl rfl) (pe_lst (pa_cons (pe_slice sl_list (pv 5) po_none (po_some (pv 2)))
          (pa_cons (pe_slice sl_list (pv 5) (po_some (pv 2)) (po_some (pe_op op_add (pv 2) (pv 3))))
          (pa_cons (pe_slice sl_list (pv 5) (po_some (pe_op op_add (pv 2) (pv 3))) (po_some (pe_op op_add (pe_op op_add (pv 2) (pv 3)) (pv 4)))) pa_nil)))))
      (pss_one (ps_ret (pe_tup (pa_cons (pe_callTy call_tuple_of (by rfl) mt (by decide +kernel) (pa_cons
          (pe_lc (own := [("_law_one", 7)]) (g := gName 7) (by rfl) scWorld.nd (pi_list (pv 6))
            (blkOk_by (own := [("_law_one", 7)]) (N := ["_law_deck_here", "_law_great", "_law_rows", "_law_places", "_law_numbers", "_law_names_here", "_law_some", "_law_one"]) (sc := defScope sWorld) (by decide +kernel))
            (fun _ _ _ _ _ => pg_name (i := 7) scWorld.nd rfl (Or.inl rfl)) (fun _ _ _ _ _ => pts_nil)
            (fun _ _ _ _ _ => pe_callTy (T := "tuple") (r := rTupOf K) cr_tup (by rfl) mt bt_tuple (pa_cons (pe_callB (id := "sorted") (r := rSortedS K) cr_sortedS (by rfl) ms bt_sorted (pa_cons (pv 7) pa_nil)) pa_nil))) pa_nil))
          (pa_cons (pe_callTy call_tuple_of (by rfl) mt (by decide +kernel) (pa_cons (pe_slice sl_list (pv 5) (po_some (pe_op op_add (pe_op op_add (pv 2) (pv 3)) (pv 4))) po_none) pa_nil)) pa_nil)))))))))), ?_⟩
    -- great
    refine ⟨.ref d, rfl, d, 8, n, rfl, by decide, by decide, by omega, hd, fun r H1 r0 r1 b1 d1 => ?_⟩
    refine ⟨rfl, .inr ⟨_, rfl, ?_⟩⟩
    obtain ⟨g, hg01, hgv⟩ : ∃ g : Nat, g ≤ 1 ∧ (if decide (V.int r = V.int 5) = true then (1 : Int) else 0) = (g : Int) := by
      by_cases e : decide (V.int r = V.int 5) = true
      · exact ⟨1, by omega, by rw [if_pos e]; rfl⟩
      · exact ⟨0, by omega, by rw [if_neg e]; rfl⟩
    rw [hgv]
    -- rows
    refine ⟨(show 4 ≤ sizeLine by decide), fun l2 n2 => ?_⟩
    refine ⟨.ref d, rfl, d, 4, n + 1, rfl, by decide, by decide, by omega, d1.lay n2, fun r2 H2 r20 r21 b2 d2 => ?_⟩
    have e2 := (b2 l2 (d1.ne n2).symm).trans upd_same
    obtain ⟨v2, hv2, hm2⟩ := at_list [V.int 1, .int 1, .int 1, .int 2] r20 r21
    obtain ⟨a0, rfl, ha1, ha2⟩ : ∃ a : Nat, v2 = .int (a : Int) ∧ 1 ≤ a ∧ a ≤ 2 := by
      simp only [List.mem_cons, List.not_mem_nil, or_false] at hm2
      rcases hm2 with rfl | rfl | rfl | rfl
      · exact ⟨1, rfl, by omega, by omega⟩
      · exact ⟨1, rfl, by omega, by omega⟩
      · exact ⟨1, rfl, by omega, by omega⟩
      · exact ⟨2, rfl, by omega, by omega⟩
    refine ⟨l2, _, r2, .int (a0 : Int), rfl, rfl, SqL.of e2, hv2, .int (g : Int), rfl, _, _, rfl, rfl, ?_⟩
    -- places
    refine ⟨(show 4 ≤ sizeLine by decide), fun l3 n3 => ?_⟩
    refine ⟨.ref d, rfl, d, 4, n + 1 + 1, rfl, by decide, by decide, by omega, d2.lay n3, fun r3 H3 r30 r31 b3 d3 => ?_⟩
    have e3 := (b3 l3 (d2.ne n3).symm).trans upd_same
    obtain ⟨v3, hv3, hm3⟩ := at_list [V.int 0, .int 1, .int 2, .int 1] r30 r31
    obtain ⟨p0, rfl, hp2⟩ : ∃ a : Nat, v3 = .int (a : Int) ∧ a ≤ 2 := by
      simp only [List.mem_cons, List.not_mem_nil, or_false] at hm3
      rcases hm3 with rfl | rfl | rfl | rfl
      · exact ⟨0, rfl, by omega⟩
      · exact ⟨1, rfl, by omega⟩
      · exact ⟨2, rfl, by omega⟩
      · exact ⟨1, rfl, by omega⟩
    refine ⟨l3, _, r3, .int (p0 : Int), rfl, rfl, SqL.of e3, hv3, .int (g : Int), rfl, _, _, rfl, rfl, .inl ⟨by decide, by decide⟩, _, _, rfl, rfl, ?_⟩
    -- numbers
    refine ⟨(show 4 ≤ sizeLine by decide), fun l4 n4 => ?_⟩
    refine ⟨.ref d, rfl, d, 4, n + 1 + 1 + 1, rfl, by decide, by decide, by omega, d3.lay n4, fun r4 H4 r40 r41 b4 d4 => ?_⟩
    have e4 := (b4 l4 (d3.ne n4).symm).trans upd_same
    obtain ⟨v4, hv4, hm4⟩ := at_list [V.int 0, .int 1, .int 2, .int 0] r40 r41
    obtain ⟨u0, rfl, hu2⟩ : ∃ a : Nat, v4 = .int (a : Int) ∧ a ≤ 2 := by
      simp only [List.mem_cons, List.not_mem_nil, or_false] at hm4
      rcases hm4 with rfl | rfl | rfl | rfl
      · exact ⟨0, rfl, by omega⟩
      · exact ⟨1, rfl, by omega⟩
      · exact ⟨2, rfl, by omega⟩
      · exact ⟨0, rfl, by omega⟩
    refine ⟨l4, _, r4, .int (u0 : Int), rfl, rfl, SqL.of e4, hv4, .int (g : Int), rfl, _, _, rfl, rfl, .inl ⟨by decide, by decide⟩, _, _, rfl, rfl, ?_⟩
    have sb4 : SameBut d H H4 := b1.sb.trans ((same_sb (same_new n2)).trans (b2.sb.trans ((same_sb (same_new n3)).trans (b3.sb.trans ((same_sb (same_new n4)).trans b4.sb)))))
    obtain ⟨a, ea⟩ : ∃ a : Nat, a = a0 + g := ⟨_, rfl⟩
    obtain ⟨b, eb⟩ : ∃ b : Nat, b = p0 + 2 * g := ⟨_, rfl⟩
    obtain ⟨c, ec⟩ : ∃ c : Nat, c = u0 + 2 * g := ⟨_, rfl⟩
    obtain ⟨m, em⟩ : ∃ m : Nat, m = a + b + c + 2 + 2 * g := ⟨_, rfl⟩
    have ia : ((a0 : Int) + (g : Int)) = (a : Int) := by omega
    have ib : ((p0 : Int) + 2 * (g : Int)) = (b : Int) := by omega
    have ic : ((u0 : Int) + 2 * (g : Int)) = (c : Int) := by omega
    have im : ((a : Int) + (b : Int) + (c : Int) + 2 + 2 * (g : Int)) = (m : Int) := by omega
    dsimp only
    rw [ia, ib, ic]
    -- names
    refine ⟨.ref d, rfl, .int (a : Int), rfl, .int (b : Int), rfl, _, _, rfl, rfl, .int (c : Int), rfl, _, _, rfl, rfl, _, _, rfl, rfl, .int (g : Int), rfl, _, _, rfl, rfl, .inl ⟨by decide, by decide⟩, _, _, rfl, rfl, ?_⟩
    dsimp only
    rw [im]
    refine ⟨d, m, n + 1 + 1 + 1 + 1, rfl, d4, by omega, by omega, fun pn zs H5 hzl hg np en sb5 d5 => ?_⟩
    have iab : ((a : Int) + (b : Int)) = ((a + b : Nat) : Int) := by omega
    have iabc : (((a + b : Nat) : Int) + (c : Int)) = ((a + b + c : Nat) : Int) := by omega
    -- some
    refine ⟨.ref pn, rfl, .int (a : Int), rfl, (a : Int), rfl, pn, _, rfl, SqL.of en, fun q1 nq1 => ?_⟩
    rw [cutV_to zs (j := a) (by omega)]
    have s1 := same_new (o := .lst ((zs.take a).map V.str)) nq1
    refine ⟨.ref pn, rfl, .int (a : Int), rfl, (a : Int), rfl, .int (a : Int), rfl, .int (b : Int), rfl, _, _, rfl, rfl, ((a : Int) + (b : Int)), rfl, pn, _, rfl, SqL.of (s1 _ _ en), fun q2 nq2 => ?_⟩
    rw [iab, cutV_nat zs (i := a) (j := a + b) (by omega) (by omega)]
    have s2 := same_new (o := .lst (((zs.drop a).take (a + b - a)).map V.str)) nq2
    refine ⟨.ref pn, rfl, .int (a : Int), rfl, .int (b : Int), rfl, _, _, rfl, rfl, ((a : Int) + (b : Int)), rfl, .int (a : Int), rfl, .int (b : Int), rfl, _, _, rfl, rfl, .int (c : Int), rfl, _, _, rfl, rfl, ((a : Int) + (b : Int) + (c : Int)), rfl, pn, _, rfl, SqL.of (s2 _ _ (s1 _ _ en)), fun q3 nq3 => ?_⟩
    rw [iab, iabc, cutV_nat zs (i := a + b) (j := a + b + c) (by omega) (by omega)]
    have s3 := same_new (o := .lst (((zs.drop (a + b)).take (a + b + c - (a + b))).map V.str)) nq3
    refine ⟨(show 3 ≤ sizeLine by decide), fun q4 nq4 => ?_⟩
    have s4 := same_new (o := .lst [.ref q1, .ref q2, .ref q3]) nq4
    have ex1 := (s2.trans (s3.trans s4)) q1 _ upd_same
    have ex2 := (s3.trans s4) q2 _ upd_same
    have ex3 := s4 q3 _ upd_same
    have ex4 : upd (upd (upd (upd H5 q1 (.lst ((zs.take a).map V.str))) q2 (.lst (((zs.drop a).take (a + b - a)).map V.str))) q3 (.lst (((zs.drop (a + b)).take (a + b + c - (a + b))).map V.str))) q4 (.lst [V.ref q1, .ref q2, .ref q3]) q4 = some (.lst [V.ref q1, .ref q2, .ref q3]) := upd_same
    have sall := s1.trans (s2.trans (s3.trans s4))
    have en6 := sall _ _ en
    have d6 := d5.mono sall
    have sb6 := (sb4.trans sb5).trans (same_sb sall)
    generalize upd (upd (upd (upd H5 q1 (.lst ((zs.take a).map V.str))) q2 (.lst (((zs.drop a).take (a + b - a)).map V.str))) q3 (.lst (((zs.drop (a + b)).take (a + b + c - (a + b))).map V.str))) q4 (.lst [V.ref q1, .ref q2, .ref q3]) = H6 at *
    -- the comprehension
    refine ⟨.ref q4, rfl, q4, rfl, ⟨_, SqL.of ex4⟩, fun D nD => ?_⟩
    refine lc_list (K := K) (a := q4) (xs := [V.ref q1, .ref q2, .ref q3]) (fun i Hc => ∃ os : List (Addr × List Str), os.length = i ∧ Hc D = some (.lst (os.map fun o => V.ref o.1)) ∧
      (∀ (j : Nat) o z, os[j]? = some o → [zs.take a, (zs.drop a).take (a + b - a), (zs.drop (a + b)).take (a + b + c - (a + b))][j]? = some z → o.2.Perm z ∧ sortedS o.2 = true ∧ Hc o.1 = some (.tup (o.2.map V.str))) ∧ Same H6 Hc) ?_ ?_ ?_ ?_
    · exact ⟨[], rfl, upd_same, fun j o z h => (by simp at h), same_new nD⟩
    · intro i Hc _ hP
      obtain ⟨os, _, _, _, sm⟩ := hP
      exact SqL.of (sm _ _ ex4)
    · intro i x Hc hx hP
      obtain ⟨os, ol, eD, ok, sm⟩ := hP
      have hi3 : i < 3 := (List.getElem?_eq_some_iff.mp hx).1
      obtain ⟨y, z, rfl, hz, hey, hlen⟩ : ∃ (y : Addr) (z : List Str), x = .ref y ∧ [zs.take a, (zs.drop a).take (a + b - a), (zs.drop (a + b)).take (a + b + c - (a + b))][i]? = some z ∧ H6 y = some (.lst (z.map V.str)) ∧ z.length < 64 := by
        have hl : ∀ z ∈ [zs.take a, (zs.drop a).take (a + b - a), (zs.drop (a + b)).take (a + b + c - (a + b))], z.length < 64 := by
          intro z hz
          simp only [List.mem_cons, List.not_mem_nil, or_false] at hz
          rcases hz with rfl | rfl | rfl <;> simp only [List.length_take, List.length_drop] <;> omega
        rcases i with _ | _ | _ | i
        · cases hx
          exact ⟨q1, _, rfl, rfl, ex1, hl _ (by simp)⟩
        · cases hx
          exact ⟨q2, _, rfl, rfl, ex2, hl _ (by simp)⟩
        · cases hx
          exact ⟨q3, _, rfl, rfl, ex3, hl _ (by simp)⟩
        · omega
      refine ⟨rfl, ?_⟩
      refine ⟨.ref y, rfl, y, z, rfl, SqL.of (sm _ _ hey), hlen, fun ys p hperm hsort np => ?_⟩
      refine ⟨p, _, rfl, .inl ⟨SqL.of upd_same, fun l nl => ?_⟩⟩
      have sN := (same_new (o := .lst (ys.map V.str)) np).trans (same_new (o := .tup (ys.map V.str)) nl)
      refine ⟨_, sN _ _ eD, small1000 (by rw [List.length_map]; omega), os ++ [(l, ys)], by simp [ol], ?_, fun j o z' h1 h2 => ?_, fun bb oo ee => ?_⟩
      · rw [upd_same, List.map_append]
        rfl
      · have nlD : ∀ q : Addr, q = l → q ≠ D := fun q e z => by
          have := sN _ _ eD
          have e3 := (same_new (o := .lst (ys.map V.str)) np) _ _ eD
          rw [← z, e] at e3
          rw [nl] at e3
          cases e3
        by_cases hj : j < os.length
        · rw [List.getElem?_append_left hj] at h1
          obtain ⟨k1, k2, k3⟩ := ok j o z' h1 h2
          refine ⟨k1, k2, ?_⟩
          rw [upd_ne (fun e => by
            rw [e, eD] at k3
            cases k3)]
          exact sN _ _ k3
        · have hj' : j = os.length := by
            have := (List.getElem?_eq_some_iff.mp h1).1
            simp at this
            omega
          subst hj'
          rw [List.getElem?_append_right (Nat.le_refl _), Nat.sub_self] at h1
          cases h1
          rw [ol, hz] at h2
          cases h2
          refine ⟨hperm, hsort, ?_⟩
          rw [upd_ne (nlD l rfl)]
          exact upd_same
      · rw [upd_ne (ne_of_none ee nD)]
        exact sN _ _ (sm _ _ ee)
    · intro Hc hP
      obtain ⟨os, ol, eD, ok, sm⟩ := hP
      obtain ⟨o1, o2, o3, rfl⟩ : ∃ o1 o2 o3, os = [o1, o2, o3] := by
        match os, ol with
        | [o1, o2, o3], _ => exact ⟨o1, o2, o3, rfl⟩
      obtain ⟨k11, k12, k13⟩ := ok 0 o1 _ rfl rfl
      obtain ⟨k21, k22, k23⟩ := ok 1 o2 _ rfl rfl
      obtain ⟨k31, k32, k33⟩ := ok 2 o3 _ rfl rfl
      refine ⟨D, _, rfl, .inl ⟨SqL.of eD, fun cc ncc => ?_⟩⟩
      have sc := same_new (o := .tup [.ref o1.1, .ref o2.1, .ref o3.1]) ncc
      refine ⟨.ref pn, rfl, .int (a : Int), rfl, .int (b : Int), rfl, _, _, rfl, rfl, .int (c : Int), rfl, _, _, rfl, rfl, ((a : Int) + (b : Int) + (c : Int)), rfl, pn, _, rfl, SqL.of (sc _ _ (sm _ _ en6)), fun q7 nq7 => ?_⟩
      rw [iab, iabc, cutV_from zs (i := a + b + c) (by omega)]
      have s7 := same_new (o := .lst ((zs.drop (a + b + c)).map V.str)) nq7
      refine ⟨q7, _, rfl, .inl ⟨SqL.of upd_same, fun q8 nq8 => ?_⟩⟩
      have s8 := same_new (o := .tup ((zs.drop (a + b + c)).map V.str)) nq8
      refine ⟨(show 2 ≤ sizeLine by decide), fun q9 nq9 => ?_⟩
      have s9 := same_new (o := .tup [.ref cc, .ref q8]) nq9
      have e789 := s7.trans (s8.trans s9)
      refine q q9 cc q8 o1.2 o2.2 o3.2 (zs.drop (a + b + c)) _ ?_ upd_same ⟨o1.1, o2.1, o3.1, e789 _ _ upd_same, e789 _ _ (sc _ _ k13), e789 _ _ (sc _ _ k23), e789 _ _ (sc _ _ k33)⟩ (s9 _ _ upd_same)
        (sb6.trans (same_sb (sm.trans (sc.trans e789)))) ((d6.mono (sm.trans (sc.trans e789))).more (by omega))
      have e1 := k11.length_eq
      have e2 := k21.length_eq
      have e3 := k31.length_eq
      simp only [List.length_take, List.length_drop] at e1 e2 e3
      have ez : zs.take a ++ ((zs.drop a).take (a + b - a) ++ ((zs.drop (a + b)).take (a + b + c - (a + b)) ++ zs.drop (a + b + c))) = zs := by
        have t3 : (zs.drop (a + b)).take (a + b + c - (a + b)) ++ zs.drop (a + b + c) = zs.drop (a + b) := by
          rw [show zs.drop (a + b + c) = (zs.drop (a + b)).drop (a + b + c - (a + b)) by rw [List.drop_drop]; congr 1; omega, List.take_append_drop]
        have t2 : (zs.drop a).take (a + b - a) ++ zs.drop (a + b) = zs.drop a := by
          rw [show zs.drop (a + b) = (zs.drop a).drop (a + b - a) by rw [List.drop_drop]; congr 1; omega, List.take_append_drop]
        rw [t3, t2, List.take_append_drop]
      have pz := k11.append (k21.append (k31.append (List.Perm.refl (zs.drop (a + b + c)))))
      rw [ez] at pz
      refine ⟨good_perm hg pz, by omega, by omega, by omega, by omega, ?_, ?_, k12, k22, k32⟩
      · rw [List.length_drop]
        omega
      · rw [List.length_drop]
        omega
end
end My
set_option maxHeartbeats 2000000
namespace GX
open PySem PySem.Spec PyProof.Rows L2
/-- the context of a generator expression's frame -/
abbrev gcx (X : Cx) (s : Shared) (H : Hp) (ce : Env) (fp : List Addr) (A : Around) : Cx :=
  { X with s_0 := s, H_0 := H, env := ce, A := A, outer := X.stack, stack := ce :: X.stack,
           ex := fp, fn := fun _ => false, calm := true, pn := [], xe := fun _ _ => False }
abbrev genv (X : Cx) (scope : Scope) (C : Addr) (code : Value) : Env :=
  genEnv scope (cloFrom X.env.cells scope.names []) C code builtinsNs X.env
section
variable {X : Cx} {pins : List (Addr × Obj)} {σ : L2.St} {H : Hp} {s : Shared}
theorem gen_start {scope : Scope} {own : List (Str × Nat)} {fp : List Addr} {code : Value} {A : Around}
    {h' : Heap} {gs : GenState} {tk : Nat} {m0 : Str → Option Value}
    (I : Inv X pins σ H s) (ok : BlkOk X.N X.env.scope scope own) (nc : ∀ y ∈ scope.names, y.2 ≠ .cell) (hN : X.N.Nodup)
    (hfp : ∀ b ∈ fp, FpOk X pins H b ∧ b < s.heap.objs.size) (hA : A.frames = some X.stack) (hh : A.handled = none)
    (kp : ∀ b o, s.heap.get? b = some o → h'.get? b = some o) (hns : h'.Ns s.heap.objs.size m0) (hb : gs.bare = true) :
    Inv (gcx X s H (genv X scope s.heap.objs.size code) fp (A.deeper (genv X scope s.heap.objs.size code))) []
      (wipe σ (own.map (·.2))) H { s with gens := s.gens.push gs, toks := tk, heap := h' } := by
  have hfr : ∀ y ∈ scope.names, y.2 = .free → ∃ c, X.env.cells.lookup y.1 = some c := fun y hy e => by
    rcases ok.free y hy e with k | k
    · exact I.ok.has _ (.inl k)
    · exact I.ok.has _ (.inr k)
  have cm : ∀ {y c}, (cloFrom X.env.cells scope.names []).lookup y = some c →
      X.env.cells.lookup y = some c ∧ c < s.heap.objs.size := fun {y c} e => by
    rcases cloFrom_mem (PySem.mem_of_lookup e) with hm | ⟨h1, rfl⟩
    · cases hm
    · obtain ⟨c, hc⟩ := hfr _ h1 rfl
      rw [hc]
      obtain ⟨_, z⟩ := I.cell _ _ hc
      exact ⟨rfl, z.lt⟩
  have look : ∀ {y}, scope.names.lookup y = some .free →
      ∃ c, (cloFrom X.env.cells scope.names []).lookup y = some c ∧ X.env.cells.lookup y = some c := fun {y} hl => by
    obtain ⟨c', e'⟩ := mem_lookup (cloFrom_has (cells := X.env.cells) (acc := []) (PySem.mem_of_lookup hl))
    exact ⟨c', e', (cm e').1⟩
  have okG : (gcx X s H (genv X scope s.heap.objs.size code) fp (A.deeper (genv X scope s.heap.objs.size code))).Ok := by
    refine ⟨I.ok.mod, ok.kind, I.ok.glob, rfl, Nat.le_refl _, fun y z c e1 e2 => I.ok.inj y z c (cm e1).1 (cm e2).1,
      fun y hy => ?_, fun y c z => (by cases z), fun _ => hh, Around.frames_deeper hA, .inr ⟨rfl, rfl⟩,
      fun b hb => ⟨Nat.ne_of_lt (hfp b hb).2, fun y c e z => (hfp b hb).1.2.2.2.2.1 y c (cm e).1 z⟩, I.bs,
      Nat.le_trans I.ok.bsz I.sz, fun b o e hb => ?_, fun b hb z => ?_, I.stack, I.stkFree⟩
    · have key : ∀ k, scope.names.lookup y = some k → (k = .cell ∨ k = .free) →
          ∃ c, (cloFrom X.env.cells scope.names []).lookup y = some c := fun k hk hk' => by
        rcases hk' with rfl | rfl
        · exact absurd rfl (nc _ (PySem.mem_of_lookup hk))
        · obtain ⟨c, h1, _⟩ := look hk
          exact ⟨c, h1⟩
      rcases hy with hy | hy
      · exact key _ hy (.inl rfl)
      · exact key _ hy (.inr rfl)
    · rcases (hfp b hb).1.2.2.2.1 with z | z
      · exact I.ok.noex b o e z
      · exact absurd (Nat.lt_of_lt_of_le (Heap.lt_size e) (Nat.le_trans I.ok.bsz z)) (Nat.lt_irrefl _)
    · rcases List.mem_cons.mp (I.stkSub b z) with z | z
      · exact (hfp b hb).1.2.1 z
      · exact (hfp b hb).1.2.2.1 z
  refine ⟨okG, rfl, I.bare.push hb, Un.kept kp, ⟨m0, hns, fun i y av e1 e2 e3 => ?_⟩, fun y c e => ?_,
    I.hok.fresh (Nat.le_refl _), fun y c e => I.freeC y c (cm e).1, fun p hp => absurd (show p ∈ ([] : List (Addr × Obj)) ++ [] from hp) (by simp),
    I.hok.kept kp, by rw [wipe_length]; exact I.len⟩
  · obtain ⟨e2, hne⟩ := wipe_some e2
    have hfr2 : scope.names.lookup y = some .free := by
      have key : ∀ k, scope.names.lookup y = some k → k = .local ∨ k = .cell ∨ k = .free → scope.names.lookup y = some .free := fun k hk hk' => by
        have no : ¬ (k = .local ∨ k = .cell) := fun hx => by
          rcases ok.own _ (PySem.mem_of_lookup hk) hx with e' | e'
          · obtain ⟨p, hp, hpy⟩ := List.mem_map.mp e'
            have q := ok.ix p hp
            have : p.1 = y := hpy
            rw [this] at q
            exact hne (List.mem_map.mpr ⟨p, hp, nodup_ix hN q e1⟩)
          · exact e' (List.mem_of_getElem? e1)
        rcases hk' with rfl | rfl | rfl
        · exact absurd (.inl rfl) no
        · exact absurd (.inr rfl) no
        · exact hk
      rcases e3 with e3 | e3 | e3
      · exact key _ e3 (.inl rfl)
      · exact key _ e3 (.inr (.inl rfl))
      · exact key _ e3 (.inr (.inr rfl))
    obtain ⟨m, _, hl⟩ := I.loc
    have hvis : Vis X.env.scope y := (ok.free _ (PySem.mem_of_lookup hfr2) rfl).elim (fun k => .inr (.inl k)) (fun k => .inr (.inr k))
    obtain ⟨u, r, q⟩ := hl i y av e1 e2 hvis
    refine ⟨u, r, .inr ⟨.inr hfr2, ?_⟩⟩
    obtain ⟨c, h1, h2⟩ := look hfr2
    rcases q with ⟨k, _⟩ | ⟨_, c', e', z⟩
    · have k : X.env.scope.names.lookup y = some .local := k
      rcases ok.free _ (PySem.mem_of_lookup hfr2) rfl with k' | k' <;> rw [show X.env.scope.names.lookup y = _ from k'] at k <;> cases k
    · rw [h2] at e'
      cases e'
      exact ⟨c, h1, z.keeps kp⟩
  · obtain ⟨u, z⟩ := I.cell y c (cm e).1
    exact ⟨u, z.keeps kp⟩
end
end GX
set_option maxHeartbeats 2000000
namespace GX
open PySem PySem.Spec PyProof.Rows L2
theorem over_gen {A : Around} {elt tg iter : Expr} {scope : Scope} {pos : Pos} {it : Value} {ce : Env} :
    A.over (.compLoop (.GeneratorExp elt [⟨tg, iter, [], 0⟩] scope pos) 0 it .none ce) [] = A.deeper ce := by
  first
    | rfl
    | (obtain ⟨a1, a2, a3, a4, a5⟩ := A
       simp [Around.over, Around.deeper, marksOver, frameCount, unitsOf, envsOf, guardsOf, pushEnvs, pushGuards, Code.envs, Code.env?,
         Code.isFrame, Code.guards, Code.isGuard, Code.weight, Code.frames, Code.isCreation, Code.isCaller, Code.cUnits])
/-- nothing but generators and tokens has changed -/
def Rest (s s' : Shared) : Prop := s'.heap = s.heap ∧ s'.os = s.os ∧ AllBare s'.gens
structure At (Y : Cx) (pin : Addr × Obj) (σ : L2.St) (fp : List Addr) (tn : Nat → Heap → Prop) (i : Nat) (H : Hp) (s : Shared) : Prop where
  inv : Inv Y [pin] σ H s
  st : tn i s.heap
  fr : ∀ b ∈ fp, H b = none
theorem inv_rest {Y : Cx} {pl : List (Addr × Obj)} {σ : L2.St} {H : Hp} {s s' : Shared} (I : Inv Y pl σ H s) (r : Rest s s') : Inv Y pl σ H s' :=
  I.call' (ch := []) r.2.1 (Un.kept fun b o e => by rw [r.1]; exact e) (by rw [r.1]; exact I.hok) r.2.2 fun b hb => (by cases hb)
theorem At.rest {Y : Cx} {pin : Addr × Obj} {σ : L2.St} {fp : List Addr} {tn : Nat → Heap → Prop} {i : Nat} {H : Hp} {s s' : Shared}
    (h : At Y pin σ fp tn i H s) (r : Rest s s') : At Y pin σ fp tn i H s' :=
  ⟨inv_rest h.inv r, by rw [r.1]; exact h.st, h.fr⟩
section
variable (Y : Cx) (pin : Addr × Obj) (σ : L2.St) (fp : List Addr) (tn : Nat → Heap → Prop) (N : Nat) (K : Nat → V → Hp → Prop) (W : Nat → Hp → Prop)
/-- an item is handed out -/
def YG : Protocol := fun n _ v s kap => ∃ i H y, (i < N ∧ i + n = N) ∧ RelV y v ∧ At Y pin σ fp tn (i + 1) H s ∧ K i y H ∧
  (W (i + 1) H → ∀ s', Rest s s' → kap (.send .none) s')
/-- it is over -/
def PGe (_ : Nat) (_ s : Shared) : Prop := ∃ H, Inv Y [pin] σ H s ∧ W N H
end
section
variable {Y : Cx} {pin : Addr × Obj} {σ : L2.St} {vs : List Nat} {fp : List Addr} {tn : Nat → Heap → Prop} {N : Nat} {K : Nat → V → Hp → Prop} {W : Nat → Hp → Prop}
  {J : It} {it : Addr} {elt tg iter : Expr} {scope : Scope} {pos : Pos} {A : Around} {g : TG} {te : TE}
/-- the turns of a generator expression -/
def Turns (σ : L2.St) (vs : List Nat) (g : TG) (te : TE) (J : It) (N : Nat) (K : Nat → V → Hp → Prop) (W : Nat → Hp → Prop) : Prop :=
  ∀ i H, i < N → W i H → J.go i H ∧ ∀ x H', J.yld i H x H' →
    g x (wipe σ vs) H' fun σ2 H2 => wipe σ2 vs = wipe σ vs ∧ te σ2 H2 (K i)
theorem seg_turns (T : Turn Y.prog Y.w Y.K tg J fp it tn) (hc : Y.calm = true) (hex : Y.ex = fp) (hpn : Y.pn = []) (hpin : pin.1 ∉ fp)
    (hA : A.deeper Y.env = Y.A) (hco : Y.env.scope.isCoroutine = false)
    (pg : PG Y tg g) (pe : PE Y elt te) (hxe : ∀ e s, Y.xe e s → False) (hstop : ∀ H, W N H → J.stop N H) (ht : Turns σ vs g te J N K W) :
    ∀ (k i : Nat) (s₀ s : Shared) (H : Hp), i + k = N → At Y pin (wipe σ vs) fp tn i H s → W i H →
      Seg (model Y.prog Y.w) A (fun n s₀ r s₁ => r = .ok .next ∧ PGe Y pin (wipe σ vs) N W n s₀ s₁) (YG Y pin (wipe σ vs) fp tn N K W) (k + 1) s₀
        (.compLoop (.GeneratorExp elt [⟨tg, iter, [], 0⟩] scope pos) 0 (.ref it) .none Y.env)
        ((model Y.prog Y.w).den (.compLoop (.GeneratorExp elt [⟨tg, iter, [], 0⟩] scope pos) 0 (.ref it) .none Y.env)) [] s := by
  have hov : A.over (.compLoop (.GeneratorExp elt [⟨tg, iter, [], 0⟩] scope pos) 0 (.ref it) .none Y.env) [] = Y.A := over_gen.trans hA
  have fok : ∀ {σ' : L2.St} {H' : Hp} {s' : Shared}, Inv Y [pin] σ' H' s' → (∀ b ∈ fp, H' b = none) → ∀ b ∈ fp, FpOk Y [pin] H' b := fun {σ' H' s'} I' hn b hb =>
    have hb' : b ∈ Y.ex := by rw [hex]; exact hb
    ⟨hn b hb, (I'.ok.exf b hb').1, I'.ok.exfs b hb', .inl hb', fun x c e => (I'.ok.exf b hb').2 x c e, fun p hp => by
      rw [hpn] at hp
      have e : p = pin := by simpa using hp
      rw [e]
      exact fun z => hpin (by rw [z]; exact hb)⟩
  intro n
  induction n with
  | zero =>
    intro i s₀ s H hi hat w
    have hN : i = N := by omega
    subst hN
    show Seg _ A _ _ _ s₀ _ ((compTurn (.GeneratorExp elt [⟨tg, iter, [], 0⟩] scope pos) 0 (.ref it) .none Y.env).onRaise (leaving Y.env)) [] s
    rw [compTurn_gen, Sem.onRaise_eq_wrap]
    refine seg_bind_wrap (wpAny_standAt ?_)
    refine seg_bind_wrap ?_
    rw [hov]
    refine wpAny_mono (T.done Y rfl rfl rfl hc i [pin] s _ H (fun _ _ => False) hat.inv (fok hat.inv hat.fr) hat.st (hstop H w)) (fun r s1 h => ?_) fun _ _ z => z.elim
    obtain ⟨rfl, I1⟩ := h
    exact seg_end (.ok .next) ⟨rfl, H, I1, w⟩
  | succ n ih =>
    intro i s₀ s H hi hat w
    obtain ⟨go, step⟩ := ht i H (by omega) w
    show Seg _ A _ _ _ s₀ _ ((compTurn (.GeneratorExp elt [⟨tg, iter, [], 0⟩] scope pos) 0 (.ref it) .none Y.env).onRaise (leaving Y.env)) [] s
    rw [compTurn_gen, Sem.onRaise_eq_wrap]
    refine seg_bind_wrap (wpAny_standAt ?_)
    refine seg_bind_wrap ?_
    rw [hov]
    refine wpAny_mono (T.item Y rfl rfl rfl hc i [pin] s _ H (fun _ _ => False) hat.inv (fok hat.inv hat.fr) hat.st go) (fun r s1 h => ?_) fun _ _ z => z.elim
    obtain ⟨u, rfl, h1⟩ := h
    refine seg_bind_wrap ?_
    rw [hov]
    refine wpAny_mono h1 (fun _ s2 h2 => ?_) fun _ _ z => z.elim
    obtain ⟨x, H2, I2, r2, y2, st2, n2⟩ := h2
    have I2' := I2.pinned (fok I2 n2) (T.obj _ _ st2)
    refine seg_bind_wrap ?_
    rw [hov]
    refine wpAny_mono (pg.run _ s2 _ H2 x u _ I2' r2 (step x H2 y2)) (fun _ s3 h3 => ?_) fun e s' z => (hxe e s' z).elim
    obtain ⟨σ3, H3, I3, hw3, q3⟩ := h3
    refine seg_bind_wrap (wpAny_tests_nil ?_)
    simp only [if_true]
    have hy : ∀ v, yieldOut Y.env v = yieldValue v := fun v => by simp only [yieldOut, hco, Bool.false_eq_true, if_false]
    simp only [hy]
    rw [Sem.bind_eq_wrap', Sem.bind_eq_wrap', Sem.wrap_wrap, Sem.wrap_wrap]
    refine seg_wrap ?_
    rw [hov]
    refine wpAny_mono (pe.run _ s3 σ3 H3 _ I3 q3) (fun v s4 h4 => ?_) fun e s' z => (hxe e s' z).elim
    obtain ⟨yv, H4, I4, r4, k4⟩ := h4
    have pin' : ∀ b ∈ fp, ∀ o, s2.heap.get? b = some o → s4.heap.get? b = some o ∧ H4 b = none := fun b hb o e =>
      let z := I4.pin (b, o) (List.mem_append_right _ (List.mem_append_right _ (mem_pinsAt hb e)))
      ⟨z.1, z.2.1⟩
    have hl : (wipe σ vs).length = σ3.length := by rw [← hw3, wipe_length]
    have at4 : At Y pin (wipe σ vs) fp tn (i + 1) H4 s4 := by
      refine ⟨(I4.unpinned (pins := [pin])).weak hl (fun j v e => ?_), T.keep _ _ _ st2 fun b hb o e => (pin' b hb o e).1, fun b hb => ?_⟩
      · rw [← hw3] at e
        exact (wipe_some e).1
      · obtain ⟨o, e, _⟩ := T.obj _ _ st2 b hb
        exact (pin' b hb o e).2
    refine seg_at (seg_yield rfl rfl rfl ⟨i, H4, yv, ⟨by omega, by omega⟩, r4, at4, k4, fun w4 s5 hr => ?_⟩)
    exact seg_again rfl (ih (i + 1) s5 s5 H4 (by omega) (at4.rest hr) w4)
end
end GX
set_option maxHeartbeats 2000000
namespace GX
open PySem PySem.Spec PyProof.Rows L2
theorem bare_set {s : Shared} {g : Nat} {x : GenState} (h : AllBare s.gens) (hx : x.bare = true) : AllBare (s.setGen g x).gens := by
  intro y hy
  obtain ⟨k, hk⟩ := Array.getElem?_of_mem hy
  by_cases e : k = g
  · subst e
    by_cases hl : k < s.gens.size
    · have : (s.setGen k x).gens[k]? = some x := by simp [Shared.setGen, hl]
      rw [this] at hk
      cases hk
      exact hx
    · have hs : (s.setGen k x).gens.size = s.gens.size := GenW.setGen_size s k x
      rw [Array.getElem?_eq_none (by omega)] at hk
      cases hk
  · have : (s.setGen g x).gens[k]? = s.gens[k]? := (GenOnly.setGen s g x).2 k e
    rw [this] at hk
    exact h y (Array.mem_of_getElem? hk)
theorem rest_set {s : Shared} {g : Nat} {x : GenState} (h : AllBare s.gens) (hx : x.bare = true) : Rest s (s.setGen g x) := ⟨rfl, rfl, bare_set h hx⟩
theorem Rest.trans {a b c : Shared} (x : Rest a b) (y : Rest b c) : Rest a c := ⟨y.1.trans x.1, y.2.1.trans x.2.1, y.2.2⟩
section
variable (Y : Cx) (pin : Addr × Obj) (gn : Nat) (σ : L2.St) (fp : List Addr) (tn : Nat → Heap → Prop) (N : Nat) (K : Nat → V → Hp → Prop) (W : Nat → Hp → Prop) (A : Around)
structure GAt (i : Nat) (H : Hp) (s : Shared) : Prop where
  at_ : At Y pin σ fp tn i H s
  w : W i H
  gs : ∃ gs, s.gens[gn]? = some gs ∧ ∀ s', Rest s s' →
    gs.Goes (model Y.prog Y.w) A (fun n s₀ r s₁ => r = .ok .next ∧ PGe Y pin σ N W n s₀ s₁) (YG Y pin σ fp tn N K W) (N + 1 - i) (.send .none) s'
end
section
variable {Y : Cx} {pin : Addr × Obj} {gn : Nat} {σ : L2.St} {fp : List Addr} {tn : Nat → Heap → Prop} {N : Nat} {K : Nat → V → Hp → Prop} {W : Nat → Hp → Prop} {A : Around}
theorem next_gen {i : Nat} {H : Hp} {s : Shared} {E : Value → Shared → Prop} (hh : A.handled = none) (hroom : A.depth < recursionLimit) (hi : i ≤ N)
    (hgen : ∀ h : Heap, h.get? pin.1 = some pin.2 → h.IsGen pin.1 gn) (h : GAt Y pin gn σ fp tn N K W A.in1 i H s) :
    wpAny (model Y.prog Y.w) A (pyNext (.ref pin.1)) (fun r s' => (r = none ∧ ∃ H', Inv Y [pin] σ H' s' ∧ W N H') ∨
      ∃ v H' y, r = some v ∧ i < N ∧ RelV y v ∧ At Y pin σ fp tn (i + 1) H' s' ∧ K i y H' ∧ (W (i + 1) H' → GAt Y pin gn σ fp tn N K W A.in1 (i + 1) H' s')) E s := by
  obtain ⟨hat, w, gs, hgs, hgo⟩ := h
  have hg := hgen _ (hat.inv.pin pin (List.mem_append_right _ List.mem_cons_self)).1
  have hlt : gn < s.gens.size := by
    rcases Nat.lt_or_ge gn s.gens.size with z | z
    · exact z
    · rw [Array.getElem?_eq_none z] at hgs
      cases hgs
  refine GenW.wpAny_gsz (n := s.gens.size) (Nat.le_refl _) ?_
  refine wpAny_pyNext_genexpQ (P := PGe Y pin σ N W) hh hat.inv.nolimit hroom hg hgs (hgo _ (rest_set hat.inv.bare rfl)) (fun v s₁ gs' hb hv => ?_) (fun s₁ hp h' hk => ?_)
  · obtain ⟨i', H', y, ⟨hlN, hi'⟩, r, at', k, cont⟩ := hv
    have e : i' = i := by omega
    subst e
    intro hsz
    have hsz' : s.gens.size ≤ s₁.gens.size := by
      rw [GenW.setGen_size] at hsz
      exact hsz
    have r1 : Rest s₁ (s₁.setGen gn gs') := rest_set at'.inv.bare hb
    refine .inr ⟨v, H', y, rfl, hlN, r, at'.rest r1, k, fun w' => ⟨at'.rest r1, w', gs', ?_, fun s' hr => ?_⟩⟩
    · have : gn < s₁.gens.size := by omega
      simp [Shared.setGen, this]
    · have c := cont w' s' (r1.trans hr)
      have e2 : N + 1 - i' = (N + 1 - (i' + 1)) + 1 := by omega
      rw [e2] at c
      exact c
  · obtain ⟨H', I', w'⟩ := hp
    intro _
    refine .inl ⟨rfl, H', ?_, w'⟩
    have I1 := inv_rest I' (rest_set (g := gn) (x := .finished) I'.bare rfl)
    exact I1.call' (ch := []) rfl (Un.kept hk) (I1.hok.kept hk) I1.bare fun b hb => (by cases hb)
/-- all(..) over it -/
theorem all_loop {Q : VK} (hh : A.handled = none) (hroom : A.depth < recursionLimit) (hgen : ∀ h : Heap, h.get? pin.1 = some pin.2 → h.IsGen pin.1 gn)
    (hK : ∀ i y H, K i y H → ∃ b, y = .bl b ∧ if b = true then W (i + 1) H else Q (.bl false) H) (hW : ∀ H, W N H → Q (.bl true) H) :
    ∀ (k i : Nat) (H : Hp) (s : Shared), i + k = N → GAt Y pin gn σ fp tn N K W A.in1.in1 i H s →
      codeAny (model Y.prog Y.w) A (.builtin "all.loop" ⟨[.ref pin.1], []⟩) (fun r s' => ∃ b H', r = .ok (.ret (.bool b)) ∧ Inv Y [pin] σ H' s' ∧ Q (.bl b) H') s := by
  intro k
  induction k with
  | zero =>
    intro i H s hi h
    refine codeAny_builtin F.entry_all_loop ?_
    rw [Around.under_plainId F.plain_all_loop _]
    show wpAny _ A.in1 (pyNext (.ref pin.1) >>= _) _ _ s
    refine wpAny_bind (wpAny_mono (next_gen (A := A.in1) (E := fun _ _ => False) hh hroom (by omega) hgen h) (fun r s' q => ?_) fun _ _ z => z.elim)
    rcases q with ⟨rfl, H', I', w'⟩ | ⟨v, H', y, rfl, hl, _⟩
    · exact wpAny_bind (wpAny_rule (wpAny_pure ⟨true, H', rfl, I', hW H' w'⟩))
    · omega
  | succ k ih =>
    intro i H s hi h
    refine codeAny_builtin F.entry_all_loop ?_
    rw [Around.under_plainId F.plain_all_loop _]
    show wpAny _ A.in1 (pyNext (.ref pin.1) >>= _) _ _ s
    refine wpAny_bind (wpAny_mono (next_gen (A := A.in1) (E := fun _ _ => False) hh hroom (by omega) hgen h) (fun r s' q => ?_) fun _ _ z => z.elim)
    rcases q with ⟨rfl, H', I', w'⟩ | ⟨v, H', y, rfl, _, r, at', k', go⟩
    · exact wpAny_bind (wpAny_rule (wpAny_pure ⟨true, H', rfl, I', hW H' w'⟩))
    · obtain ⟨b, rfl, kb⟩ := hK _ _ _ k'
      obtain rfl : v = Value.bool b := r
      refine wpAny_bind (wpAny_holding (wpAny_truthy_bool ?_))
      refine wpAny_bind (wpAny_letGo ?_)
      cases b with
      | true =>
        simp only [if_true] at kb ⊢
        exact wpAny_pure ⟨plainId_quiet F.plain_all_loop _, ih (i + 1) H' s' (by omega) (go kb)⟩
      | false =>
        simp only [Bool.false_eq_true, if_false] at kb ⊢
        exact wpAny_bind (wpAny_rule (wpAny_pure ⟨false, H', rfl, at'.inv, kb⟩))
/-- any(..) over it -/
theorem any_loop {Q : VK} (hh : A.handled = none) (hroom : A.depth < recursionLimit) (hgen : ∀ h : Heap, h.get? pin.1 = some pin.2 → h.IsGen pin.1 gn)
    (hK : ∀ i y H, K i y H → ∃ b, y = .bl b ∧ if b = true then Q (.bl true) H else W (i + 1) H) (hW : ∀ H, W N H → Q (.bl false) H) :
    ∀ (k i : Nat) (H : Hp) (s : Shared), i + k = N → GAt Y pin gn σ fp tn N K W A.in1.in1 i H s →
      codeAny (model Y.prog Y.w) A (.builtin "any.loop" ⟨[.ref pin.1], []⟩) (fun r s' => ∃ b H', r = .ok (.ret (.bool b)) ∧ Inv Y [pin] σ H' s' ∧ Q (.bl b) H') s := by
  intro k
  induction k with
  | zero =>
    intro i H s hi h
    refine codeAny_builtin F.entry_any_loop ?_
    rw [Around.under_plainId F.plain_any_loop _]
    show wpAny _ A.in1 (pyNext (.ref pin.1) >>= _) _ _ s
    refine wpAny_bind (wpAny_mono (next_gen (A := A.in1) (E := fun _ _ => False) hh hroom (by omega) hgen h) (fun r s' q => ?_) fun _ _ z => z.elim)
    rcases q with ⟨rfl, H', I', w'⟩ | ⟨v, H', y, rfl, hl, _⟩
    · exact wpAny_bind (wpAny_rule (wpAny_pure ⟨false, H', rfl, I', hW H' w'⟩))
    · omega
  | succ k ih =>
    intro i H s hi h
    refine codeAny_builtin F.entry_any_loop ?_
    rw [Around.under_plainId F.plain_any_loop _]
    show wpAny _ A.in1 (pyNext (.ref pin.1) >>= _) _ _ s
    refine wpAny_bind (wpAny_mono (next_gen (A := A.in1) (E := fun _ _ => False) hh hroom (by omega) hgen h) (fun r s' q => ?_) fun _ _ z => z.elim)
    rcases q with ⟨rfl, H', I', w'⟩ | ⟨v, H', y, rfl, _, r, at', k', go⟩
    · exact wpAny_bind (wpAny_rule (wpAny_pure ⟨false, H', rfl, I', hW H' w'⟩))
    · obtain ⟨b, rfl, kb⟩ := hK _ _ _ k'
      obtain rfl : v = Value.bool b := r
      refine wpAny_bind (wpAny_holding (wpAny_truthy_bool ?_))
      refine wpAny_bind (wpAny_letGo ?_)
      cases b with
      | false =>
        simp only [Bool.false_eq_true, if_false] at kb ⊢
        exact wpAny_pure ⟨plainId_quiet F.plain_any_loop _, ih (i + 1) H' s' (by omega) (go kb)⟩
      | true =>
        simp only [if_true] at kb ⊢
        exact wpAny_bind (wpAny_rule (wpAny_pure ⟨true, H', rfl, at'.inv, kb⟩))
end
end GX
set_option maxHeartbeats 2000000
namespace GX
open PySem PySem.Spec PyProof.Rows L2
theorem room_gen {k : Nat} {A : Around} {ce : Env} (r : Room (k + 1) A) : Room k (A.in1.in1.deeper ce) :=
  ⟨r.hd, by have := r.dp; show A.depth + 1 + 3 * k + 5 < _; omega, by have := r.un; show A.units + 1 + 1 + 3 + 16 * k + 200 < _; omega⟩
theorem over_genS {A : Around} {elt tg iter : Expr} {scope : Scope} {pos : Pos} {it : Value} {ce : Env} :
    A.over (.compStart (.GeneratorExp elt [⟨tg, iter, [], 0⟩] scope pos) 0 it .none ce) [] = A.deeper ce := by
  first
    | rfl
    | (obtain ⟨a1, a2, a3, a4, a5⟩ := A
       simp [Around.over, Around.deeper, marksOver, frameCount, unitsOf, envsOf, guardsOf, pushEnvs, pushGuards, Code.envs, Code.env?,
         Code.isFrame, Code.guards, Code.isGuard, Code.weight, Code.frames, Code.isCreation, Code.isCaller, Code.cUnits])
section
variable {X : Cx} {pins : List (Addr × Obj)} {σ : L2.St} {H : Hp} {s : Shared}
/-- a generator that stands ready at a: what follows it gets its context -/
def Ready (X : Cx) (pins : List (Addr × Obj)) (σ : L2.St) (own : List (Str × Nat)) (scope : Scope) (J : It) (N : Nat) (K : Nat → V → Hp → Prop) (W : Nat → Hp → Prop) (u : Value) (s5 : Shared) : Prop :=
  ∃ (Y : Cx) (pin : Addr × Obj) (gn : Nat) (fp : List Addr) (tn : Nat → Heap → Prop) (H4 : Hp), u = .ref pin.1 ∧ Y.prog = X.prog ∧ Y.w = X.w ∧
    (∀ h : Heap, h.get? pin.1 = some pin.2 → h.IsGen pin.1 gn) ∧
    GAt Y pin gn (wipe σ (own.map (·.2))) fp tn N K W X.A.in1.in1 0 H4 s5 ∧
    ∀ (H' : Hp) (s' : Shared), Inv Y [pin] (wipe σ (own.map (·.2))) H' s' → Inv X pins σ H' s'
theorem gen_ready {c T : Addr} {elt tg iter : Expr} {gpos : Pos} {scope : Scope} {own : List (Str × Nat)} {wi : TI} {g : TG} {te : TE} {k : Nat} {Q' : Value → Shared → Prop} {R : It → Hp → Prop}
    (hr : Room k X.A) (TB : GxR.TabB X.base X.mg c T) (hcode : X.env.code = .ref c) (hco : scope.isCoroutine = false) (hN : X.N.Nodup)
    (hi : PI X tg iter wi) (ok : BlkOk X.N X.env.scope scope own) (nc : ∀ y ∈ scope.names, y.2 ≠ .cell) (h0 : scope.names.lookup (".0" : Str) = some NameKind.local)
    (hg : ∀ (s : Shared) (H : Hp) (C : Addr) (code : Value) (fp : List Addr), PG (gcx X s H (genv X scope C code) fp (X.A.in1.in1.deeper (genv X scope C code))) tg g)
    (he : ∀ (s : Shared) (H : Hp) (C : Addr) (code : Value) (fp : List Addr), PE (gcx X s H (genv X scope C code) fp (X.A.in1.in1.deeper (genv X scope C code))) elt te)
    (hs : ∀ v, genFold iter X.env v = pure v) (I : Inv X pins σ H s)
    (h : wi σ H R) (hR : ∀ J H1, R J H1 → GxR.TabG H1 T ∧ ∀ H2, GxR.Tabbed T H1 H2 → ∃ (N : Nat) (K : Nat → V → Hp → Prop) (W : Nat → Hp → Prop), W 0 H2 ∧
      (∀ Hn, W N Hn → J.stop N Hn) ∧ Turns σ (own.map (·.2)) g te J N K W ∧ ∀ u s5, Ready X pins σ own scope J N K W u s5 → Q' u s5) :
    wpAny (model X.prog X.w) X.A (eval (.GeneratorExp elt [⟨tg, iter, [], 0⟩] scope gpos) X.env) Q' X.xe s := by
  have hfree : ∀ y ∈ scope.names, y.2 = .free → ∃ c, X.env.cells.lookup y.1 = some c := fun y hy e => by
    rcases ok.free y hy e with k | k
    · exact I.ok.has _ (.inl k)
    · exact I.ok.has _ (.inr k)
  refine wpAny_GeneratorExp_make hco (closure_ok hfree) nc h0 ok.kind (by have := hr.dp; omega) ?_ hs
  refine thn (hi.run pins s σ H _ I h) fun xv s1 hx => thn hx fun itv s2 h2 => ?_
  obtain ⟨it, fp, tn, J, H2, e, I2, Tn, st2, f2, qR⟩ := h2
  obtain ⟨⟨ps, hT, htr⟩, q⟩ := hR J H2 qR
  subst e
  refine ⟨I2.nolimit, ?_⟩
  have hTs : s2.heap.get? T = some { cls := .none, data := .fields ps } := I2.hok T _ hT
  have cd : PySem.W.CodeHd s2.heap c T := TB.code.keeps fun b u e => I2.bk b u e
  have nfT : ∀ b ∈ fp, b ≠ T := fun b hb z => by
    have := (f2 b hb).1
    rw [z, hT] at this
    cases this
  have szf : ∀ b ∈ fp, b < s2.heap.objs.size := fun b hb => by
    obtain ⟨o, e, _⟩ := Tn.obj _ _ st2 b hb
    exact Heap.lt_size e
  -- behind the code object
  have cont : ∀ (code : Value) (h3 : Heap) (tk : Nat) (ps' : Array Value), Heap.ExtBut T s2.heap h3 → s2.heap.objs.size ≤ h3.objs.size →
      h3.get? T = some { cls := .none, data := .fields ps' } → (∃ more, ps' = ps ++ more) → TriplesOk ps'.toList →
      wpAny (model X.prog X.w) X.A (builtinsFor X.env.globals X.env.builtins) (fun bi s₄ =>
        ∀ h', h'.Ns s₄.heap.objs.size (fun y => if y = ".0" then some (.ref it) else none) → Heap.SameBut s₄.heap.objs.size (s₄.heap.push { cls := .type "frame", data := .dict #[] }) h' →
          Q' (.ref h'.objs.size) { s₄ with
            gens := s₄.gens.push (.fresh (.compStart (.GeneratorExp elt [⟨tg, iter, [], 0⟩] scope gpos) 0 (.ref it) .none (genEnv scope (cloFrom X.env.cells scope.names []) s₄.heap.objs.size code bi X.env))),
            toks := s₄.toks + 1 + 1 + 1,
            heap := h'.push { cls := .type "generator", data := .fields #[.int s₄.gens.size 0, .str "<genexpr>" (s₄.toks + 1), .str (X.env.qual ++ "<genexpr>") (s₄.toks + 1 + 1)] } })
        X.xe { s2 with heap := h3, toks := tk } := by
    intro code h3 tk ps' hx hsz hT3 hmore ht3
    obtain ⟨bm, ob, e1, e2, e3, e4, e5, e6, e7, e8⟩ := TB.bm
    have keep3 : ∀ b u, b ≠ T → s2.heap.get? b = some u → h3.get? b = some u := fun b u hb e => hx b u hb e
    refine wpAny_builtinsFor (m := X.mg) (by rw [I2.ok.glob]; exact (I2.mod.glob.keeps I2.bk).extBut hx TB.gP) e1 e2 (keep3 _ _ e4 (I2.bk _ _ e5)) e6 e7 e8 ?_
    intro h' hns hsb
    obtain ⟨more, em⟩ := hmore
    have J3 : Inv X pins σ (upd H2 T (.tbl (ps ++ more))) { s2 with heap := h3, toks := tk } :=
      GxR.inv_tab (more := more) (h' := h3) (g' := s2.gens) (d' := s2.drawn) (t' := tk) I2 hT (fun b o hb e => keep3 b o hb e) (by rw [← em]; exact hT3) I2.bare
    have tb : GxR.Tabbed T H2 (upd H2 T (.tbl (ps ++ more))) := ⟨⟨ps ++ more, upd_same, by rw [← em]; exact ht3⟩, fun b hb => upd_ne hb⟩
    obtain ⟨N, K, W, w0, hstop, hturn, hq⟩ := q _ tb
    have st3 : tn 0 h3 := Tn.keep _ _ _ st2 fun b hb o e => keep3 b o (nfT b hb) e
    have f3 : ∀ b ∈ fp, FpOk X pins (upd H2 T (.tbl (ps ++ more))) b ∧ b < h3.objs.size := fun b hb =>
      ⟨⟨(upd_ne (nfT b hb)).trans (f2 b hb).1, (f2 b hb).2⟩, Nat.lt_of_lt_of_le (szf b hb) hsz⟩
    have hs' : h'.objs.size = h3.objs.size + 1 := by
      rw [hsb.1]
      exact Heap.size_push ..
    generalize hgo : ({ cls := .type "generator", data := .fields #[.int s2.gens.size 0, .str "<genexpr>" (tk + 1), .str (X.env.qual ++ "<genexpr>") (tk + 1 + 1)] } : Obj) = go
    have kp' : ∀ b o, h3.get? b = some o → h'.get? b = some o := fun b o e => hsb.extBut b o (Nat.ne_of_lt (Heap.lt_size e)) (Heap.get?_push_of_some _ e)
    have kp5 : ∀ b o, h3.get? b = some o → (h'.push go).get? b = some o := fun b o e => Heap.get?_push_of_some _ (kp' b o e)
    have hAf : X.A.in1.in1.frames = some X.stack := I.ok.frames
    have I5 := gen_start (s := { s2 with heap := h3, toks := tk }) (code := code) (A := X.A.in1.in1) (h' := h'.push go) (tk := tk + 1 + 1 + 1)
      (gs := .fresh (.compStart (.GeneratorExp elt [⟨tg, iter, [], 0⟩] scope gpos) 0 (.ref it) .none (genv X scope h3.objs.size code))) J3 ok nc hN f3 hAf hr.hd kp5 (hns.push go) rfl
    have ea : (h'.push go).get? h'.objs.size = some go := Heap.get?_push_size _ (by rw [← hgo]; rfl)
    have hcell : ∀ v, go.data ≠ .cell v := fun v z => by
      rw [← hgo] at z
      cases z
    have nfs : h'.objs.size ∉ frs X.stack := fun z => by
      rcases List.mem_cons.mp (J3.stkSub _ z) with y | y
      · have l := J3.lt
        have l2 : X.env.locals < h3.objs.size := l
        rw [← y] at l2
        have l3 : (h'.objs.size : Nat) < h3.objs.size := l2
        omega
      · exact J3.nofs (show h3.objs.size ≤ h'.objs.size by omega) y
    have I6 : Inv (gcx X { s2 with heap := h3, toks := tk } (upd H2 T (.tbl (ps ++ more))) (genv X scope h3.objs.size code) fp (X.A.in1.in1.deeper (genv X scope h3.objs.size code)))
        [(h'.objs.size, go)] (wipe σ (own.map (·.2))) (upd H2 T (.tbl (ps ++ more))) _ := I5.pins_of fun p hp => by
      have e : p = (h'.objs.size, go) := by simpa using hp
      rw [e]
      refine ⟨ea, J3.hok.fresh (show h3.objs.size ≤ h'.objs.size by omega), ?_, nfs, hcell⟩
      show h'.objs.size ≠ h3.objs.size
      omega
    have at0 : At (gcx X { s2 with heap := h3, toks := tk } (upd H2 T (.tbl (ps ++ more))) (genv X scope h3.objs.size code) fp (X.A.in1.in1.deeper (genv X scope h3.objs.size code)))
        (h'.objs.size, go) (wipe σ (own.map (·.2))) fp tn 0 (upd H2 T (.tbl (ps ++ more))) _ :=
      ⟨I6, Tn.keep _ _ _ st3 fun b hb o e => kp5 b o e, fun b hb => (f3 b hb).1.1⟩
    have hpin : h'.objs.size ∉ fp := fun z => by
      have l : (h'.objs.size : Nat) < h3.objs.size := (f3 _ z).2
      omega
    refine hq _ _ ⟨gcx X { s2 with heap := h3, toks := tk } (upd H2 T (.tbl (ps ++ more))) (genv X scope h3.objs.size code) fp (X.A.in1.in1.deeper (genv X scope h3.objs.size code)),
      (h'.objs.size, go), s2.gens.size, fp, tn, upd H2 T (.tbl (ps ++ more)), rfl, rfl, rfl, fun hh e => ?_, ⟨at0, w0, _, Array.getElem?_push_size .., fun s' hr' => ⟨rfl, ?_⟩⟩, fun H' s' I' => ?_⟩
    · exact ⟨go, .str "<genexpr>" (tk + 1), .str (X.env.qual ++ "<genexpr>") (tk + 1 + 1), e, by rw [← hgo], by rw [← hgo], by rw [← hgo]⟩
    · have loop := seg_turns (Y := gcx X { s2 with heap := h3, toks := tk } (upd H2 T (.tbl (ps ++ more))) (genv X scope h3.objs.size code) fp (X.A.in1.in1.deeper (genv X scope h3.objs.size code)))
        (iter := iter) (scope := scope) (pos := gpos) (A := X.A.in1.in1) Tn rfl rfl rfl hpin rfl hco (hg _ _ _ _ _) (he _ _ _ _ _) (fun _ _ z => z) hstop hturn N 0 s' s' _ (Nat.zero_add N) (at0.rest hr') w0
      show Seg _ _ _ _ _ s' _ ((compStart (.GeneratorExp elt [⟨tg, iter, [], 0⟩] scope gpos) 0 (.ref it) .none (genv X scope h3.objs.size code)).onRaise (leaving (genv X scope h3.objs.size code))) [] s'
      unfold compStart
      rw [Sem.onRaise_eq_wrap]
      show Seg _ _ _ _ _ s' _ ((ask >>= _).wrap _ _ _ _) [] s'
      refine seg_bind_wrap (wpAny_askSetting ?_)
      have st' : tn 0 s'.heap := (at0.rest hr').st
      split
      · exact seg_again rfl loop
      · first
          | exact seg_bind_wrap (wpAny_rule (seg_bind_wrap (wpAny_standAt (seg_bind_wrap (Tn.self _ 0 s' _ _ st' (seg_again rfl loop))))))
          | (refine seg_bind_wrap (wpAny_rule ?_)
             show Seg _ _ _ _ _ s' _ ((standAt iter.pos >>= _).wrap _ _ _ _) [] s'
             exact seg_bind_wrap (wpAny_standAt (seg_bind_wrap (Tn.self _ 0 s' _ _ st' (seg_again rfl loop)))))
    · exact J3.call' (ch := fp) I'.os I'.base I'.hok I'.bare fun b hb => ⟨(f3 b hb).1.2.2.2.1, (f3 b hb).1.2.1, (f3 b hb).1.2.2.2.2.1, (f3 b hb).1.2.2.2.2.2⟩
  cases hf : codeAmong gpos ps.toList with
  | none =>
    refine wpAny_genexprCodeX hcode (cd.code hTs htr) (cd.tab hTs) hf fun c' h' tk hx hge hlt hco' _ htab' _ => ?_
    obtain ⟨o1, vs, f1, tf, fl, tg, inF, tx, tt, op, _, _, _, _, _, _, _, _, _, htr', _⟩ := hco'
    exact cont _ h' tk _ hx (Nat.le_trans hge (Nat.le_of_lt hlt)) htab'.2 ⟨_, rfl⟩ htr'
  | some cv =>
    refine wpAny_genexprCode_hit hcode (cd.code hTs htr) hf ?_
    exact cont cv s2.heap s2.toks ps (Heap.ExtBut.refl _ _) (Nat.le_refl _) hTs ⟨#[], by simp⟩ htr
/-- all(elt for tg in iter) -/
def tAllG (T : Addr) (wi : TI) (g : TG) (te : TE) (vs : List Nat) : TE := fun σ H Q => wi σ H fun J H1 => GxR.TabG H1 T ∧
  ∀ H2, GxR.Tabbed T H1 H2 → ∃ (N : Nat) (W : Nat → Hp → Prop), W 0 H2 ∧ (∀ Hn, W N Hn → J.stop N Hn ∧ Q (.bl true) Hn) ∧
    Turns σ vs g te J N (fun i y Hy => ∃ b, y = .bl b ∧ if b = true then W (i + 1) Hy else Q (.bl false) Hy) W
def tAnyG (T : Addr) (wi : TI) (g : TG) (te : TE) (vs : List Nat) : TE := fun σ H Q => wi σ H fun J H1 => GxR.TabG H1 T ∧
  ∀ H2, GxR.Tabbed T H1 H2 → ∃ (N : Nat) (W : Nat → Hp → Prop), W 0 H2 ∧ (∀ Hn, W N Hn → J.stop N Hn ∧ Q (.bl false) Hn) ∧
    Turns σ vs g te J N (fun i y Hy => ∃ b, y = .bl b ∧ if b = true then Q (.bl true) Hy else W (i + 1) Hy) W
theorem bt_all : bootBuiltins "all" = some (.builtin "all") := by decide +kernel
theorem bt_any : bootBuiltins "any" = some (.builtin "any") := by decide +kernel
theorem pe_allG {c T : Addr} {elt tg iter : Expr} {p pos gpos : Pos} {scope : Scope} {own : List (Str × Nat)} {wi : TI} {g : TG} {te : TE} {k : Nat}
    (hr : Room k X.A) (hgl : Gl X "all") (hm : X.mg "all" = none) (TB : GxR.TabB X.base X.mg c T) (hcode : X.env.code = .ref c) (hco : scope.isCoroutine = false) (hN : X.N.Nodup)
    (hi : PI X tg iter wi) (ok : BlkOk X.N X.env.scope scope own) (nc : ∀ y ∈ scope.names, y.2 ≠ .cell) (h0 : scope.names.lookup (".0" : Str) = some NameKind.local)
    (hg : ∀ (s : Shared) (H : Hp) (C : Addr) (code : Value) (fp : List Addr), PG (gcx X s H (genv X scope C code) fp (X.A.in1.in1.deeper (genv X scope C code))) tg g)
    (he : ∀ (s : Shared) (H : Hp) (C : Addr) (code : Value) (fp : List Addr), PE (gcx X s H (genv X scope C code) fp (X.A.in1.in1.deeper (genv X scope C code))) elt te)
    (hs : ∀ v, genFold iter X.env v = pure v := by intro _; rfl)
    (hst : starEach [.GeneratorExp elt [⟨tg, iter, [], 0⟩] scope gpos] X.env = (false, eval (.GeneratorExp elt [⟨tg, iter, [], 0⟩] scope gpos) X.env) :: starEach [] X.env := by rfl) :
    PE X (.Call (.Name "all" p) [.GeneratorExp elt [⟨tg, iter, [], 0⟩] scope gpos] [] pos) (tAllG T wi g te (own.map (·.2))) := by
  refine ⟨fun pins s σ H Q I h => ?_⟩
  refine wpAny_Call_Name_kw (ld_blt I hgl hm bt_all ?_)
  refine PyProof.Rows.callWith_builtin1 ?_ hst (by rfl)
  rw [hst]
  show wpAny _ _ (spliced ((false, eval (.GeneratorExp elt [⟨tg, iter, [], 0⟩] scope gpos) X.env) :: backTo pos (starEach [] X.env))) _ _ s
  refine Calls.spliced_cons (gen_ready (own := own) hr TB hcode hco hN hi ok nc h0 hg he hs I h fun J H1 q => ?_)
  refine ⟨q.1, fun H2 hT => ?_⟩
  obtain ⟨N, W, w0, hst, ht⟩ := q.2 H2 hT
  refine ⟨N, _, W, w0, fun Hn wn => (hst Hn wn).1, ht, fun u s5 hR => ?_⟩
  obtain ⟨Y, pin, gn, fp, tn, H4, rfl, hp, hw, hgen, hat, back⟩ := hR
  refine Calls.spliced_nil ?_
  refine call_function_tree F.kind_all F.plain_all F.entry_all (F.args_all1 _) ?_
  unfold Builtin.«all»
  refine wpAny_bind (m := oneArg "all" _) (wpAny_pure ?_)
  have hg0 : s5.heap.IsGen pin.1 gn := hgen _ (hat.at_.inv.pin pin (List.mem_append_right _ List.mem_cons_self)).1
  refine wpAny_bind (wpAny_pyIter_gen hg0 ?_)
  refine wpAny_pure ⟨plainId_quiet F.plain_all_loop _, ?_⟩
  have lp := all_loop (A := X.A) (Q := Q) hr.hd hr.depth hgen (fun i y H k => k) (fun Hn wn => (hst Hn wn).2) N 0 H4 s5 (Nat.zero_add N) hat
  rw [hp, hw] at lp
  refine codeAny_mono lp fun r s' z => ?_
  obtain ⟨b, H', rfl, I', qb⟩ := z
  exact ⟨.bl b, H', back H' s' I', rfl, qb⟩
theorem pe_anyG {c T : Addr} {elt tg iter : Expr} {p pos gpos : Pos} {scope : Scope} {own : List (Str × Nat)} {wi : TI} {g : TG} {te : TE} {k : Nat}
    (hr : Room k X.A) (hgl : Gl X "any") (hm : X.mg "any" = none) (TB : GxR.TabB X.base X.mg c T) (hcode : X.env.code = .ref c) (hco : scope.isCoroutine = false) (hN : X.N.Nodup)
    (hi : PI X tg iter wi) (ok : BlkOk X.N X.env.scope scope own) (nc : ∀ y ∈ scope.names, y.2 ≠ .cell) (h0 : scope.names.lookup (".0" : Str) = some NameKind.local)
    (hg : ∀ (s : Shared) (H : Hp) (C : Addr) (code : Value) (fp : List Addr), PG (gcx X s H (genv X scope C code) fp (X.A.in1.in1.deeper (genv X scope C code))) tg g)
    (he : ∀ (s : Shared) (H : Hp) (C : Addr) (code : Value) (fp : List Addr), PE (gcx X s H (genv X scope C code) fp (X.A.in1.in1.deeper (genv X scope C code))) elt te)
    (hs : ∀ v, genFold iter X.env v = pure v := by intro _; rfl)
    (hst : starEach [.GeneratorExp elt [⟨tg, iter, [], 0⟩] scope gpos] X.env = (false, eval (.GeneratorExp elt [⟨tg, iter, [], 0⟩] scope gpos) X.env) :: starEach [] X.env := by rfl) :
    PE X (.Call (.Name "any" p) [.GeneratorExp elt [⟨tg, iter, [], 0⟩] scope gpos] [] pos) (tAnyG T wi g te (own.map (·.2))) := by
  refine ⟨fun pins s σ H Q I h => ?_⟩
  refine wpAny_Call_Name_kw (ld_blt I hgl hm bt_any ?_)
  refine PyProof.Rows.callWith_builtin1 ?_ hst (by rfl)
  rw [hst]
  show wpAny _ _ (spliced ((false, eval (.GeneratorExp elt [⟨tg, iter, [], 0⟩] scope gpos) X.env) :: backTo pos (starEach [] X.env))) _ _ s
  refine Calls.spliced_cons (gen_ready (own := own) hr TB hcode hco hN hi ok nc h0 hg he hs I h fun J H1 q => ?_)
  refine ⟨q.1, fun H2 hT => ?_⟩
  obtain ⟨N, W, w0, hst, ht⟩ := q.2 H2 hT
  refine ⟨N, _, W, w0, fun Hn wn => (hst Hn wn).1, ht, fun u s5 hR => ?_⟩
  obtain ⟨Y, pin, gn, fp, tn, H4, rfl, hp, hw, hgen, hat, back⟩ := hR
  refine Calls.spliced_nil ?_
  refine call_function_tree F.kind_any F.plain_any F.entry_any (F.args_any1 _) ?_
  unfold Builtin.«any»
  refine wpAny_bind (m := oneArg "any" _) (wpAny_pure ?_)
  have hg0 : s5.heap.IsGen pin.1 gn := hgen _ (hat.at_.inv.pin pin (List.mem_append_right _ List.mem_cons_self)).1
  refine wpAny_bind (wpAny_pyIter_gen hg0 ?_)
  refine wpAny_pure ⟨plainId_quiet F.plain_any_loop _, ?_⟩
  have lp := any_loop (A := X.A) (Q := Q) hr.hd hr.depth hgen (fun i y H k => k) (fun Hn wn => (hst Hn wn).2) N 0 H4 s5 (Nat.zero_add N) hat
  rw [hp, hw] at lp
  refine codeAny_mono lp fun r s' z => ?_
  obtain ⟨b, H', rfl, I', qb⟩ := z
  exact ⟨.bl b, H', back H' s' I', rfl, qb⟩
end
end GX
namespace GS
open PySem PySem.Spec PyProof.Rows L2
/-- how many unlike ones are among the first i -/
def met (xs : List Str) : Nat → Nat
  | 0 => 0
  | i + 1 => if (xs.take i).any (· == xs.getD i Str.empty) then met xs i else met xs i + 1
theorem met_le (xs : List Str) : ∀ i, met xs i ≤ i
  | 0 => Nat.le_refl _
  | i + 1 => by
    unfold met
    have := met_le xs i
    split <;> omega
theorem any_take {xs : List Str} {i : Nat} (h : i < xs.length) (k : Str) :
    (xs.take (i + 1)).any (· == k) = ((xs.take i).any (· == k) || decide (k = xs.getD i Str.empty)) := by
  rw [List.take_add_one, List.getElem?_eq_getElem h, List.any_append]
  have e : xs.getD i Str.empty = xs[i] := by simp [List.getD, h]
  rw [e]
  congr 1
  by_cases z : k = xs[i]
  · subst z
    simp
  · have : (xs[i] == k) = false := beq_eq_false_iff_ne.mpr fun y => z y.symm
    simp [this, z]
/-- all unlike: as many as there are -/
theorem met_all (xs : List Str) : ∀ i, i ≤ xs.length → (met xs i = i ↔ (xs.take i).Nodup)
  | 0, _ => by simp [met]
  | i + 1, h => by
    have ih := met_all xs i (by omega)
    have hl := met_le xs i
    have e : xs.getD i Str.empty = xs[i] := by simp [List.getD, (by omega : i < xs.length)]
    have et : xs.take (i + 1) = xs.take i ++ [xs[i]] := by
      rw [List.take_add_one, List.getElem?_eq_getElem (by omega)]
      rfl
    unfold met
    rw [e, et, List.nodup_append]
    by_cases ha : (xs.take i).any (· == xs[i]) = true
    · rw [if_pos ha]
      constructor
      · intro z
        omega
      · intro ⟨_, _, z⟩
        obtain ⟨y, hy, hyy⟩ := List.any_eq_true.mp ha
        exact absurd (beq_iff_eq.mp hyy) (z y hy xs[i] (by simp))
    · rw [if_neg ha]
      constructor
      · intro z
        refine ⟨ih.mp (by omega), by simp, fun y hy u hu q => ha ?_⟩
        have eu : u = xs[i] := by simpa using hu
        exact List.any_eq_true.mpr ⟨y, hy, beq_iff_eq.mpr (q.trans eu)⟩
      · intro ⟨z, _, _⟩
        have := ih.mpr z
        omega
section
variable {prog : Program} {w : World} {A : Around} {R : Result → Shared → Prop} {I : Addr} {fp wr : List Addr}
  {G : Array GenState → Array GenState → Prop} {n : Nat} {P : Nat → Value → Prop} {St : Nat → Shared → Prop}
theorem add_all (W : WalksS prog w A.in1 I fp wr G n P St) (S : Addr) (hSf : S ∉ fp) (xs : List Str) (hsz : xs.length = n) (hb : n + 1 < scanBound)
    (hval : ∀ i v, P i v → ∃ t, v = .str (xs.getD i Str.empty) t) : ∀ (k i : Nat) (s : Shared), n - i = k → i ≤ n → St i s →
      s.heap.SetOf (PySem.strKind prog w) S (fun k' => (xs.take i).any (· == k')) (met xs i) →
      (∀ s', Moved (S :: wr) G s s' → s'.heap.SetOf (PySem.strKind prog w) S (fun k' => (xs.take n).any (· == k')) (met xs n) → R (.ok (.ret .none)) s') →
      codeAny (model prog w) A (.builtin "set.update.loop" ⟨[.ref S, .ref I], []⟩) R s := by
  have nS : S ∉ wr := fun h => hSf (W.sub _ h)
  have wS : ∀ b ∈ wr, b ∈ S :: wr := fun b hb => List.mem_cons_of_mem _ hb
  intro k
  induction k with
  | zero =>
    intro i s hk hi st hS hR
    have hin : i = n := by omega
    subst hin
    refine codeAny_builtin PyProof.Rows.F.entry_set_update_loop (?_ : wpAny _ _ _ _ _ _)
    rw [Around.under_plainId PyProof.Rows.F.plain_set_update_loop (_ : Args)]
    show wpAny _ A.in1 (pyNext (.ref I) >>= _) _ (_) s
    refine wpAny_bind (W.done s _ _ st fun s1 mv => ?_)
    show wpAny _ A.in1 (ret Value.none) _ _ s1
    refine wpAny_pure (hR s1 (mv.mono wS) ?_)
    obtain ⟨o, es, ep, t, ho, rest⟩ := hS
    exact ⟨o, es, ep, t, mv.heap S _ nS ho, rest⟩
  | succ k ih =>
    intro i s hk hi st hS hR
    have hlt : i < n := by omega
    refine codeAny_builtin PyProof.Rows.F.entry_set_update_loop (?_ : wpAny _ _ _ _ _ _)
    rw [Around.under_plainId PyProof.Rows.F.plain_set_update_loop (_ : Args)]
    show wpAny _ A.in1 (pyNext (.ref I) >>= _) _ (_) s
    refine wpAny_bind (W.item i s _ _ hlt st fun v s1 hP st1 mv => ?_)
    obtain ⟨t, rfl⟩ := hval i v hP
    have hS1 : s1.heap.SetOf (PySem.strKind prog w) S (fun k' => (xs.take i).any (· == k')) (met xs i) := by
      obtain ⟨o, es, ep, tb, ho, rest⟩ := hS
      exact ⟨o, es, ep, tb, mv.heap S _ nS ho, rest⟩
    show wpAny _ A.in1 (holding [Value.str (xs.getD i Str.empty) t] (setAdd S (.str (xs.getD i Str.empty) t)) >>= _) _ (_) s1
    refine wpAny_bind (wpAny_holding ?_)
    unfold setAdd
    refine wpAny_holding (wpAny_bind ((PySem.strKind prog w).pyHash (k := xs.getD i Str.empty) (strKind_is _ _ _ _) ?_))
    have room : met xs i + 1 < scanBound := by
      have := met_le xs i
      omega
    refine wpAny_setAddHashed_of (knd := PySem.strKind prog w) (s := { s1 with toks := s1.toks + 1 }) (strKind_is _ _ _ _) rfl hS1 room fun h2 sb hS2 => ?_
    have hS3 : h2.SetOf (PySem.strKind prog w) S (fun k' => (xs.take (i + 1)).any (· == k')) (met xs (i + 1)) :=
      SetOf_congr hS2 (fun k' => (any_take (by omega) k').symm) rfl
    refine wpAny_pure ⟨plainId_quiet PyProof.Rows.F.plain_set_update_loop _,
      ih (i + 1) _ (by omega) hlt (W.frame _ s1 _ _ st1 (Nat.le_succ _) fun b hb o e => ?_) hS3 fun s2 mv2 hS4 => ?_⟩
    · rw [sb.2 b (fun h : b = S => hSf (by rw [← h]; exact hb))]
      exact e
    · refine hR s2 (Moved.trans W.gtrans ((mv.mono wS).then_heap (Nat.le_succ _) fun b o hb e => ?_) mv2) hS4
      rw [sb.2 b (fun h : b = S => hb (by rw [h]; exact List.mem_cons_self))]
      exact e
end
abbrev emp (led : Bool) : Obj := { cls := .type "set", dict := none, data := .set #[] 0 (.fresh 0 0 led) }
section
variable {prog : Program} {w : World} {A : Around} {E : Value → Shared → Prop} {s : Shared}
set_option maxHeartbeats 3200000 in
theorem set_tup {l : Addr} {items : Array Value} {xs : List Str} {Q : Value → Shared → Prop} (hh : A.handled = none) (hl : s.heap.IsTuple l items)
    (hi : PyProof.Rows.StrsAre items.toList xs) (hb : xs.length + 1 < scanBound)
    (h : ∀ (h' : Heap) (tk : Nat), h'.SetOf (PySem.strKind prog w) s.heap.objs.size (fun k' => (xs.take items.size).any (· == k')) (met xs items.size) →
      (∀ b o, b < s.heap.objs.size → s.heap.get? b = some o → h'.get? b = some o) → Q (.ref s.heap.objs.size) { s with heap := h', toks := tk }) :
    wpAny (model prog w) A (call (.type "set") [.ref l]) Q E s := by
  obtain ⟨cc, tl, mro⟩ := PySem.F.called_set.mro
  have made := PySem.F.called_set.made
  have sub := PySem.F.called_set.sub
  refine wpAny_call (codeAny_of_tree (?_ : wpAny _ _ _ _ _ _))
  show wpAny _ _ (callAny (.type "set") (_)) _ _ _
  refine wpAny_pure ⟨Code.quiet_builtin _ (by decide +kernel), codeAny_builtin PySem.F.entry_type_call (?_ : wpAny _ _ _ _ _ _)⟩
  rw [Around.under_plain (weight_type_call_type "set" [.ref l] ([])) rfl]
  have n1 := PySem.F.called_set.notType
  have n2 := PySem.F.called_set.canCreate
  have n3 := PySem.F.typeCall_set_1 (.ref l)
  repeat (any_goals (first | assumption | wp_step))
  refine codeAny_mono (code_set_new_1 (.ref l) (E := E) (Q₁ := fun obj s₁ => ∃ led : Bool, obj = .ref s.heap.objs.size ∧ s₁ = { s with heap := s.heap.push (emp led) })
    fun led => ⟨led, rfl, rfl⟩) fun r s₁ hr => ?_
  cases r with
  | error e => exact hr
  | ok fl =>
    cases fl with
    | ret obj =>
      obtain ⟨led, rfl, rfl⟩ := hr
      have hS : (s.heap.push (emp led)).get? s.heap.objs.size = some (emp led) := Heap.get?_push_size _ rfl
      have hT : Shared.TypeIs { s with heap := s.heap.push (emp led) } (.ref s.heap.objs.size) "set" := ⟨_, hS, rfl⟩
      have li := PySem.F.called_set.init.lookup
      have bi := PySem.F.called_set.init.bind (.ref s.heap.objs.size)
      repeat (any_goals (first | assumption | wp_step))
      refine codeAny_mono (codeAny_call_builtin (R := wants (fun r s₂ => r = .none ∧ ∃ h' tk, s₂ = { s with heap := h', toks := tk } ∧
          h'.SetOf (PySem.strKind prog w) s.heap.objs.size (fun k' => (xs.take items.size).any (· == k')) (met xs items.size) ∧
          (∀ b o, b < s.heap.objs.size → s.heap.get? b = some o → h'.get? b = some o)) E)
        PySem.F.called_set.init.plain PySem.F.entry_set_init (check_set_init_1 hT ?_)) fun r₂ s₂ hr₂ => ?_
      · obtain ⟨ol, hol, hcl, nl, hdl⟩ := hl
        obtain ⟨ocls, odict, odata, oslots⟩ := ol
        simp only at hcl hdl
        subst hcl
        subst hdl
        have hol' : (s.heap.push (emp led)).get? l = some { cls := .type "tuple", dict := odict, data := .seq items nl, slots := oslots } := Heap.get?_push_of_some _ hol
        have k1 := PySem.F.sub_tuple_set
        have k2 := PySem.F.sub_tuple_frozenset
        have k3 : (Value.type "tuple" == Value.type "dict") = false := by decide
        have hl1 : (s.heap.push (emp led)).IsTuple l items := ⟨_, hol', rfl, nl, rfl⟩
        unfold Builtin.«set.__init__» noKeywords Builtin.Frozenset.updateFrom
        generalize hPI : pyIter = PI
        wp_walk
        subst hPI
        refine wpAny_pyIter_tuple hl1 (wpAny_bind (wpAny_runValue ?_))
        have lS : l < s.heap.objs.size := Heap.lt_size hol
        have hh3 : A.in1.in1.in1.handled = none := by simp [hh]
        have nI : l ≠ (s.heap.push (emp led)).objs.size := by
          rw [Heap.size_push]
          exact Nat.ne_of_lt (Nat.lt_succ_of_lt lS)
        have nS : s.heap.objs.size ∉ [(s.heap.push (emp led)).objs.size, l] := by
          rw [Heap.size_push]
          simp only [List.mem_cons, List.mem_singleton, List.not_mem_nil, or_false, not_or]
          exact ⟨Nat.ne_of_lt (Nat.lt_succ_self _), Nat.ne_of_gt lS⟩
        have sz : xs.length = items.size := by
          rw [← StrsAre.len_eq hi, Array.length_toList]
        refine add_all ((Walks.tuple hh3 _ l nI items).toS) s.heap.objs.size nS xs sz (by rw [← sz]; exact hb)
          (fun i v hv => SS.strs_at hi i v (by rw [Array.getElem?_toList]; exact hv)) (items.size - 0) 0 _ (by omega) (Nat.zero_le _)
          ⟨⟨_, Heap.get?_push_size _ rfl, rfl, rfl⟩, (hl1.push _)⟩ ?hS0 ?hR
        case hS0 =>
          have hget : ((s.heap.push (emp led)).push { cls := .type "tuple_iterator", data := .fields #[.ref l, .int 0 0] }).get? s.heap.objs.size = some (emp led) := Heap.get?_push_of_some _ hS
          exact PyProof.Rows.SetOf_congr ((PyProof.Rows.setObjOf_fresh (knd := PySem.strKind prog w) led).setOf hget (by unfold scanBound; omega)) (fun _ => rfl) rfl
        case hR =>
          intro s' mv hS'
          obtain ⟨h', g', d', tk', os'⟩ := s'
          have eg : g' = s.gens := mv.gens
          have ed : d' = s.drawn := mv.drawn
          have eo : os' = s.os := mv.os
          subst eg
          subst ed
          subst eo
          show wpAny _ _ _ _ _ _
          refine wpAny_pure (?_ : wpAny _ _ _ _ _ _)
          show wpAny _ _ (ret Value.none) _ _ (_)
          refine wpAny_pure ⟨rfl, h', tk', rfl, hS', fun b o hb e => ?_⟩
          have hb1 : b ≠ s.heap.objs.size := Nat.ne_of_lt hb
          have hb2 : b ≠ (s.heap.push (emp led)).objs.size := by
            rw [Heap.size_push]
            exact Nat.ne_of_lt (Nat.lt_succ_of_lt hb)
          exact mv.heap b o (by simp only [List.mem_cons, List.mem_singleton, List.not_mem_nil, or_false, not_or]; exact ⟨hb1, hb2⟩)
            (Heap.get?_push_of_some _ (Heap.get?_push_of_some _ e))
      · cases r₂ with
        | error e => exact hr₂
        | ok fl₂ =>
          cases fl₂ with
          | ret r =>
            obtain ⟨rfl, h', tk, rfl, hS', hk'⟩ := hr₂
            repeat (any_goals (first | assumption | wp_step))
            exact h _ _ hS' hk'
          | _ => exact hr₂.elim
    | _ => exact hr.elim
end
section
variable {X : Cx}
/-- len(set(xs)), xs a tuple of texts -/
def tLenSetT (K : PySem.W.Frag) (ta : TE) : TE := fun σ H Q => ta σ H fun x H1 => ∃ l, ∃ xs : List Str, x = .ref l ∧ SqT K H1 l (xs.map V.str) ∧
  xs.length ≤ 1000 ∧ Q (.int (met xs xs.length : Nat)) H1
theorem pe_lenSetT {a : Expr} {ta : TE} {p p2 q pos : Pos} (hc : X.calm = true) (hg : Gl X "len") (hm : X.mg "len" = none) (hg2 : Gl X "set") (hm2 : X.mg "set" = none)
    (ha : PE X a ta) (na : starEach [a] X.env = (false, eval a X.env) :: starEach [] X.env := by rfl) :
    PE X (.Call (.Name "len" p) [.Call (.Name "set" p2) [a] [] q] [] pos) (tLenSetT X.K ta) := by
  refine ⟨fun pins s σ H Q I h => ?_⟩
  refine Call_ (ld_blt I hg hm boot_len (?_ : wpAny _ _ _ _ _ _))
  refine PyProof.Rows.callWith_builtin1 (PyProof.Rows.args_cons (?_ : wpAny _ _ _ _ _ _) rfl) rfl rfl
  refine Call_ (ld_blt I hg2 hm2 boot_set (?_ : wpAny _ _ _ _ _ _))
  refine PyProof.Rows.callWith_type1 (PyProof.Rows.args_cons (thn (ha.run pins s σ H _ I h) fun v s1 ⟨x, H1, I1, r1, q1⟩ => PyProof.Rows.args_nil ?_) na) (na) rfl
  obtain ⟨l, xs, rfl, hq, h1, q1⟩ := q1
  cases r1
  obtain ⟨its, r, pl, hz⟩ := I1.tuple hq
  have sb : xs.length + 1 < scanBound := by
    unfold scanBound
    omega
  refine set_tup (I1.ok.hd hc) pl (by simpa using strsAre_of r) sb fun h' tk hS hk => ?_
  refine PyProof.Rows.args_nil (?_ : wpAny _ _ _ _ _ _)
  have hl : its.toArray.size = xs.length := by
    rw [List.size_toArray, ← r.length, List.length_map]
  rw [hl] at hS
  obtain ⟨o, es, ep, t, ho, hex, hd, _, _, _, hf, hn⟩ := hS
  have I2 : Inv X pins σ H1 { s1 with heap := h', toks := tk } := I1.kept fun b o e => hk b o (Heap.lt_size e) e
  have ml := met_le xs xs.length
  exact call_len_set ho hex hd hf (by rw [hn]; omega) ⟨.int (met xs xs.length : Nat), H1, I2.tok _, ⟨_, by rw [hn]⟩, q1⟩
end
end GS
namespace RT
open PySem PySem.Spec PyProof.Rows L2
theorem adj_back (n : Nat) : Builtin.Slice.sliceAdjust none none (-1) (n : Int) = ((n : Int) - 1, -1) := by
  unfold Builtin.Slice.sliceAdjust
  simp
theorem pl_back (n : Nat) : Builtin.Slice.slicePlaces ((n : Int) - 1) (-1) (-1) = n := by
  unfold Builtin.Slice.slicePlaces
  simp
  split <;> omega
theorem pick_back (xs : Array Value) : ((List.range xs.size).filterMap fun (k : Nat) => xs[(((xs.size : Int) - 1) + (k : Int) * (-1)).toNat]?) = xs.toList.reverse := by
  have p := pick_from xs.toList.reverse.toArray 0 (Nat.zero_le _)
  have p2 := congrArg Array.toList p
  simp only [List.drop_zero] at p2
  have sz : xs.toList.reverse.toArray.size = xs.size := by simp
  rw [sz, Nat.sub_zero] at p2
  have e : ∀ k ∈ List.range xs.size, xs[(((xs.size : Int) - 1) + (k : Int) * (-1)).toNat]? = xs.toList.reverse.toArray[(((0 : Nat) : Int) + (k : Int) * 1).toNat]? := fun k hk => by
    have hk := List.mem_range.mp hk
    have e1 : (((xs.size : Int) - 1) + (k : Int) * (-1)).toNat = xs.size - 1 - k := by omega
    have e2 : (((0 : Nat) : Int) + (k : Int) * 1).toNat = k := by omega
    rw [e1, e2]
    rw [show xs.toList.reverse.toArray[k]? = xs.toList.reverse[k]? by simp, List.getElem?_reverse (by simpa using hk), Array.length_toList, Array.getElem?_toList]
  have q : ∀ l : List Nat, (∀ k ∈ l, xs[(((xs.size : Int) - 1) + (k : Int) * (-1)).toNat]? = xs.toList.reverse.toArray[(((0 : Nat) : Int) + (k : Int) * 1).toNat]?) →
      l.filterMap (fun (k : Nat) => xs[(((xs.size : Int) - 1) + (k : Int) * (-1)).toNat]?) = l.filterMap (fun (k : Nat) => xs.toList.reverse.toArray[(((0 : Nat) : Int) + (k : Int) * 1).toNat]?) := fun l => by
    induction l with
    | nil => intro _; rfl
    | cons k r ih =>
      intro h
      rw [List.filterMap_cons, List.filterMap_cons, h k List.mem_cons_self, ih fun j hj => h j (List.mem_cons_of_mem _ hj)]
  rw [q _ e]
  simpa using p2
section
variable {prog : Program} {w : World} {A : Around} {E : Value → Shared → Prop} {s : Shared}
theorem applied_back {sl : Addr} {n : Nat} {u : Tok} {Q : Int × Int × Nat → Shared → Prop} (hs : s.heap.IsSliceOf sl .none .none (.int (-1) u)) (h : Q ((n : Int) - 1, -1, n) s) :
    wpAny (model prog w) A (Builtin.Slice.sliceApplied (.ref sl) (pure (n : Int))) Q E s := by
  obtain ⟨os, hos, hcs, hds⟩ := id hs
  unfold Builtin.Slice.sliceApplied Builtin.Slice.sliceFields
  refine wpAny_bind (wpAny_bind (wpAny_field hos hds (x := .none) rfl (wpAny_bind (wpAny_field hos hds (x := .none) rfl (wpAny_bind (wpAny_field hos hds (x := .int (-1) u) rfl (wpAny_pure ?_)))))))
  refine wpAny_bind (slicePart_int ?_)
  show wpAny _ _ (if ((-1 : Int) == 0) = true then _ else _) _ _ s
  rw [if_neg (by decide)]
  refine wpAny_bind (slicePart_none (wpAny_bind (slicePart_none (wpAny_bind (wpAny_pure ?_)))))
  show wpAny _ _ (match Builtin.Slice.sliceAdjust none none (-1) (n : Int) with | (lo, hi) => pure (lo, (-1 : Int), Builtin.Slice.slicePlaces lo hi (-1))) _ _ s
  rw [adj_back n]
  show wpAny _ _ (pure ((n : Int) - 1, (-1 : Int), Builtin.Slice.slicePlaces ((n : Int) - 1) (-1) (-1))) _ _ s
  rw [pl_back n]
  exact wpAny_pure h
theorem item_back {t sl : Addr} {items : Array Value} {u : Tok} {Q : Value → Shared → Prop} (ht : IsTup s.heap t items) (hs : s.heap.IsSliceOf sl .none .none (.int (-1) u))
    (h : Q (.ref s.heap.objs.size) { s with heap := s.heap.push { cls := .type "tuple", data := .seq items.toList.reverse.toArray } })
    (hsz : items.size ≤ sizeLine) : wpAny (model prog w) A (getItem (.ref t) (.ref sl)) Q E s := by
  have fits : sizeOk (.seq items.toList.reverse.toArray) := by
    show items.toList.reverse.toArray.size ≤ sizeLine
    rw [List.size_toArray, List.length_reverse, Array.length_toList]
    exact hsz
  obtain ⟨os, hos, hcs, hds⟩ := id hs
  have hTs : s.TypeIs (.ref sl) "slice" := ⟨os, hos, hcs⟩
  unfold getItem
  try with_reducible refine wpAny_holding (?_ : wpAny _ _ _ _ _ _)
  first | refine wpAny_bind (wpAny_pure (?_ : wpAny _ _ _ _ _ _)) | skip
  refine wpAny_bind (wpAny_sequenceKey ht.typeIs (by decide) (?_ : wpAny _ _ _ _ _ _))
  refine wpAny_bind (wpAny_callSpecial?_slot (name := Str.ofString "__getitem__") ht.typeIs PyProof.Rows.slot_tuple_getitem
    (wpAny_call_entry PyProof.Rows.slot_tuple_getitem ht.typeIs entry_tuple_getitem (?_ : wpAny _ _ _ _ _ _) (args_tuple_getitem _ _)))
  show wpAny _ _ (Builtin.Tuple.tupleItemsOf (.ref t) >>= _) _ _ (s)
  refine wpAny_bind (tupleItemsOf_ ht (wpAny_bind (wpAny_typeOf hTs ?_)))
  rw [if_pos (by decide)]
  refine wpAny_bind (applied_back hs ?_)
  have hno : ¬ ((((items.size : Int) - 1) == 0 && (-1 : Int) == 1 && items.size == items.size) = true) := by simp
  show wpAny _ _ (if (((items.size : Int) - 1) == 0 && (-1 : Int) == 1 && items.size == items.size) = true then _ else _) _ _ s
  rw [if_neg hno, pick_back items]
  first
    | exact wpAny_bind (m := Builtin.Tuple.tupleExact _) (wpAny_newObj_type (wpAny_pure ⟨_, rfl, wpAny_pure h⟩) fits)
    | exact wpAny_bind (m := Builtin.Tuple.tupleExact _) (wpAny_newObj_type (wpAny_bind (wpAny_pure (wpAny_pure ⟨_, rfl, wpAny_pure h⟩))) fits)
    | exact wpAny_bind (wpAny_bind (m := Builtin.Tuple.tupleExact _) (wpAny_newObj_type (wpAny_pure (wpAny_pure ⟨_, rfl, wpAny_pure h⟩)) fits))
    | exact wpAny_bind (wpAny_bind (m := Builtin.Tuple.tupleExact _) (wpAny_newObj_type (wpAny_pure ⟨_, rfl, wpAny_pure h⟩) fits))
end
section
variable {X : Cx}
def tRevT (K : PySem.W.Frag) (te : TE) : TE := fun σ H Q => te σ H fun x H1 => ∃ a xs, x = .ref a ∧ SqT K H1 a xs ∧ ∀ p, H1 p = none → Q (.ref p) (upd H1 p (.tup xs.reverse))
theorem pe_revT {e : Expr} {te : TE} {k : Nat} {p1 p2 p3 pos : Pos} (he : PE X e te) :
    PE X (.Subscript e (.Slice none none (some (.UnaryOp .USub (.Constant (.int 1) k p1) p2)) p3) pos) (tRevT X.K te) := by
  refine ⟨fun pins s σ H Q I h => ?_⟩
  refine Subscript_ (thn (he.run pins s σ H _ I h) fun v s1 ⟨x, H1, I1, r1, a, xs, ex, hx, q⟩ => ?_)
  subst ex
  cases r1
  have hst : PO X (some (.UnaryOp .USub (.Constant (.int 1) k p1) p2)) (tPart (tUn (rU fun i => .int (-i)) (tC (.int 1)))) := po_some (pe_un un_neg pe_int)
  refine wpAny_Slice (thn (po_none.run pins s1 σ H1 (fun o H2 => o = none ∧ H2 = H1) I1 ⟨rfl, rfl⟩) fun vl s2 ⟨l, H2, I2, pl, el, e2⟩ => (?_ : wpAny _ _ _ _ _ _))
  subst el e2
  refine thn (po_none.run pins s2 σ H2 (fun o H3 => o = none ∧ H3 = H2) I2 ⟨rfl, rfl⟩) fun vu s3 ⟨u, H3, I3, pu, eu, e3⟩ => (?_ : wpAny _ _ _ _ _ _)
  subst eu e3
  refine thn (hst.run pins s3 σ H3 (fun o H4 => o = some (-1) ∧ H4 = H3) I3 ⟨1, rfl, -1, rfl, rfl, rfl⟩) fun vs s4 ⟨o, H4, I4, ps, eo, e4⟩ => (?_ : wpAny _ _ _ _ _ _)
  subst eo e4
  have I5 : Inv X pins σ H4 { s4 with heap := s4.heap.push { cls := .type "slice", data := .fields #[vl, vu, vs] } } :=
    I4.kept (t' := s4.toks) fun b ob q => Heap.get?_push_of_some _ q
  obtain ⟨its, r, ht, hz⟩ := I5.tuple hx
  have hlen := r.length
  obtain ⟨tk, rfl⟩ : ∃ t, vs = Value.int (-1) t := by
    cases ps
    exact ⟨_, rfl⟩
  cases pl
  cases pu
  show wpAny (model X.prog X.w) X.A (subscriptTail e (.Slice none none (some (.UnaryOp .USub (.Constant (.int 1) k p1) p2)) p3) (.ref a) (.ref s4.heap.objs.size)) (EP X pins σ Q) X.xe
    { s4 with heap := s4.heap.push { cls := .type "slice", data := .fields #[.none, .none, .int (-1) tk] } }
  refine tail_any (ops := [.ref a, .ref s4.heap.objs.size]) ht.typeIs (PyProof.Rows.slot_tuple_getitem.lookup) (?_ : wpAny _ _ _ _ _ _) (by with_unfolding_all rfl)
  refine item_back ht (Heap.IsSliceOf.new _ .none .none (.int (-1) tk)) ?_ (by rw [List.size_toArray]; omega)
  refine ⟨.ref _, _, I5.laid (t' := s4.toks) (o := .tup xs.reverse) (fun b ob q => Heap.get?_push_of_some _ q) (Nat.le_refl _) ?_, rfl, q _ (I5.hok.fresh (Nat.le_refl _))⟩
  exact ⟨by rw [List.length_reverse]; exact hz, _, r.reverse, ⟨_, Heap.get?_push_size _ rfl, rfl, 0, rfl⟩⟩
/-- tuple(text) -/
def rTupS : List V → Hp → VK → Prop := fun xs H Q => ∃ z, xs = [.str z] ∧ z.length ≤ sizeLine ∧ ∀ l, H l = none → Q (.ref l) (upd H l (.tup (z.cps.toList.map fun c => V.str ⟨#[c]⟩)))
theorem vals_signs {z : Str} {acc : Array Value} (h : ItemsOf (SignAt z) acc z.cps.size) : Vals (z.cps.toList.map fun c => V.str ⟨#[c]⟩) acc.toList := by
  have key : ∀ (l : List Nat) (us : List Value), l.length = us.length → (∀ (j : Nat) (v : Value), us[j]? = some v → ∃ (c : Nat) (u : Tok), l[j]? = some c ∧ v = Value.str ⟨#[c]⟩ u) → Vals (l.map fun c => V.str ⟨#[c]⟩) us := by
    intro l
    induction l with
    | nil =>
      intro us hl _
      match us, hl with
      | [], _ => exact .nil
    | cons c r ih =>
      intro us hl hh
      match us, hl with
      | v :: vs, hl =>
        obtain ⟨c', u, e1, e2⟩ := hh 0 v rfl
        cases e1
        exact .cons ⟨u, e2⟩ (ih vs (by simpa using hl) fun j v' hv => hh (j + 1) v' hv)
  refine key _ _ (by rw [Array.length_toList, Array.length_toList]; exact h.1.symm) fun j v hv => ?_
  obtain ⟨c, u, e1, e2⟩ := h.2 j v (by rw [← Array.getElem?_toList]; exact hv)
  exact ⟨c, u, by rw [Array.getElem?_toList]; exact e1, e2⟩
theorem cr_tupS (hc : X.calm = true) : CallR X (.type "tuple") rTupS := by
  intro pins s σ H xs us Q I r h
  obtain ⟨z, rfl, hz, q⟩ := h
  obtain ⟨u, rfl, rx⟩ := vals1 r
  obtain ⟨t, rfl⟩ := rx
  refine call_tuple_str (I.ok.hd hc) z t (fun h' tk acc hk hi => ?_) hz
  have I1 : Inv X pins σ H { s with heap := h', toks := tk } := I.kept hk
  refine ⟨.ref _, _, I1.laid (t' := tk) (o := .tup (z.cps.toList.map fun c => V.str ⟨#[c]⟩)) (fun b o e => Heap.get?_push_of_some _ e) (Nat.le_refl _) ?_, rfl, q _ (I1.hok.fresh (Nat.le_refl _))⟩
  refine ⟨by rw [List.length_map, Array.length_toList]; exact hz, acc.toList, vals_signs hi, ⟨_, Heap.get?_push_size _ rfl, rfl, 0, by simp⟩⟩
end
end RT
namespace My
open PySem PySem.Spec PyProof.Rows L2
/-- a thing, as far as it matters: a text, another thing, a tuple -/
inductive Tr where
  | s (z : Str) | i (n : Int) | o | t (l : List Tr)
def Asc (z : Str) : Prop := ∀ c ∈ z.cps.toList, c < 128
inductive Th (H : Hp) : V → Tr → Prop where
  | str {z : Str} (hl : z.length ≤ 1000) (ha : Asc z) : Th H (.str z) (.s z)
  | non : Th H .non .o
  | bl (b : Bool) : Th H (.bl b) .o
  | int (i : Int) : Th H (.int i) (.i i)
  | lst {a : Addr} {xs : List V} (e : H a = some (.lst xs)) : Th H (.ref a) .o
  | dK {a : Addr} {kvs : List (Key × V)} (e : H a = some (.dK kvs)) : Th H (.ref a) .o
  | tup {a : Addr} {xs : List V} {ds : List Tr} (e : H a = some (.tup xs)) (hl : xs.length = ds.length) (hs : ds.length ≤ 300)
      (h : ∀ (i : Nat) v d, xs[i]? = some v → ds[i]? = some d → Th H v d) : Th H (.ref a) (.t ds)
/-- what things need to stay -/
structure KT (H H' : Hp) : Prop where
  tup : ∀ a xs, H a = some (.tup xs) → H' a = some (.tup xs)
  lst : ∀ a xs, H a = some (.lst xs) → ∃ ys, H' a = some (.lst ys)
  dK : ∀ a kvs, H a = some (.dK kvs) → ∃ ls, H' a = some (.dK ls)
theorem KT.of_same {H H' : Hp} (s : Same H H') : KT H H' := ⟨fun a xs e => s _ _ e, fun a xs e => ⟨_, s _ _ e⟩, fun a xs e => ⟨_, s _ _ e⟩⟩
theorem KT.trans {H H1 H2 : Hp} (a : KT H H1) (b : KT H1 H2) : KT H H2 :=
  ⟨fun x xs e => b.tup _ _ (a.tup _ _ e), fun x xs e => let ⟨_, e1⟩ := a.lst _ _ e; b.lst _ _ e1, fun x xs e => let ⟨_, e1⟩ := a.dK _ _ e; b.dK _ _ e1⟩
theorem Th.keep {H H' : Hp} {v : V} {d : Tr} (k : KT H H') (h : Th H v d) : Th H' v d := by
  induction h with
  | str hl ha => exact .str hl ha
  | non => exact .non
  | bl b => exact .bl b
  | int i => exact .int i
  | lst e => obtain ⟨ys, e1⟩ := k.lst _ _ e; exact .lst e1
  | dK e => obtain ⟨ys, e1⟩ := k.dK _ _ e; exact .dK e1
  | tup e hl hs _ ih => exact .tup (k.tup _ _ e) hl hs fun i v d h1 h2 => ih i v d h1 h2
/-- the tables of code objects stand -/
def AllT (Ts : List Addr) (H : Hp) : Prop := ∀ T ∈ Ts, GxR.TabG H T
/-- but for these tables all stays -/
def FrA (Ts : List Addr) (H H' : Hp) : Prop := AllT Ts H' ∧ ∀ b o, b ∉ Ts → H b = some o → H' b = some o
theorem FrA.refl {Ts : List Addr} {H : Hp} (h : AllT Ts H) : FrA Ts H H := ⟨h, fun _ _ _ e => e⟩
theorem FrA.trans {Ts : List Addr} {H H1 H2 : Hp} (a : FrA Ts H H1) (b : FrA Ts H1 H2) : FrA Ts H H2 := ⟨b.1, fun x o hx e => b.2 x o hx (a.2 x o hx e)⟩
theorem AllT.not {Ts : List Addr} {H : Hp} {b : Addr} {o : HO} (h : AllT Ts H) (e : H b = some o) (n : ∀ q, o ≠ .tbl q) : b ∉ Ts := fun z => by
  obtain ⟨ps, e2, _⟩ := h b z
  rw [e] at e2
  exact n ps (Option.some.inj e2)
theorem FrA.kt {Ts : List Addr} {H H' : Hp} (h : AllT Ts H) (f : FrA Ts H H') : KT H H' :=
  ⟨fun a xs e => f.2 _ _ (h.not e fun q z => nomatch z) e, fun a xs e => ⟨_, f.2 _ _ (h.not e fun q z => nomatch z) e⟩, fun a xs e => ⟨_, f.2 _ _ (h.not e fun q z => nomatch z) e⟩⟩
theorem FrA.of_tab {Ts : List Addr} {T : Addr} {H H' : Hp} (hT : T ∈ Ts) (h : AllT Ts H) (t : GxR.Tabbed T H H') : FrA Ts H H' := by
  refine ⟨fun T' h' => ?_, fun b o hb e => (t.2 b fun z => hb (by rw [z]; exact hT)).trans e⟩
  by_cases z : T' = T
  · rw [z]
    exact t.1
  · obtain ⟨ps, e, q⟩ := h T' h'
    exact ⟨ps, (t.2 T' z).trans e, q⟩
theorem AllT.same {Ts : List Addr} {H H' : Hp} (h : AllT Ts H) (s : Same H H') : AllT Ts H' := fun T hT => by
  obtain ⟨ps, e, q⟩ := h T hT
  exact ⟨ps, s _ _ e, q⟩
theorem FrA.of_same {Ts : List Addr} {H H' : Hp} (h : AllT Ts H) (s : Same H H') : FrA Ts H H' := ⟨h.same s, fun b o _ e => s b o e⟩
/-! what is told -/
def isW (z : Str) : Bool := inV (.str z) (W.map V.str)
def sg (c : Nat) : Bool :=
  (!decide ((⟨#[c]⟩ : Str).cps.toList < ("a" : Str).cps.toList)) && (!decide (("z" : Str).cps.toList < (⟨#[c]⟩ : Str).cps.toList))
def nameB (z : Str) : Bool :=
  decide ((1 : Int) ≤ z.length) && decide ((z.length : Int) ≤ 8) && z.cps.toList.all sg && !isW z
def nameT : Tr → Bool
  | .s z => nameB z
  | _ => false
def ltT : Tr → Tr → Bool
  | .s a, .s b => decide (a.cps.toList < b.cps.toList)
  | _, _ => false
def chainT (ds : List Tr) : Bool := (List.range (ds.length - 1)).all fun i => ltT (ds.getD i .o) (ds.getD (i + 1) .o)
def risT : Tr → Bool
  | .t ds => ds.all nameT && chainT ds
  | _ => false
def strsT : Tr → List Str
  | .t ds => ds.filterMap fun d => match d with | .s z => some z | _ => none
  | _ => []
def castT : Tr → Bool
  | .t [a, b, c] => risT a && risT b && risT c && decide (1 ≤ (strsT a).length) && decide (strsT a ++ strsT b ++ strsT c).Nodup
  | _ => false
theorem names_strs : ∀ ds : List Tr, ds.all nameT = true → ∃ zs : List Str, ds = zs.map Tr.s
  | [], _ => ⟨[], rfl⟩
  | d :: r, h => by
    rw [List.all_cons, Bool.and_eq_true] at h
    obtain ⟨zs, e⟩ := names_strs r h.2
    cases d with
    | s z => exact ⟨z :: zs, by rw [e]; rfl⟩
    | i n => cases h.1
    | o => cases h.1
    | t l => cases h.1
theorem strsT_map (zs : List Str) : strsT (.t (zs.map Tr.s)) = zs := by
  show (zs.map Tr.s).filterMap _ = zs
  induction zs with
  | nil => rfl
  | cons z r ih => simpa using ih
theorem Th.texts {H : Hp} {p : Addr} {zs : List Str} (h : Th H (.ref p) (.t (zs.map Tr.s))) : H p = some (.tup (zs.map V.str)) ∧ zs.length ≤ 300 := by
  cases h with
  | tup e hl hs hh =>
    rename_i xs
    refine ⟨?_, by simpa using hs⟩
    have : xs = zs.map V.str := by
      apply List.ext_getElem?
      intro i
      by_cases hi : i < zs.length
      · have hx : i < xs.length := by rw [hl]; simpa using hi
        have q := hh i xs[i] (.s zs[i]) (List.getElem?_eq_getElem hx) (by simp [hi])
        rw [List.getElem?_eq_getElem hx, List.getElem?_map, List.getElem?_eq_getElem hi]
        generalize xs[i] = v at q
        generalize zs[i] = z at q
        cases q
        rfl
      · have hx : ¬ i < xs.length := by rw [hl]; simpa using hi
        rw [List.getElem?_eq_none (by omega), List.getElem?_eq_none (by simpa using hi)]
    rw [← this]
    exact e
end My
namespace My
open PySem PySem.Spec PyProof.Rows L2
abbrev sIsName : Stmt := tp 3
abbrev sIsCast : Stmt := tp 5
abbrev sRising : Stmt := tp 6
abbrev sUnlike : Stmt := tp 7
theorem scIsName : FnScope ["thing"] ["thing"] (defScope sIsName) :=
  ⟨rfl, rfl, rfl, by decide +kernel, rfl, by decide +kernel, by decide +kernel⟩
theorem scIsCast : FnScope ["thing", "part"] ["thing"] (defScope sIsCast) :=
  ⟨rfl, rfl, rfl, by decide +kernel, rfl, by decide +kernel, by decide +kernel⟩
theorem scRising : FnScope ["thing", "name", "one", "other"] ["thing"] (defScope sRising) :=
  ⟨rfl, rfl, rfl, by decide +kernel, rfl, by decide +kernel, by decide +kernel⟩
theorem scUnlike : FnScope ["names"] ["names"] (defScope sUnlike) :=
  ⟨rfl, rfl, rfl, by decide +kernel, rfl, by decide +kernel, by decide +kernel⟩
theorem flatW : (W.map V.str).all flatV = true := flat_strs W
theorem kstr {K : PySem.W.Frag} : PySem.W.kitOne K (.type "str") (.type "str") = some true := kit_ty (by decide +kernel)
/-- of what kind a thing is -/
theorem Th.isStr {K : PySem.W.Frag} {H : Hp} {v : V} {d : Tr} (h : Th H v d) :
    (∃ z, v = .str z ∧ d = .s z ∧ z.length ≤ 1000 ∧ Asc z) ∨ (nameT d = false ∧ ∃ t, TyX K H v t ∧ PySem.W.kitOne K t (.type "str") = some false) := by
  cases h with
  | str hl ha => exact .inl ⟨_, rfl, rfl, hl, ha⟩
  | non => exact .inr ⟨rfl, _, .base .non, kit_ty (by decide +kernel)⟩
  | bl b => exact .inr ⟨rfl, _, .base (.bl b), kit_ty (by decide +kernel)⟩
  | int i => exact .inr ⟨rfl, _, .base (.int i), kit_ty (by decide +kernel)⟩
  | lst e => exact .inr ⟨rfl, _, .base (.lst e), kit_ty (by decide +kernel)⟩
  | dK e => exact .inr ⟨rfl, _, .base (.dK e), kit_ty (by decide +kernel)⟩
  | tup e _ _ _ => exact .inr ⟨rfl, _, .base (.tup e), kit_ty (by decide +kernel)⟩
def isTup : Tr → Bool
  | .t _ => true
  | _ => false
theorem Th.isTup {K : PySem.W.Frag} {H : Hp} {v : V} {d : Tr} (h : Th H v d) :
    ∃ t, TyX K H v t ∧ PySem.W.kitOne K t (.type "tuple") = some (isTup d) := by
  cases h with
  | str hl ha => exact ⟨_, .base (.str _), kit_ty (show kitB "str" "tuple" = some false by decide +kernel)⟩
  | non => exact ⟨_, .base .non, kit_ty (by decide +kernel)⟩
  | bl b => exact ⟨_, .base (.bl b), kit_ty (by decide +kernel)⟩
  | int i => exact ⟨_, .base (.int i), kit_ty (show kitB "int" "tuple" = some false by decide +kernel)⟩
  | lst e => exact ⟨_, .base (.lst e), kit_ty (by decide +kernel)⟩
  | dK e => exact ⟨_, .base (.dK e), kit_ty (by decide +kernel)⟩
  | tup e _ _ _ => exact ⟨_, .base (.tup e), kit_ty (show kitB "tuple" "tuple" = some true by decide +kernel)⟩
theorem elt_sign {prog : Program} {w : World} {scope : Scope} {x : Str} {j j2 : Nat} {p1 p2 p3 p4 : Pos} (hk : scope.kind = .function)
    (hl : scope.names.lookup x = some .local) (hd : (x == ("__debug__" : Str)) = false := by decide) :
    GxR.EltP prog w scope x (.Compare (.Constant (.str "a") j p1) [.LtE, .LtE] [.Name x p2, .Constant (.str "z") j2 p3] p4) sg := by
  intro cenv A' E' c t s₂ m₂ hs hn hm
  refine Compare_chain (Calls.Constant_str (chain_link ?_)) (by with_unfolding_all rfl)
  refine wpAny_Name (wpAny_loadName_local (by rw [hs]; exact hk) (show cenv.scope.names.lookup x = some .local by rw [hs]; exact hl) hn hm ?_) hd
  refine PySem.P.le_str (wpAny_truthy_bool ?_)
  cases ha : (!decide ((⟨#[c]⟩ : Str).cps.toList < ("a" : Str).cps.toList)) with
  | false => exact ite_ff ⟨by unfold sg; rw [ha]; rfl, GxR.keeps_tok _ _⟩
  | true =>
    refine ite_tt (chain_last (Calls.Constant_str (PySem.P.le_str ⟨?_, GxR.keeps_tok _ _⟩)))
    unfold sg
    rw [ha]
    rfl
theorem nf2 : ∀ y ∈ [((".0" : Str), NameKind.local), (("sign" : Str), NameKind.local)], y.2 ≠ NameKind.free := by decide +kernel
section
variable {P : Program} {w : World} {K : PySem.W.Frag} {mg : Str → Option Value} {base : Heap} {Ts : List Addr}
def spIsName (Ts : List Addr) : Sp := fun vs H Q _ => ∃ (v : V) (d : Tr), vs = [v] ∧ Th H v d ∧ AllT Ts H ∧
  ∀ H', FrA Ts H H' → Q (.bl (nameT d)) H'
theorem ok_isName {f c T tw : Addr} {oc kV doc pm ct : Value} {od an : Option Addr} {osl : Array (Option Value)} {k : Nat} {lt : Tok} (hTs : T ∈ Ts)
    (lk : K.lookup f = some ⟨oc, od, .func (PySem.W.fnOf "is_name" "is_name" (defArgs sIsName) (defBody sIsName) (defScope sIsName) .none kV doc pm an (.ref c) ct), osl⟩)
    (hcd : PySem.W.codeIn K (.ref c) "is_name" = true) (TB : GxR.TabB base mg c T)
    (gL : mg "LONGEST_NAME" = some (.int 8 lt)) (gT : mg "WORDS" = some (.ref tw)) (hT : ∀ H, SqT K H tw (W.map V.str))
    (mi : mg "isinstance" = none) (ms : mg "str" = none) (ml : mg "len" = none) (ma : mg "all" = none) :
    FnOk P w K mg base CX0 (k + 1) f (PySem.W.fnOf "is_name" "is_name" (defArgs sIsName) (defBody sIsName) (defScope sIsName) .none kV doc pm an (.ref c) ct) ["thing"] (spIsName Ts) := by
  refine fn_of lk hcd scIsName (fun vs H Q E h => ?_) (fun A outer s H vs Q E hr h => ?_)
  · obtain ⟨n, d, rfl, _⟩ := h
    rfl
  · obtain ⟨v, d, rfl, hv, hG, q⟩ := h
    refine ⟨_, pss_one (ps_ret (pe_and (pe_callB call_isi (by rfl) mi (by decide +kernel)
          (pa_cons (pv 0) (pa_cons (pe_bltn (v := .ty "str") (by rfl) ms (by decide +kernel) rfl) pa_nil)))
        (pe_and (pe_chain op_le op_le pe_int (pe_callB call_len_str (by rfl) ml PySem.boot_len (pa_cons (pv 0) pa_nil)) (pe_glob (v := .int 8) (by rfl) gL ⟨_, rfl⟩))
        (pe_and (GxR.pe_allS (c := c) (P := T) hr (by rfl) ma (by decide +kernel) TB rfl ⟨rfl, rfl, by decide +kernel, rfl, rfl, fun y hy e => absurd e (nf2 y hy)⟩ (pv 0) (elt_sign rfl rfl) (fun _ => rfl))
        (pe_one (pe_cmpR op_notIn_seq (pv 0) (pe_glob (v := .ref tw) (by rfl) gT rfl) (by rfl))))))), ?_⟩
    rcases hv.isStr (K := K) with ⟨z, rfl, rfl, hz, _⟩ | ⟨hn, t, ht, hk⟩
    · refine ⟨.str z, rfl, .str z, .ty "str", _, _, true, rfl, .ty _, .base (.str z), kstr, true, rfl, ?_⟩
      have no : nameB z = false → Q (.bl false) H := fun e => by
        have e2 := q H (.refl hG)
        rw [show nameT (.s z) = false from e] at e2
        exact e2
      refine ⟨.str z, rfl, z, rfl, small hz, 1, z.length, rfl, rfl, _, rfl, ?_⟩
      refine ite2 (fun h1 => ?_) (fun h1 => ?_)
      · refine ⟨z.length, 8, rfl, rfl, _, rfl, ?_⟩
        by_cases h2 : (z.length : Int) ≤ 8
        · rw [decide_eq_true h2]
          refine ⟨.str z, rfl, z, rfl, hG T hTs, fun H2 hT2 => ⟨_, rfl, ?_⟩⟩
          have e2 := q H2 (.of_tab hTs hG hT2)
          rw [show nameT (.s z) = (z.cps.toList.all sg && !isW z) by
            show nameB z = _
            unfold nameB
            rw [h1, decide_eq_true h2]
            rfl] at e2
          cases h3 : z.cps.toList.all sg with
          | false =>
            rw [h3] at e2
            exact e2
          | true =>
            rw [h3] at e2
            exact ⟨.str z, rfl, tw, W.map V.str, rfl, .inr (hT H2), rfl, flatW, e2⟩
        · rw [decide_eq_false h2]
          exact no (by unfold nameB; rw [decide_eq_false h2, Bool.and_false]; rfl)
      · refine ⟨false, rfl, no (by unfold nameB; rw [show decide ((1 : Int) ≤ z.length) = false from Bool.eq_false_iff.mpr h1]; rfl)⟩
    · refine ⟨v, rfl, v, .ty "str", t, _, false, rfl, .ty _, ht, hk, false, rfl, ?_⟩
      have e := q H (.refl hG)
      rw [hn] at e
      exact e

def spUnlike (K : PySem.W.Frag) : Sp := fun vs H Q _ => ∃ (a : Addr) (zs : List Str), vs = [.ref a] ∧ SqT K H a (zs.map V.str) ∧ zs.length ≤ 1000 ∧
  Q (.bl (decide zs.Nodup)) H
theorem ok_unlike {f : Addr} {fd : FuncData} {k : Nat} (F : Fun K "are_unlike" "are_unlike" sUnlike f fd) (ml : mg "len" = none) (ms : mg "set" = none) :
    FnOk P w K mg base CX0 (k + 1) f fd ["names"] (spUnlike K) := by
  refine F.ok scUnlike (fun vs H Q E h => ?_) (fun cdv A outer s H vs Q E hr h => ?_)
  · obtain ⟨a, zs, rfl, _⟩ := h
    rfl
  · obtain ⟨a, zs, rfl, hS, hl, q⟩ := h
    refine ⟨_, pss_one (ps_ret (pe_cmpR op_eq (GS.pe_lenSetT rfl (by rfl) ml (by rfl) ms (pv 0)) (pe_callB call_len_seq (by rfl) ml PySem.boot_len (pa_cons (pv 0) pa_nil)) (nomark _))), ?_⟩
    refine ⟨.ref a, rfl, a, zs, rfl, hS, hl, .ref a, rfl, a, _, rfl, .inr hS, rfl, ?_⟩
    have e : decide (V.int ((GS.met zs zs.length : Nat) : Int) = V.int ((zs.map V.str).length : Nat)) = decide zs.Nodup := by
      rw [List.length_map]
      have h := GS.met_all zs zs.length (Nat.le_refl _)
      rw [List.take_length] at h
      by_cases z : zs.Nodup
      · rw [decide_eq_true z, h.mpr z]
        exact decide_eq_true rfl
      · rw [decide_eq_false z]
        refine decide_eq_false fun y => z (h.mp ?_)
        have := V.int.inj y
        omega
    rw [e]
    exact q
end
end My
namespace My
open PySem PySem.Spec PyProof.Rows L2
theorem Th.tups {H : Hp} {v : V} {d : Tr} (h : Th H v d) (ht : My.isTup d = true) :
    ∃ a xs ds, v = .ref a ∧ d = .t ds ∧ H a = some (.tup xs) ∧ xs.length = ds.length ∧ ds.length ≤ 300 ∧ ∀ (i : Nat) v d, xs[i]? = some v → ds[i]? = some d → Th H v d := by
  cases h with
  | tup e hl hs hh => exact ⟨_, _, _, rfl, rfl, e, hl, hs, hh⟩
  | _ => cases ht
theorem take_all {α : Type} {p : α → Bool} {l : List α} {i : Nat} {d : α} (h : l[i]? = some d) : (l.take (i + 1)).all p = ((l.take i).all p && p d) := by
  rw [List.take_add_one, h, List.all_append]
  simp
/-- a tuple's items are told -/
theorem sqT_inj {K : PySem.W.Frag} {H : Hp} {a : Addr} {xs : List V} (hK : K.lookup a = none) (h : H a = some (.tup xs)) {ys : List V} (h2 : SqT K H a ys) : ys = xs := by
  rcases h2 with (h2 | ⟨o, h2⟩) | ⟨o, its, n, e, _⟩
  · rw [h] at h2
    exact (HO.tup.inj (Option.some.inj h2)).symm
  · rw [h] at h2
    cases h2
  · rw [hK] at e
    cases e
/-- each text below the next one -/
def upB (zs : List Str) (i : Nat) : Bool := (List.range i).all fun j => decide ((zs.getD j Str.empty).cps.toList < (zs.getD (j + 1) Str.empty).cps.toList)
theorem upB_succ (zs : List Str) (i : Nat) : upB zs (i + 1) = (upB zs i && decide ((zs.getD i Str.empty).cps.toList < (zs.getD (i + 1) Str.empty).cps.toList)) := by
  unfold upB
  rw [List.range_succ, List.all_append]
  simp
theorem all_congr_mem {α : Type} {p q : α → Bool} : ∀ {l : List α}, (∀ x ∈ l, p x = q x) → l.all p = l.all q
  | [], _ => rfl
  | x :: r, h => by
    rw [List.all_cons, List.all_cons, h x List.mem_cons_self, all_congr_mem fun y hy => h y (List.mem_cons_of_mem _ hy)]
theorem chain_up (zs : List Str) : chainT (zs.map Tr.s) = upB zs (zs.length - 1) := by
  unfold chainT upB
  rw [List.length_map]
  refine all_congr_mem fun i hi => ?_
  have hi := List.mem_range.mp hi
  have h1 : i < zs.length := by omega
  have h2 : i + 1 < zs.length := by omega
  have e1 : (zs.map Tr.s).getD i .o = .s zs[i] := by simp [List.getD, h1]
  have e2 : (zs.map Tr.s).getD (i + 1) .o = .s zs[i + 1] := by simp [List.getD, h2]
  have e3 : zs.getD i Str.empty = zs[i] := by simp [List.getD, h1]
  have e4 : zs.getD (i + 1) Str.empty = zs[i + 1] := by simp [List.getD, h2]
  rw [e1, e2, e3, e4]
  rfl
theorem all_cut {zs : List Str} : ∀ {i n : Nat}, i ≤ n → upB zs i = false → upB zs n = false := fun {i n} hin h => by
  induction n with
  | zero =>
    have : i = 0 := by omega
    subst this
    exact h
  | succ n ih =>
    by_cases e : i = n + 1
    · subst e
      exact h
    · rw [upB_succ, ih (by omega)]
      rfl
theorem zip_part {K : PySem.W.Frag} {Ts : List Addr} {T a b : Addr} {zs : List Str} {Hm : Hp} {Qq : VK} {v0 y1 y2 y3 : Option V} (hTs : T ∈ Ts) (hG : AllT Ts Hm)
    (ea : Hm a = some (.tup (zs.map V.str))) (eb : Hm b = some (.tup ((zs.drop 1).map V.str))) (q : ∀ H', FrA Ts Hm H' → Qq (.bl (upB zs (zs.length - 1))) H') :
    GxR.TabG Hm T ∧ ∀ H2, GxR.Tabbed T Hm H2 → ∃ (N : Nat) (W : Nat → Hp → Prop), W 0 H2 ∧ (∀ Hn, W N Hn → (RZ.ItzT K a b).stop N Hn ∧ Qq (.bl true) Hn) ∧
      GX.Turns [v0, y1, y2, y3] [2, 3] (gTup K 2 (gCons (gName 2) (gCons (gName 3) gNil)))
        (tOp (fun x y H Q => ∃ i j, x = .str i ∧ y = .str j ∧ Q (.bl (decide (i.cps.toList < j.cps.toList))) H) (tVar 2) (tVar 3)) (RZ.ItzT K a b) N
        (fun i y Hy => ∃ b, y = .bl b ∧ if b = true then W (i + 1) Hy else Qq (.bl false) Hy) W := by
  have nt : ∀ {x : List V}, ∀ q, HO.tup x ≠ .tbl q := fun q z => nomatch z
  have na := hG.not ea nt
  have nb := hG.not eb nt
  refine ⟨hG T hTs, fun H2 hT2 => ⟨zs.length - 1, fun i Hc => FrA Ts Hm Hc ∧ upB zs i = true, ⟨.of_tab hTs hG hT2, rfl⟩, fun Hn wn => ⟨?_, ?_⟩, fun i Hc hi wi => ⟨?_, fun x H' hy => ?_⟩⟩⟩
  · refine ⟨_, _, SqT.of (wn.1.2 _ _ na ea), SqT.of (wn.1.2 _ _ nb eb), .inr ?_⟩
    rw [List.length_map, List.length_drop]
    exact Nat.le_refl _
  · have e := q Hn wn.1
    rw [wn.2] at e
    exact e
  · have h1 : i < zs.length := by omega
    have h2 : i + 1 < zs.length := by omega
    refine ⟨_, _, .str zs[i], .str zs[i + 1], SqT.of (wi.1.2 _ _ na ea), SqT.of (wi.1.2 _ _ nb eb), by simp [h1], ?_⟩
    rw [List.getElem?_map, List.getElem?_drop, Nat.add_comm 1 i, List.getElem?_eq_getElem h2]
    rfl
  · have h1 : i < zs.length := by omega
    have h2 : i + 1 < zs.length := by omega
    obtain ⟨T2, x1, x2, rfl, nT, rfl, f1, f2⟩ := hy
    have ex1 : x1 = .str zs[i] := by
      have z := f1 _ (SqT.of (wi.1.2 _ _ na ea))
      rw [List.getElem?_map, List.getElem?_eq_getElem h1] at z
      exact (Option.some.inj z).symm
    have ex2 : x2 = .str zs[i + 1] := by
      have z := f2 _ (SqT.of (wi.1.2 _ _ nb eb))
      rw [List.getElem?_map, List.getElem?_drop, Nat.add_comm 1 i, List.getElem?_eq_getElem h2] at z
      exact (Option.some.inj z).symm
    subst ex1
    subst ex2
    refine ⟨T2, _, rfl, SqT.of upd_same, rfl, .str zs[i], _, rfl, .str zs[i + 1], _, rfl, rfl, rfl, ?_⟩
    have fr3 : FrA Ts Hm (upd Hc T2 (.tup [.str zs[i], .str zs[i + 1]])) := wi.1.trans (.of_same wi.1.1 (same_new nT))
    have e3 : zs.getD i Str.empty = zs[i] := by simp [List.getD, h1]
    have e4 : zs.getD (i + 1) Str.empty = zs[i + 1] := by simp [List.getD, h2]
    have us := upB_succ zs i
    rw [e3, e4, wi.2, Bool.true_and] at us
    refine ⟨.str zs[i], rfl, .str zs[i + 1], rfl, zs[i], zs[i + 1], rfl, rfl, _, rfl, ?_⟩
    cases hd : decide (zs[i].cps.toList < zs[i + 1].cps.toList) with
    | true => exact ⟨fr3, us.trans hd⟩
    | false =>
      have e := q _ fr3
      rw [all_cut (i := i + 1) (by omega) (us.trans hd)] at e
      exact e
section
variable {P : Program} {w : World} {K : PySem.W.Frag} {mg : Str → Option Value} {base : Heap} {Ts : List Addr}
def spRising (Ts : List Addr) : Sp := fun vs H Q _ => ∃ (v : V) (d : Tr), vs = [v] ∧ Th H v d ∧ AllT Ts H ∧
  ∀ H', FrA Ts H H' → Q (.bl (risT d)) H'
theorem ok_rising {f c T fI : Addr} {fdI : FuncData} {oc kV doc pm ct : Value} {od an : Option Addr} {osl : Array (Option Value)} {k : Nat} (hTs : T ∈ Ts)
    (lk : K.lookup f = some ⟨oc, od, .func (PySem.W.fnOf "are_rising_names" "are_rising_names" (defArgs sRising) (defBody sRising) (defScope sRising) .none kV doc pm an (.ref c) ct), osl⟩)
    (hcd : PySem.W.codeIn K (.ref c) "are_rising_names" = true) (TB : GxR.TabB base mg c T)
    (GI : FnOk P w K mg base CX0 1 fI fdI ["thing"] (spIsName Ts)) (kI : PySem.W.keepIn K (.ref fI) = true) (bI : Binds K fdI ["thing"] []) (gI : mg "is_name" = some (.ref fI))
    (mi : mg "isinstance" = none) (mt : mg "tuple" = none) (ma : mg "all" = none) (mz : mg "zip" = none) :
    FnOk P w K mg base CX0 (k + 3) f (PySem.W.fnOf "are_rising_names" "are_rising_names" (defArgs sRising) (defBody sRising) (defScope sRising) .none kV doc pm an (.ref c) ct) ["thing"] (spRising Ts) := by
  refine fn_of lk hcd scRising (fun vs H Q E h => ?_) (fun A outer s H vs Q E hr h => ?_)
  · obtain ⟨n, d, rfl, _⟩ := h
    rfl
  · obtain ⟨v, d, rfl, hv, hG, q⟩ := h
    have hr2 := hr.mono (show 2 ≤ k + 2 by omega)
    refine ⟨_, pss_one (ps_ret (pe_and (pe_callB call_isi (by rfl) mi (by decide +kernel)
          (pa_cons (pv 0) (pa_cons (pe_bltn (v := .ty "tuple") (by rfl) mt (by decide +kernel) rfl) pa_nil)))
        (pe_and (GX.pe_allG (c := c) (T := T) (own := [("name", 1)]) (wi := iTup K (tVar 0)) (g := gName 1) (te := tCall (spIsName Ts) [] E0 (tCons (tVar 1) tNil)) hr2 (by rfl) ma TB rfl rfl scRising.nd (pi_tup (pv 0))
            (blkOk_by (own := [("name", 1)]) (N := ["thing", "name", "one", "other"]) (sc := defScope sRising) (by decide +kernel)) (by decide +kernel) rfl
            (fun _ _ _ _ _ => pg_name (i := 1) scRising.nd rfl (Or.inl rfl))
            (fun _ _ _ _ _ => pe_call GI (GX.room_gen hr2) (by rfl) gI kI bI .nil pass0 (pa_cons (pv 1) pa_nil)))
        (pe_one (GX.pe_allG (c := c) (T := T) (own := [("one", 2), ("other", 3)]) (wi := RZ.iZipA K (tCons (tVar 0) (tCons (tSl (rSlA K) (tVar 0) (tPart (tC (.int 1))) tNoPart) tNil))) (g := gTup K 2 (gCons (gName 2) (gCons (gName 3) gNil)))
            (te := tOp (fun x y H Q => ∃ i j, x = .str i ∧ y = .str j ∧ Q (.bl (decide (i.cps.toList < j.cps.toList))) H) (tVar 2) (tVar 3)) hr2 (by rfl) ma TB rfl rfl scRising.nd
            (RZ.pi_zipA (by rfl) mz (pa_cons (pv 0) (pa_cons (pe_slice sl_tupA (pv 0) (po_some pe_int) po_none) pa_nil)))
            (blkOk_by (own := [("one", 2), ("other", 3)]) (N := ["thing", "name", "one", "other"]) (sc := defScope sRising) (by decide +kernel)) (by decide +kernel) rfl
            (fun _ _ _ _ _ => pg_tup rfl (pgs_cons (pg_name (i := 2) scRising.nd rfl (.inl rfl)) (pgs_cons (pg_name (i := 3) scRising.nd rfl (.inl rfl)) pgs_nil)))
            (fun _ _ _ _ _ => pe_cmpR op_lt_str (pv 2) (pv 3) (nomark _))))))), ?_⟩
    obtain ⟨t, ht, hk⟩ := hv.isTup (K := K)
    refine ⟨v, rfl, v, .ty "tuple", t, _, My.isTup d, rfl, .ty _, ht, hk, _, rfl, ?_⟩
    cases hd : My.isTup d with
    | false =>
      have e := q H (.refl hG)
      have hris : risT d = false := by
        cases d with
        | t l => cases hd
        | _ => rfl
      rw [hris] at e
      exact e
    | true =>
      obtain ⟨a, xs, ds, rfl, rfl, ea, hl, hs, hh⟩ := hv.tups hd
      have na := hG.not ea fun q z => nomatch z
      refine ⟨.ref a, rfl, a, rfl, ⟨_, SqT.of ea⟩, hG T hTs, fun H2 hT2 => ?_⟩
      refine ⟨ds.length, fun i Hc => FrA Ts H Hc ∧ (ds.take i).all nameT = true, ⟨.of_tab hTs hG hT2, rfl⟩, fun Hn wn => ⟨⟨_, SqT.of (wn.1.2 _ _ na ea), by omega⟩, true, rfl, ?_⟩, fun i Hc hi wi => ⟨?_, fun x H' hy => ?_⟩⟩
      · -- the second one
        have hall := wn.2
        rw [List.take_length] at hall
        obtain ⟨zs, rfl⟩ := names_strs ds hall
        have eTx := (hv.keep (wn.1.kt hG)).texts
        have fin : ∀ H', FrA Ts Hn H' → Q (.bl (upB zs (zs.length - 1))) H' := fun H' f => by
          have e := q H' (wn.1.trans f)
          rw [show risT (.t (zs.map Tr.s)) = upB zs (zs.length - 1) by
            show ((zs.map Tr.s).all nameT && chainT (zs.map Tr.s)) = _
            rw [hall, chain_up]
            rfl] at e
          exact e
        refine ⟨.ref a, rfl, .ref a, rfl, 1, rfl, a, _, rfl, SqT.of eTx.1, fun whole => ?_, fun part p np => ?_⟩
        · have z0 : zs = [] := by
            have w1 := whole.1
            have q1 : HT.sIx (zs.map V.str).length 0 (some 1) = min 1 (zs.map V.str).length := HT.sIx_nat (zs.map V.str).length 0 1
            rw [q1, List.length_map] at w1
            cases zs with
            | nil => rfl
            | cons y r =>
              simp at w1
          subst z0
          exact ⟨a, a, _, _, rfl, .inr ⟨SqT.of eTx.1, SqT.of eTx.1, zip_part hTs wn.1.1 eTx.1 eTx.1 fin⟩⟩
        · have ec : cutV (zs.map V.str) (some 1) none = (zs.drop 1).map V.str := by
            by_cases z0 : zs = []
            · subst z0
              rfl
            · have hl1 : 1 ≤ zs.length := by
                cases zs with
                | nil => exact absurd rfl z0
                | cons y r => simp
              exact cutV_from zs (i := 1) hl1
          rw [ec]
          have sN := same_new (o := .tup ((zs.drop 1).map V.str)) np
          have ea2 := sN _ _ eTx.1
          refine ⟨a, p, _, _, rfl, .inr ⟨SqT.of ea2, SqT.of upd_same, zip_part hTs (wn.1.1.same sN) ea2 upd_same fun H' f => fin H' ?_⟩⟩
          exact (FrA.of_same wn.1.1 sN).trans f
      · have hx : i < xs.length := by omega
        exact ⟨_, xs[i], SqT.of (wi.1.2 _ _ na ea), List.getElem?_eq_getElem hx⟩
      · obtain ⟨rfl, hx⟩ := hy
        have hx := hx _ (SqT.of (wi.1.2 _ _ na ea))
        have hdi : ds[i]? = some ds[i] := List.getElem?_eq_getElem hi
        refine ⟨rfl, ?_⟩
        refine ⟨x, rfl, x, ds[i], rfl, (hh i x ds[i] hx hdi).keep (wi.1.kt hG), wi.1.1, fun H3 fr3 => ⟨nameT ds[i], rfl, ?_⟩⟩
        have ta := take_all (p := nameT) hdi
        rw [wi.2, Bool.true_and] at ta
        cases hn : nameT ds[i] with
        | true => exact ⟨wi.1.trans fr3, ta.trans hn⟩
        | false =>
          refine ⟨false, rfl, ?_⟩
          have e := q H3 (wi.1.trans fr3)
          have hno : ds.all nameT = false := by
            rw [Bool.eq_false_iff]
            intro z
            rw [List.all_eq_true.mp z ds[i] (List.getElem_mem hi)] at hn
            cases hn
          rw [show risT (.t ds) = false by
            show (ds.all nameT && chainT ds) = false
            rw [hno]
            rfl] at e
          exact e
end
end My
namespace My
open PySem PySem.Spec PyProof.Rows L2
/-- one tuple behind another -/
theorem cat_ok {K : PySem.W.Frag} {H : Hp} {a b : Addr} {xs ys : List Str} {Q : VK} (ha : SqT K H a (xs.map V.str)) (hb : SqT K H b (ys.map V.str)) (hl : xs.length + ys.length ≤ 1000)
    (q : ∀ p H', Same H H' → SqT K H' p ((xs ++ ys).map V.str) → Q (.ref p) H') : rCatA K (.ref a) (.ref b) H Q := by
  refine ⟨a, b, _, _, rfl, rfl, ha, hb, by rw [List.length_map, List.length_map]; exact small hl, fun e => ?_, fun _ e => ?_, fun _ _ p np => ?_⟩
  · have : xs = [] := List.map_eq_nil_iff.mp e
    subst this
    exact q b H (Same.refl H) hb
  · have : ys = [] := List.map_eq_nil_iff.mp e
    subst this
    exact q a H (Same.refl H) (by rw [List.append_nil]; exact ha)
  · refine q p _ (same_new np) (SqT.of ?_)
    rw [upd_same, List.map_append]
theorem ris_strs {d : Tr} (h : risT d = true) : ∃ zs : List Str, d = .t (zs.map Tr.s) := by
  cases d with
  | t ds =>
    have h' : (ds.all nameT && chainT ds) = true := h
    rw [Bool.and_eq_true] at h'
    obtain ⟨zs, rfl⟩ := names_strs ds h'.1
    exact ⟨zs, rfl⟩
  | _ => cases h
theorem Th.ref {H : Hp} {v : V} {l : List Tr} (h : Th H v (.t l)) : ∃ p, v = .ref p := by
  cases h with
  | tup e _ _ _ => exact ⟨_, rfl⟩
theorem SqT.same {K : PySem.W.Frag} {H H' : Hp} {a : Addr} {xs : List V} (h : SqT K H a xs) (s : Same H H') : SqT K H' a xs := by
  rcases h with (h | ⟨o, h⟩) | h
  · exact .inl (.inl (s _ _ h))
  · exact .inl (.inr ⟨o, s _ _ h⟩)
  · exact .inr h
section
variable {P : Program} {w : World} {K : PySem.W.Frag} {mg : Str → Option Value} {base : Heap} {Ts : List Addr}
def spIsCast (Ts : List Addr) : Sp := fun vs H Q _ => ∃ (v : V) (d : Tr), vs = [v] ∧ Th H v d ∧ AllT Ts H ∧
  ∀ H', FrA Ts H H' → Q (.bl (castT d)) H'
theorem ok_isCast {f c T fR fU : Addr} {fdR fdU : FuncData} {oc kV doc pm ct : Value} {od an : Option Addr} {osl : Array (Option Value)} (hTs : T ∈ Ts)
    (lk : K.lookup f = some ⟨oc, od, .func (PySem.W.fnOf "is_cast" "is_cast" (defArgs sIsCast) (defBody sIsCast) (defScope sIsCast) .none kV doc pm an (.ref c) ct), osl⟩)
    (hcd : PySem.W.codeIn K (.ref c) "is_cast" = true) (TB : GxR.TabB base mg c T)
    (GR : FnOk P w K mg base CX0 3 fR fdR ["thing"] (spRising Ts)) (kR : PySem.W.keepIn K (.ref fR) = true) (bR : Binds K fdR ["thing"] []) (gR : mg "are_rising_names" = some (.ref fR))
    (GU : FnOk P w K mg base CX0 1 fU fdU ["names"] (spUnlike K)) (kU : PySem.W.keepIn K (.ref fU) = true) (bU : Binds K fdU ["names"] []) (gU : mg "are_unlike" = some (.ref fU))
    (mi : mg "isinstance" = none) (mt : mg "tuple" = none) (ma : mg "all" = none) (ml : mg "len" = none) :
    FnOk P w K mg base CX0 5 f (PySem.W.fnOf "is_cast" "is_cast" (defArgs sIsCast) (defBody sIsCast) (defScope sIsCast) .none kV doc pm an (.ref c) ct) ["thing"] (spIsCast Ts) := by
  refine fn_of lk hcd scIsCast (fun vs H Q E h => ?_) (fun A outer s H vs Q E hr h => ?_)
  · obtain ⟨n, d, rfl, _⟩ := h
    rfl
  · obtain ⟨v, d, rfl, hv, hG, q⟩ := h
    refine ⟨_, pss_one (ps_ret (pe_and (pe_callB call_isi (by rfl) mi (by decide +kernel)
          (pa_cons (pv 0) (pa_cons (pe_bltn (v := .ty "tuple") (by rfl) mt (by decide +kernel) rfl) pa_nil)))
        (pe_and (pe_cmpR op_eq (pe_callB call_len_seq (by rfl) ml PySem.boot_len (pa_cons (pv 0) pa_nil)) pe_int (nomark _))
        (pe_and (GX.pe_allG (c := c) (T := T) (own := [("part", 1)]) (wi := iTup K (tVar 0)) (g := gName 1) (te := tCall (spRising Ts) [] E0 (tCons (tVar 1) tNil)) hr (by rfl) ma TB rfl rfl scIsCast.nd (pi_tup (pv 0))
            (blkOk_by (own := [("part", 1)]) (N := ["thing", "part"]) (sc := defScope sIsCast) (by decide +kernel)) (by decide +kernel) rfl
            (fun _ _ _ _ _ => pg_name (i := 1) scIsCast.nd rfl (Or.inl rfl))
            (fun _ _ _ _ _ => pe_call GR (GX.room_gen hr) (by rfl) gR kR bR .nil pass0 (pa_cons (pv 1) pa_nil)))
        (pe_and (pe_cmpR op_ge (pe_callB call_len_seq (by rfl) ml PySem.boot_len (pa_cons (pe_ix ix_tup (pv 0) pe_int (fun _ _ => rfl)) pa_nil)) pe_int (nomark _))
        (pe_one (pe_call GU (hr.mono (by decide)) (by rfl) gU kU bU .nil pass0 (pa_cons (pe_op op_catA (pe_op op_catA (pe_ix ix_tup (pv 0) pe_int (fun _ _ => rfl)) (pe_ix ix_tup (pv 0) pe_int (fun _ _ => rfl)))
          (pe_ix ix_tup (pv 0) pe_int (fun _ _ => rfl))) pa_nil)))))))), ?_⟩
    obtain ⟨t, ht, hk⟩ := hv.isTup (K := K)
    refine ⟨v, rfl, v, .ty "tuple", t, _, My.isTup d, rfl, .ty _, ht, hk, _, rfl, ?_⟩
    cases hd : My.isTup d with
    | false =>
      have e := q H (.refl hG)
      have hc : castT d = false := by
        cases d with
        | t l => cases hd
        | _ => rfl
      rw [hc] at e
      exact e
    | true =>
      obtain ⟨a, xs, ds, rfl, rfl, ea, hl, hs, hh⟩ := hv.tups hd
      have na := hG.not ea fun q z => nomatch z
      refine ⟨.ref a, rfl, a, xs, rfl, .inr (SqT.of ea), rfl, _, rfl, ?_⟩
      by_cases h3 : xs.length = 3
      · obtain ⟨d0, d1, d2, rfl⟩ : ∃ d0 d1 d2, ds = [d0, d1, d2] := by
          rw [hl] at h3
          match ds, h3 with
          | [d0, d1, d2], _ => exact ⟨d0, d1, d2, rfl⟩
        obtain ⟨x0, x1, x2, rfl⟩ : ∃ x0 x1 x2, xs = [x0, x1, x2] := by
          match xs, h3 with
          | [x0, x1, x2], _ => exact ⟨x0, x1, x2, rfl⟩
        refine iteT ?_
        refine ⟨.ref a, rfl, a, rfl, ⟨_, SqT.of ea⟩, hG T hTs, fun H2 hT2 => ?_⟩
        refine ⟨3, fun i Hc => FrA Ts H Hc ∧ ([d0, d1, d2].take i).all risT = true, ⟨.of_tab hTs hG hT2, rfl⟩, fun Hn wn => ⟨⟨_, SqT.of (wn.1.2 _ _ na ea), Nat.le_refl 3⟩, true, rfl, ?_⟩, fun i Hc hi wi => ⟨?_, fun x H' hy => ?_⟩⟩
        · have hall : (risT d0 && (risT d1 && (risT d2 && true))) = true := wn.2
          rw [Bool.and_true, Bool.and_eq_true, Bool.and_eq_true] at hall
          obtain ⟨r0, r1, r2⟩ := hall
          obtain ⟨z0, rfl⟩ := ris_strs r0
          obtain ⟨z1, rfl⟩ := ris_strs r1
          obtain ⟨z2, rfl⟩ := ris_strs r2
          have kt := wn.1.kt hG
          obtain ⟨p0, rfl⟩ := (hh 0 _ _ rfl rfl).ref
          obtain ⟨p1, rfl⟩ := (hh 1 _ _ rfl rfl).ref
          obtain ⟨p2, rfl⟩ := (hh 2 _ _ rfl rfl).ref
          obtain ⟨e0, l0⟩ := ((hh 0 _ _ rfl rfl).keep kt).texts
          obtain ⟨e1, l1⟩ := ((hh 1 _ _ rfl rfl).keep kt).texts
          obtain ⟨e2, l2⟩ := ((hh 2 _ _ rfl rfl).keep kt).texts
          have ean := wn.1.2 _ _ na ea
          have hct : castT (.t [.t (z0.map Tr.s), .t (z1.map Tr.s), .t (z2.map Tr.s)]) = (decide (1 ≤ z0.length) && decide (z0 ++ z1 ++ z2).Nodup) := by
            show (risT _ && risT _ && risT _ && decide (1 ≤ (strsT _).length) && decide (strsT _ ++ strsT _ ++ strsT _).Nodup) = _
            rw [r0, r1, r2, strsT_map, strsT_map, strsT_map]
            rfl
          refine ⟨.ref a, rfl, a, _, 0, .ref p0, rfl, rfl, SqT.of ean, atI_nat (j := 0) rfl, p0, _, rfl, .inr (SqT.of e0), _, _, rfl, rfl, _, rfl, ?_⟩
          by_cases h1 : 1 ≤ z0.length
          · have hge : decide (((z0.map V.str).length : Int) ≥ 1) = true := by
              rw [List.length_map]
              exact decide_eq_true (by omega)
            show if decide (((z0.map V.str).length : Int) ≥ 1) = true then _ else _
            rw [if_pos hge]
            refine ⟨.ref a, rfl, a, _, 0, .ref p0, rfl, rfl, SqT.of ean, atI_nat (j := 0) rfl, .ref a, rfl, a, _, 1, .ref p1, rfl, rfl, SqT.of ean, atI_nat (j := 1) rfl, ?_⟩
            refine cat_ok (SqT.of e0) (SqT.of e1) (by omega) fun p3 H3 s3 h3' => ?_
            refine ⟨.ref a, rfl, a, _, 2, .ref p2, rfl, rfl, SqT.of (s3 _ _ ean), atI_nat (j := 2) rfl, ?_⟩
            refine cat_ok h3' (SqT.of (s3 _ _ e2)) (by rw [List.length_append]; omega) fun p4 H4 s4 h4 => ?_
            refine ⟨p4, z0 ++ z1 ++ z2, rfl, h4, by rw [List.length_append, List.length_append]; omega, ?_⟩
            have e := q H4 (wn.1.trans (.of_same wn.1.1 (s3.trans s4)))
            rw [hct, decide_eq_true h1, Bool.true_and] at e
            exact e
          · have hge : decide (((z0.map V.str).length : Int) ≥ 1) = false := by
              rw [List.length_map]
              exact decide_eq_false (by omega)
            show if decide (((z0.map V.str).length : Int) ≥ 1) = true then _ else _
            rw [if_neg (by rw [hge]; decide)]
            have e := q Hn wn.1
            rw [hct, decide_eq_false h1, Bool.false_and] at e
            exact e
        · exact ⟨_, [x0, x1, x2][i], SqT.of (wi.1.2 _ _ na ea), List.getElem?_eq_getElem hi⟩
        · obtain ⟨rfl, hx⟩ := hy
          have hx := hx _ (SqT.of (wi.1.2 _ _ na ea))
          have hdi : [d0, d1, d2][i]? = some [d0, d1, d2][i] := List.getElem?_eq_getElem hi
          refine ⟨rfl, ?_⟩
          refine ⟨x, rfl, x, [d0, d1, d2][i], rfl, (hh i x _ hx hdi).keep (wi.1.kt hG), wi.1.1, fun H3 fr3 => ⟨risT [d0, d1, d2][i], rfl, ?_⟩⟩
          have ta := take_all (p := risT) hdi
          rw [wi.2, Bool.true_and] at ta
          cases hn : risT [d0, d1, d2][i] with
          | true => exact ⟨wi.1.trans fr3, ta.trans hn⟩
          | false =>
            refine ⟨false, rfl, ?_⟩
            have e := q H3 (wi.1.trans fr3)
            have hno : (risT d0 && risT d1 && risT d2) = false := by
              rcases i with _ | _ | _ | i
              · have hn : risT d0 = false := hn
                rw [hn]
                rfl
              · have hn : risT d1 = false := hn
                rw [hn, Bool.and_false]
                rfl
              · have hn : risT d2 = false := hn
                rw [hn, Bool.and_false]
              · omega
            rw [show castT (.t [d0, d1, d2]) = false by
              show (risT d0 && risT d1 && risT d2 && _ && _) = false
              rw [hno]
              rfl] at e
            exact e
      · have hne : decide (V.int ((xs.length : Nat) : Int) = V.int 3) = false := decide_eq_false fun z => h3 (by have := V.int.inj z; omega)
        show if decide (V.int ((xs.length : Nat) : Int) = V.int 3) = true then _ else _
        rw [if_neg (by rw [hne]; decide)]
        have e := q H (.refl hG)
        have hc : castT (.t ds) = false := by
          match ds, hl with
          | [], _ => rfl
          | [_], _ => rfl
          | [_, _], _ => rfl
          | [_, _, _], hl => exact absurd hl h3
          | _ :: _ :: _ :: _ :: _, _ => rfl
        rw [hc] at e
        exact e
end
end My
namespace My
open PySem PySem.Spec PyProof.Rows L2
abbrev sOdd : Stmt := tp 26
theorem scOdd : FnScope ["_law_deck_here", "_law_some", "_law_odds"] ["_law_deck_here", "_law_some"] (defScope sOdd) :=
  ⟨rfl, rfl, rfl, by decide +kernel, rfl, by decide +kernel, by decide +kernel⟩
end My
namespace My
open PySem PySem.Spec PyProof.Rows L2
def ascB (z : Str) : Bool := z.cps.toList.all (fun c => decide (c < 128)) && decide (z.length ≤ 1000)
theorem thB {H : Hp} {z : Str} (h : ascB z = true) : Th H (.str z) (.s z) := by
  unfold ascB at h
  rw [Bool.and_eq_true] at h
  exact .str (of_decide_eq_true h.2) fun c hc => of_decide_eq_true (List.all_eq_true.mp h.1 c hc)
def Any (H : Hp) (v : V) : Prop := ∃ d, Th H v d
theorem Any.keep {H H' : Hp} {v : V} (h : Any H v) (k : KT H H') : Any H' v := let ⟨d, t⟩ := h; ⟨d, t.keep k⟩
theorem KT.deck {H H' : Hp} {d : Addr} {n m : Nat} (h : Deck H d n) (h' : Deck H' d m) (s : SameBut d H H') : KT H H' := by
  obtain ⟨a, b, c, e, _⟩ := h
  obtain ⟨a', b', c', e', _⟩ := h'
  refine ⟨fun x xs q => s _ _ (fun z => ?_) q, fun x xs q => ?_, fun x xs q => ⟨_, s _ _ (fun z => ?_) q⟩⟩
  · rw [z, e] at q
    cases q
  · by_cases z : x = d
    · rw [z]
      exact ⟨_, e'⟩
    · exact ⟨_, s _ _ z q⟩
  · rw [z, e] at q
    cases q
/-- trees for the items of a tuple -/
theorem any_list {H : Hp} : ∀ xs : List V, (∀ x ∈ xs, Any H x) → ∃ ds : List Tr, xs.length = ds.length ∧ ∀ (i : Nat) v d, xs[i]? = some v → ds[i]? = some d → Th H v d
  | [], _ => ⟨[], rfl, fun i v d h => by simp at h⟩
  | x :: r, h => by
    obtain ⟨d, t⟩ := h x List.mem_cons_self
    obtain ⟨ds, hl, hh⟩ := any_list r fun y hy => h y (List.mem_cons_of_mem _ hy)
    refine ⟨d :: ds, by simp [hl], fun i v e h1 h2 => ?_⟩
    cases i with
    | zero =>
      cases h1
      cases h2
      exact t
    | succ i => exact hh i v e h1 h2
theorem any_tup {H : Hp} {p : Addr} {xs : List V} (e : H p = some (.tup xs)) (hl : xs.length ≤ 300) (h : ∀ x ∈ xs, Any H x) : Any H (.ref p) := by
  obtain ⟨ds, h1, h2⟩ := any_list xs h
  exact ⟨.t ds, .tup e h1 (by omega) h2⟩
section
variable {P : Program} {w : World} {K : PySem.W.Frag} {mg : Str → Option Value} {base : Heap}
/-- a deck and a list of things at hand -/
structure Hand (H : Hp) (d ps : Addr) (n : Nat) (xs : List V) : Prop where
  dk : Deck H d n
  ls : H ps = some (.lst xs)
  ne : ps ≠ d
  any : ∀ x ∈ xs, Any H x
theorem Hand.same {H H' : Hp} {d ps : Addr} {n : Nat} {xs : List V} (h : Hand H d ps n xs) (s : Same H H') : Hand H' d ps n xs :=
  ⟨h.dk.mono s, s _ _ h.ls, h.ne, fun x hx => (h.any x hx).keep (.of_same s)⟩
theorem Hand.drawn {H H' : Hp} {d ps : Addr} {n m : Nat} {xs : List V} (h : Hand H d ps n xs) (s : SameBut d H H') (h' : Deck H' d m) : Hand H' d ps m xs :=
  ⟨h', s _ _ h.ne h.ls, h.ne, fun x hx => (h.any x hx).keep (.deck h.dk h' s)⟩
def spOdd : Sp := fun vs H Q _ => ∃ (d ps : Addr) (n : Nat) (xs : List V), vs = [.ref d, .ref ps] ∧ Hand H d ps n xs ∧ xs.length ≤ 500 ∧ n ≤ 1000000 ∧
  ∀ v H', Any H' v → SameBut d H H' → Deck H' d (n + 1) → Q v H'
theorem ok_odd {f fD : Addr} {fd fdD : FuncData} {k : Nat} (F : Fun K "_law_odd" "_law_odd" sOdd f fd)
    (FD : Fun K "_law_draw" "_law_draw" sDraw fD fdD) (bD : Binds K fdD ["_law_deck_here", "_law_most"] []) (gD : mg "_law_draw" = some (.ref fD)) (ml : mg "len" = none) :
    FnOk P w K mg base CX0 (k + 2) f fd ["_law_deck_here", "_law_some"] spOdd := by
  have GD : FnOk P w K mg base CX0 (k + 1) fD fdD ["_law_deck_here", "_law_most"] spDraw := ok_draw FD
  refine F.ok scOdd (fun vs H Q E h => ?_) (fun cdv A outer s H vs Q E hr h => ?_)
  · obtain ⟨d, ps, n, xs, rfl, _⟩ := h
    rfl
  · obtain ⟨d, ps, n, xs, rfl, hh, hxl, hn, q⟩ := h
    refine ⟨_, pss_cons (ps_set (i := 2) scOdd.nd rfl (.inl rfl) (pe_lst (pa_cons pe_non (pa_cons pe_int (pa_cons pe_int (pa_cons (pe_un un_neg pe_int) (pa_cons pe_int (pa_cons pe_bl (pa_cons pe_bl
          (pa_cons pe_str (pa_cons pe_str (pa_cons pe_str (pa_cons pe_str (pa_cons (pe_tup pa_nil) (pa_cons (pe_tup (pa_cons pe_str pa_nil)) (pa_cons (pe_tup (pa_cons (pe_tup (pa_cons pe_int pa_nil)) pa_nil))
          (pa_cons (pe_lst pa_nil) (pa_cons pe_dnewK (pa_cons (pe_lst (pa_cons pe_str pa_nil)) (pa_cons (pe_op op_pow pe_int pe_int) pa_nil))))))))))))))))))))
      (pss_cons (ps_set (i := 2) scOdd.nd rfl (.inl rfl) (pe_op op_cat (pe_op op_cat (pv 2) (pe_lst (pa_cons pe_str pa_nil))) (pv 1)))
      (pss_one (ps_ret (pe_ix ix_list (pv 2) (pe_call GD hr (by rfl) gD FD.kp bD .nil pass0 (pa_cons (pv 0) (pa_cons (pe_callB call_len_seq (by rfl) ml PySem.boot_len (pa_cons (pv 2) pa_nil)) pa_nil))) (fun _ _ => rfl))))), ?_⟩
    refine ⟨1, rfl, Nat.zero_le _, fun t1 n1 => ?_⟩
    refine ⟨(show 1 ≤ sizeLine by decide), fun t2 n2 => ?_⟩
    refine ⟨(show 1 ≤ sizeLine by decide), fun t3 n3 => ⟨(show 1 ≤ sizeLine by decide), fun t4 n4 => ?_⟩⟩
    refine ⟨Nat.zero_le _, fun t5 n5 => fun t6 n6 => ⟨(show 1 ≤ sizeLine by decide), fun t7 n7 => ?_⟩⟩
    refine ⟨10, 35, rfl, rfl, ⟨by decide, by decide, by decide⟩, (show 18 ≤ sizeLine by decide), fun l8 n8 => ?_⟩
    have s1 := same_new (o := .tup []) n1
    have s2 := same_new (o := .tup [.str "a"]) n2
    have s3 := same_new (o := .tup [.int 1]) n3
    have s4 := same_new (o := .tup [.ref t3]) n4
    have s5 := same_new (o := .lst []) n5
    have s6 := same_new (o := .dK []) n6
    have s7 := same_new (o := .lst [.str "a"]) n7
    have s8 := same_new (o := .lst [.non, .int 0, .int 1, .int (-1), .int 9, .bl true, .bl false, .str "a", .str "", .str "end", .str "A", .ref t1, .ref t2, .ref t4, .ref t5, .ref t6, .ref t7, .int (10 ^ (35 : Int).toNat)]) n8
    have sA := s1.trans (s2.trans (s3.trans (s4.trans (s5.trans (s6.trans (s7.trans s8))))))
    have e1 := (s2.trans (s3.trans (s4.trans (s5.trans (s6.trans (s7.trans s8)))))) t1 _ upd_same
    have e2 := (s3.trans (s4.trans (s5.trans (s6.trans (s7.trans s8))))) t2 _ upd_same
    have e3 := (s4.trans (s5.trans (s6.trans (s7.trans s8)))) t3 _ upd_same
    have e4 := (s5.trans (s6.trans (s7.trans s8))) t4 _ upd_same
    have e5 := (s6.trans (s7.trans s8)) t5 _ upd_same
    have e6 := (s7.trans s8) t6 _ upd_same
    have e7 := s8 t7 _ upd_same
    have any8 : ∀ x ∈ [V.non, .int 0, .int 1, .int (-1), .int 9, .bl true, .bl false, .str "a", .str "", .str "end", .str "A", .ref t1, .ref t2, .ref t4, .ref t5, .ref t6, .ref t7, .int (10 ^ (35 : Int).toNat)],
        Any (upd (upd (upd (upd (upd (upd (upd (upd H t1 (.tup [])) t2 (.tup [.str "a"])) t3 (.tup [.int 1])) t4 (.tup [.ref t3])) t5 (.lst [])) t6 (.dK [])) t7 (.lst [.str "a"])) l8
          (.lst [.non, .int 0, .int 1, .int (-1), .int 9, .bl true, .bl false, .str "a", .str "", .str "end", .str "A", .ref t1, .ref t2, .ref t4, .ref t5, .ref t6, .ref t7, .int (10 ^ (35 : Int).toNat)])) x := by
      intro x hx
      simp only [List.mem_cons, List.not_mem_nil, or_false] at hx
      rcases hx with rfl | rfl | rfl | rfl | rfl | rfl | rfl | rfl | rfl | rfl | rfl | rfl | rfl | rfl | rfl | rfl | rfl | rfl
      · exact ⟨_, .non⟩
      · exact ⟨_, .int _⟩
      · exact ⟨_, .int _⟩
      · exact ⟨_, .int _⟩
      · exact ⟨_, .int _⟩
      · exact ⟨_, .bl _⟩
      · exact ⟨_, .bl _⟩
      · exact ⟨_, thB (by decide +kernel)⟩
      · exact ⟨_, thB (by decide +kernel)⟩
      · exact ⟨_, thB (by decide +kernel)⟩
      · exact ⟨_, thB (by decide +kernel)⟩
      · exact any_tup e1 (by decide) fun y hy => (by cases hy)
      · refine any_tup e2 (by decide) fun y hy => ?_
        have : y = .str "a" := by simpa using hy
        rw [this]
        exact ⟨_, thB (by decide +kernel)⟩
      · refine any_tup e4 (show 1 ≤ 300 by decide) fun y hy => ?_
        have : y = .ref t3 := by simpa using hy
        rw [this]
        refine any_tup e3 (by decide) fun y hy => ?_
        have : y = .int 1 := by simpa using hy
        rw [this]
        exact ⟨_, .int _⟩
      · exact ⟨_, .lst e5⟩
      · exact ⟨_, .dK e6⟩
      · exact ⟨_, .lst e7⟩
      · exact ⟨_, .int _⟩
    have h8 := hh.same sA
    have el8 : upd (upd (upd (upd (upd (upd (upd (upd H t1 (.tup [])) t2 (.tup [.str "a"])) t3 (.tup [.int 1])) t4 (.tup [.ref t3])) t5 (.lst [])) t6 (.dK [])) t7 (.lst [.str "a"])) l8
          (.lst [.non, .int 0, .int 1, .int (-1), .int 9, .bl true, .bl false, .str "a", .str "", .str "end", .str "A", .ref t1, .ref t2, .ref t4, .ref t5, .ref t6, .ref t7, .int (10 ^ (35 : Int).toNat)]) l8 = _ := upd_same
    generalize upd (upd (upd (upd (upd (upd (upd (upd H t1 (.tup [])) t2 (.tup [.str "a"])) t3 (.tup [.int 1])) t4 (.tup [.ref t3])) t5 (.lst [])) t6 (.dK [])) t7 (.lst [.str "a"])) l8
          (.lst [.non, .int 0, .int 1, .int (-1), .int 9, .bl true, .bl false, .str "a", .str "", .str "end", .str "A", .ref t1, .ref t2, .ref t4, .ref t5, .ref t6, .ref t7, .int (10 ^ (35 : Int).toNat)]) = H8 at *
    have hl18 : [V.non, .int 0, .int 1, .int (-1), .int 9, .bl true, .bl false, .str "a", .str "", .str "end", .str "A", .ref t1, .ref t2, .ref t4, .ref t5, .ref t6, .ref t7, .int (10 ^ (35 : Int).toNat)].length = 18 := rfl
    generalize [V.non, .int 0, .int 1, .int (-1), .int 9, .bl true, .bl false, .str "a", .str "", .str "end", .str "A", .ref t1, .ref t2, .ref t4, .ref t5, .ref t6, .ref t7, .int (10 ^ (35 : Int).toNat)] = L8 at *
    clear e1 e2 e3 e4 e5 e6 e7 s1 s2 s3 s4 s5 s6 s7 s8 n1 n2 n3 n4 n5 n6 n7 n8
    refine ⟨.ref l8, rfl, (show 1 ≤ sizeLine by decide), fun l9 n9 => ?_⟩
    have s9 := same_new (o := .lst [.str "abcdefghi"]) n9
    refine ⟨l8, l9, _, _, rfl, rfl, s9 _ _ el8, upd_same, small (show L8.length + 1 ≤ 1000 by omega), fun l10 n10 => ?_⟩
    have s10 := same_new (o := .lst (L8 ++ [.str "abcdefghi"])) n10
    have h10 := (h8.same s9).same s10
    refine ⟨.ref ps, rfl, l10, ps, _, _, rfl, rfl, upd_same, h10.ls, small (by rw [List.length_append]; show L8.length + 1 + xs.length ≤ 1000; omega), fun l11 n11 => ?_⟩
    have s11 := same_new (o := .lst (L8 ++ [.str "abcdefghi"] ++ xs)) n11
    have h11 := h10.same s11
    have sall := s9.trans (s10.trans s11)
    have hany : ∀ x ∈ L8 ++ [.str "abcdefghi"] ++ xs, Any (upd (upd (upd H8 l9 (.lst [.str "abcdefghi"])) l10 (.lst (L8 ++ [.str "abcdefghi"]))) l11 (.lst (L8 ++ [.str "abcdefghi"] ++ xs))) x := by
      intro x hx
      rcases List.mem_append.mp hx with hx | hx
      · rcases List.mem_append.mp hx with hx | hx
        · exact (any8 x hx).keep (.of_same sall)
        · have : x = .str "abcdefghi" := by simpa using hx
          rw [this]
          exact ⟨_, thB (by decide +kernel)⟩
      · exact h11.any x hx
    have hlen : (L8 ++ [V.str "abcdefghi"] ++ xs).length = 19 + xs.length := by
      rw [List.length_append, List.length_append, hl18]
      rfl
    have el11 : upd (upd (upd H8 l9 (.lst [.str "abcdefghi"])) l10 (.lst (L8 ++ [.str "abcdefghi"]))) l11 (.lst (L8 ++ [.str "abcdefghi"] ++ xs)) l11 = some (.lst (L8 ++ [.str "abcdefghi"] ++ xs)) := upd_same
    refine ⟨.ref l11, rfl, .ref d, rfl, .ref l11, rfl, l11, _, rfl, .inl (SqL.of el11), d, _, n, rfl, by rw [hlen]; omega, by rw [hlen]; omega, by omega, h11.dk, fun r H12 r0 r1 b12 d12 => ?_⟩
    obtain ⟨v, hv, hm⟩ := at_list _ r0 r1
    have nl : l11 ≠ d := fun z => by
      have := h10.dk.ne n11
      exact this z.symm
    refine ⟨l11, _, r, v, rfl, rfl, SqL.of ((b12 l11 nl).trans el11), hv, ?_⟩
    exact q v H12 ((hany v hm).keep (.deck h11.dk d12 b12.sb)) ((same_sb (sA.trans sall)).trans b12.sb) d12
end
end My
namespace My
open PySem PySem.Spec PyProof.Rows L2
abbrev sBent : Stmt := tp 27
theorem scBent : FnScope ["_law_deck_here", "_law_thing", "_law_some", "_law_at", "_law_way"] ["_law_deck_here", "_law_thing", "_law_some"] (defScope sBent) :=
  ⟨rfl, rfl, rfl, by decide +kernel, rfl, by decide +kernel, by decide +kernel⟩
/-- texts and tuples alone, so deep -/
def pur : Nat → Tr → Prop
  | 0, t => (∃ z, t = .s z) ∨ ∃ n, t = .i n
  | m + 1, t => ((∃ z, t = .s z) ∨ ∃ n, t = .i n) ∨ ∃ l, t = .t l ∧ l.length ≤ 100 ∧ ∀ x ∈ l, pur m x
theorem dp_list {K : PySem.W.Frag} {H : Hp} {k : Nat} : ∀ xs : List V, (∀ x ∈ xs, ∃ pd, Dp K H x pd ∧ PyData.canLay0 pd = true ∧ PyData.depth pd ≤ k) →
    ∃ pds, DpAll K H xs pds ∧ PyData.canLayAll0 pds = true ∧ PyData.depthAll pds ≤ k ∧ pds.length = xs.length
  | [], _ => ⟨[], .nil, rfl, Nat.zero_le _, rfl⟩
  | x :: r, h => by
    obtain ⟨pd, h1, h2, h3⟩ := h x List.mem_cons_self
    obtain ⟨pds, g1, g2, g3, g4⟩ := dp_list r fun y hy => h y (List.mem_cons_of_mem _ hy)
    refine ⟨pd :: pds, .cons h1 g1, ?_, ?_, by simp [g4]⟩
    · show (PyData.canLay0 pd && PyData.canLayAll0 pds) = true
      rw [h2, g2]
      rfl
    · show max (PyData.depth pd) (PyData.depthAll pds) ≤ k
      exact Nat.max_le.mpr ⟨h3, g3⟩
theorem Th.item {H : Hp} {xs : List V} {ds : List Tr} (hl : xs.length = ds.length) (hh : ∀ (i : Nat) v d, xs[i]? = some v → ds[i]? = some d → Th H v d) {x : V} (hx : x ∈ xs) :
    ∃ d ∈ ds, Th H x d := by
  obtain ⟨i, hi, rfl⟩ := List.mem_iff_getElem.mp hx
  have hi2 : i < ds.length := by omega
  exact ⟨ds[i], List.getElem_mem hi2, hh i _ _ (List.getElem?_eq_getElem hi) (List.getElem?_eq_getElem hi2)⟩
theorem dp_pur {K : PySem.W.Frag} {H : Hp} : ∀ (m : Nat) (t : Tr) (v : V), pur m t → Th H v t → ∃ pd, Dp K H v pd ∧ PyData.canLay0 pd = true ∧ PyData.depth pd ≤ m + 1 := by
  have txt : ∀ (m : Nat) (z : Str) (v : V), Th H v (.s z) → ∃ pd, Dp K H v pd ∧ PyData.canLay0 pd = true ∧ PyData.depth pd ≤ m + 1 := fun m z v h => by
    cases h with
    | str hl ha =>
      refine ⟨.str z, .str z, ?_, by simp [PyData.depth]⟩
      show z.cps.all (· < 0x110000) = true
      rw [Array.all_eq_true']
      intro c hc
      have := ha c (by simpa using hc)
      simpa using (by omega : c < 1114112)
  have num : ∀ (m : Nat) (n : Int) (v : V), Th H v (.i n) → ∃ pd, Dp K H v pd ∧ PyData.canLay0 pd = true ∧ PyData.depth pd ≤ m + 1 := fun m n v h => by
    cases h with
    | int i => exact ⟨.int _, .int _, rfl, by simp [PyData.depth]⟩
  intro m
  induction m with
  | zero =>
    intro t v h ht
    rcases h with ⟨z, rfl⟩ | ⟨n, rfl⟩
    · exact txt 0 z v ht
    · exact num 0 n v ht
  | succ m ih =>
    intro t v h ht
    rcases h with (⟨z, rfl⟩ | ⟨n, rfl⟩) | ⟨l, rfl, _, hp⟩
    · exact txt (m + 1) z v ht
    · exact num (m + 1) n v ht
    · cases ht with
      | tup e hl hs hh =>
        obtain ⟨pds, g1, g2, g3, _⟩ := dp_list (K := K) (k := m + 1) _ fun x hx => by
          obtain ⟨d, hd, hxd⟩ := Th.item hl hh hx
          exact ih d x (hp d hd) hxd
        refine ⟨.tuple pds, .tup (SqT.of e) g1, g2, ?_⟩
        show PyData.depthAll pds + 1 ≤ _
        omega
mutual
theorem dp_same {K : PySem.W.Frag} {H H' : Hp} (s : Same H H') : ∀ {v : V} {d : PyData}, Dp K H v d → Dp K H' v d
  | _, _, .non => .non
  | _, _, .bl b => .bl b
  | _, _, .int i => .int i
  | _, _, .str x => .str x
  | _, _, .lst h a => .lst (s.seq h) (dpAll_same s a)
  | _, _, .tup h a => .tup (SqT.same h s) (dpAll_same s a)
theorem dpAll_same {K : PySem.W.Frag} {H H' : Hp} (s : Same H H') : ∀ {vs : List V} {ds : List PyData}, DpAll K H vs ds → DpAll K H' vs ds
  | _, _, .nil => .nil
  | _, _, .cons h a => .cons (dp_same s h) (dpAll_same s a)
end
theorem cut_whole {xs : List V} {lo hi : Option Int} (h : HT.sIx xs.length 0 lo = 0 ∧ HT.sIx xs.length xs.length hi = xs.length) : cutV xs lo hi = xs := by
  unfold cutV
  rw [h.1, h.2, List.drop_zero, Nat.sub_zero, List.take_length]
theorem mem_cutV {x : V} {xs : List V} {lo hi : Option Int} (h : x ∈ cutV xs lo hi) : x ∈ xs := List.mem_of_mem_drop (List.mem_of_mem_take h)
theorem slice_ok {K : PySem.W.Frag} {H : Hp} {a : Addr} {xs : List V} {lo hi : Option Int} {Q : VK} (ha : H a = some (.tup xs))
    (q : ∀ p H', Same H H' → H' p = some (.tup (cutV xs lo hi)) → Q (.ref p) H') : rSlA K (.ref a) lo hi H Q := by
  refine ⟨a, xs, rfl, SqT.of ha, fun h => q a H (Same.refl H) (by rw [cut_whole h]; exact ha), fun h p np => q p _ (same_new np) upd_same⟩
theorem cat_any {K : PySem.W.Frag} {H : Hp} {a b : Addr} {xs ys : List V} {Q : VK} (ha : H a = some (.tup xs)) (hb : H b = some (.tup ys)) (hl : xs.length + ys.length ≤ 1000)
    (q : ∀ p H', Same H H' → H' p = some (.tup (xs ++ ys)) → Q (.ref p) H') : rCatA K (.ref a) (.ref b) H Q := by
  refine ⟨a, b, xs, ys, rfl, rfl, SqT.of ha, SqT.of hb, small hl, fun e => ?_, fun _ e => ?_, fun _ _ p np => q p _ (same_new np) upd_same⟩
  · subst e
    exact q b H (Same.refl H) hb
  · subst e
    exact q a H (Same.refl H) (by rw [List.append_nil]; exact ha)
section
variable {P : Program} {w : World} {K : PySem.W.Frag} {mg : Str → Option Value} {base : Heap}
def spBent (m : Nat) : Sp := fun vs H Q _ => ∃ (d ps : Addr) (n : Nat) (xs : List V) (v : V) (t : Tr), vs = [.ref d, v, .ref ps] ∧ Th H v t ∧ pur m t ∧ Hand H d ps n xs ∧
  xs.length ≤ 500 ∧ n + 10 * m ≤ 100000 ∧ m ≤ 10 ∧ ∀ v' H', Any H' v' → SameBut d H H' → Deck H' d (n + 10 * (m + 1)) → Q v' H'
theorem ok_bent {f fD fO : Addr} {fd fdD fdO : FuncData} (F : Fun K "_law_bent" "_law_bent" sBent f fd) (b : Binds K fd ["_law_deck_here", "_law_thing", "_law_some"] []) (gf : mg "_law_bent" = some (.ref f))
    (FD : Fun K "_law_draw" "_law_draw" sDraw fD fdD) (bD : Binds K fdD ["_law_deck_here", "_law_most"] []) (gD : mg "_law_draw" = some (.ref fD))
    (GO : FnOk P w K mg base CX0 2 fO fdO ["_law_deck_here", "_law_some"] spOdd) (kO : PySem.W.keepIn K (.ref fO) = true) (bO : Binds K fdO ["_law_deck_here", "_law_some"] []) (gO : mg "_law_odd" = some (.ref fO))
    (mi : mg "isinstance" = none) (mt : mg "tuple" = none) (ml : mg "len" = none) (mls : mg "list" = none) :
    ∀ m, FnOk P w K mg base CX0 (m + 3) f fd ["_law_deck_here", "_law_thing", "_law_some"] (spBent m) := by
  have GD : FnOk P w K mg base CX0 1 fD fdD ["_law_deck_here", "_law_most"] spDraw := ok_draw FD
  intro m
  induction m with
  | zero =>
    refine F.ok scBent (fun vs H Q E h => ?_) (fun cdv A outer s H vs Q E hr h => ?_)
    · obtain ⟨d, ps, n, xs, v, t, rfl, _⟩ := h
      rfl
    · obtain ⟨d, ps, n, xs, v, t, rfl, ht, hp0, hh, hxl, hn, hm10, q⟩ := h
      have hf0 : My.isTup t = false := by
        rcases hp0 with ⟨z, rfl⟩ | ⟨z, rfl⟩ <;> rfl
      refine ⟨_, pss_cons (ps_if (PW.pt (pw_or (pt_not (pt_val (pe_callB call_isi (by rfl) mi (by decide +kernel)
            (pa_cons (pv 1) (pa_cons (pe_bltn (v := .ty "tuple") (by rfl) mt (by decide +kernel) rfl) pa_nil)))))
          (pw_or (pt_cmpR (op_eqD hr.units) (pv 1) (pe_tup pa_nil) (nomark _))
          (pw_or1 (pt_cmpR op_eq (pe_call GD (hr.mono (by decide)) (by rfl) gD FD.kp bD .nil pass0 (pa_cons (pv 0) (pa_cons pe_int pa_nil))) pe_int (nomark _))))))
          (pss_one (ps_ret (pe_call GO hr (by rfl) gO kO bO .nil pass0 (pa_cons (pv 0) (pa_cons (pv 2) pa_nil))))) pss_nil)
        (pss_cons ps_never (pss_cons ps_never (pss_cons ps_never (pss_cons ps_never (pss_cons ps_never (pss_cons ps_never (pss_one ps_never))))))), ?_⟩
      obtain ⟨ty, hty, hk⟩ := ht.isTup (K := K)
      rw [hf0] at hk
      refine ⟨v, rfl, v, .ty "tuple", ty, _, false, rfl, .ty _, hty, hk, _, rfl, ?_⟩
      refine ⟨.ref d, rfl, .ref ps, rfl, d, ps, n, xs, rfl, hh, hxl, by omega, fun v' H' a' s' d' => q v' H' a' s' (d'.more (by omega))⟩
  | succ m ih =>
    refine F.ok scBent (fun vs H Q E h => ?_) (fun cdv A outer s H vs Q E hr h => ?_)
    · obtain ⟨d, ps, n, xs, v, t, rfl, _⟩ := h
      rfl
    · obtain ⟨d, ps, n, xs, v, t, rfl, ht, hp, hh, hxl, hn, hm10, q⟩ := h
      have hr1 : Room 1 _ := hr.mono (by omega)
      have hr2 : Room 2 _ := hr.mono (by omega)
      refine ⟨_, pss_cons (ps_if (PW.pt (pw_or (pt_not (pt_val (pe_callB call_isi (by rfl) mi (by decide +kernel)
            (pa_cons (pv 1) (pa_cons (pe_bltn (v := .ty "tuple") (by rfl) mt (by decide +kernel) rfl) pa_nil)))))
          (pw_or (pt_cmpR (op_eqD hr.units) (pv 1) (pe_tup pa_nil) (nomark _))
          (pw_or1 (pt_cmpR op_eq (pe_call GD hr1 (by rfl) gD FD.kp bD .nil pass0 (pa_cons (pv 0) (pa_cons pe_int pa_nil))) pe_int (nomark _))))))
          (pss_one (ps_ret (pe_call GO hr2 (by rfl) gO kO bO .nil pass0 (pa_cons (pv 0) (pa_cons (pv 2) pa_nil))))) pss_nil)
        (pss_cons (ps_set (i := 3) scBent.nd rfl (.inl rfl) (pe_call GD hr1 (by rfl) gD FD.kp bD .nil pass0 (pa_cons (pv 0) (pa_cons (pe_callB call_len_seq (by rfl) ml PySem.boot_len (pa_cons (pv 1) pa_nil)) pa_nil))))
        (pss_cons (ps_set (i := 4) scBent.nd rfl (.inl rfl) (pe_call GD hr1 (by rfl) gD FD.kp bD .nil pass0 (pa_cons (pv 0) (pa_cons pe_int pa_nil))))
        (pss_cons (ps_if (pt_cmpR op_eq (pv 4) pe_int (nomark _)) (pss_one (ps_ret (pe_op op_catA (pe_slice sl_tupA (pv 1) po_none (po_some (pv 3))) (pe_slice sl_tupA (pv 1) (po_some (pe_op op_add (pv 3) pe_int)) po_none)))) pss_nil)
        (pss_cons (ps_if (pt_cmpR op_eq (pv 4) pe_int (nomark _)) (pss_one (ps_ret (pe_op op_catA (pe_slice sl_tupA (pv 1) po_none (po_some (pe_op op_add (pv 3) pe_int))) (pe_slice sl_tupA (pv 1) (po_some (pv 3)) po_none)))) pss_nil)
        (pss_cons (ps_if (pt_cmpR op_eq (pv 4) pe_int (nomark _)) (pss_one (ps_ret (pe_ix ix_list (pe_lst (pa_cons (RT.pe_revT (pv 1)) (pa_cons (pe_callTy call_list_of (by rfl) mls (by decide +kernel) (pa_cons (pv 1) pa_nil)) pa_nil)))
            (pe_call GD hr1 (by rfl) gD FD.kp bD .nil pass0 (pa_cons (pv 0) (pa_cons pe_int pa_nil))) (fun _ _ => rfl)))) pss_nil)
        (pss_cons (ps_if (pt_cmpR op_eq (pv 4) pe_int (nomark _)) (pss_one (ps_ret (pe_op op_catA (pe_op op_catA (pe_slice sl_tupA (pv 1) po_none (po_some (pv 3)))
            (pe_tup (pa_cons (pe_call GO hr2 (by rfl) gO kO bO .nil pass0 (pa_cons (pv 0) (pa_cons (pv 2) pa_nil))) pa_nil))) (pe_slice sl_tupA (pv 1) (po_some (pv 3)) po_none)))) pss_nil)
        (pss_one (ps_ret (pe_op op_catA (pe_op op_catA (pe_slice sl_tupA (pv 1) po_none (po_some (pv 3)))
            (pe_tup (pa_cons (pe_call ih hr (by rfl) gf F.kp b .nil pass0 (pa_cons (pv 0) (pa_cons (pe_ix ix_tup (pv 1) (pv 3) (fun _ _ => rfl)) (pa_cons (pv 2) pa_nil)))) pa_nil))) (pe_slice sl_tupA (pv 1) (po_some (pe_op op_add (pv 3) pe_int)) po_none)))))))))), ?_⟩
      obtain ⟨ty, hty, hk⟩ := ht.isTup (K := K)
      refine ⟨v, rfl, v, .ty "tuple", ty, _, My.isTup t, rfl, .ty _, hty, hk, _, rfl, ?_⟩
      cases hit : My.isTup t with
      | false =>
        exact ⟨.ref d, rfl, .ref ps, rfl, d, ps, n, xs, rfl, hh, hxl, by omega, fun v' H' a' s' d' => q v' H' a' s' (d'.more (by omega))⟩
      | true =>
        obtain ⟨a, ys, ds, rfl, rfl, ea, hl, hs, hth⟩ := ht.tups hit
        obtain ⟨hl100, hpur⟩ : ds.length ≤ 100 ∧ ∀ x ∈ ds, pur m x := by
          rcases hp with (⟨z, e⟩ | ⟨z, e⟩) | ⟨l, e, h1, h2⟩
          · cases e
          · cases e
          · cases e
            exact ⟨h1, h2⟩
        have anyY : ∀ x ∈ ys, Any H x := fun x hx => let ⟨d, _, h⟩ := Th.item hl hth hx; ⟨d, h⟩
        refine ⟨.ref a, rfl, Nat.zero_le _, fun t0 nt0 => ?_⟩
        have sT := same_new (o := .tup []) nt0
        obtain ⟨pds, g1, g2, g3, g4⟩ := dp_list (K := K) (k := m + 1) ys fun x hx => by
          obtain ⟨dd, hd, hxd⟩ := Th.item hl hth hx
          exact dp_pur m dd x (hpur dd hd) hxd
        have sh : SeqAt.shaped (.tuple pds) = true ∨ True := .inr trivial
        have hm64 : m + 2 ≤ 64 := by omega
        have shp : SeqAt.shaped (.tuple pds) = true := by
          unfold SeqAt.shaped
          rw [Bool.and_eq_true]
          refine ⟨g2, decide_eq_true ?_⟩
          show PyData.depthAll pds + 1 ≤ 64
          omega
        have DpS : ∀ (xs : List V) (ps : List PyData), DpAll K H xs ps → DpAll K (upd H t0 (.tup [])) xs ps := fun xs ps h => dpAll_same sT h
        refine ⟨.tuple pds, .tuple [], .tup (SqT.of (sT _ _ ea)) (DpS _ _ g1), .tup (SqT.of upd_same) .nil, shp, rfl, _, rfl, ?_⟩
        have hhT := hh.same sT
        by_cases hy0 : ys = []
        · subst hy0
          have : pds = [] := by
            match pds, g4 with
            | [], _ => rfl
          subst this
          exact ⟨.ref d, rfl, .ref ps, rfl, d, ps, n, xs, rfl, hhT, hxl, by omega, fun v' H' a' s' d' => q v' H' a' ((same_sb sT).trans s') (d'.more (by omega))⟩
        · have hyl : 1 ≤ ys.length := by
            cases ys with
            | nil => exact absurd rfl hy0
            | cons y r => simp
          have eqf : PyData.eqv (.tuple pds) (.tuple []) = false := by
            match pds, g4 with
            | [], g4 => simp at g4; omega
            | _ :: _, _ => rfl
          show if PyData.eqv (.tuple pds) (.tuple []) = true then _ else _
          rw [if_neg (by rw [eqf]; decide)]
          refine ⟨.ref d, rfl, d, 5, n, rfl, by decide, by decide, by omega, hhT.dk, fun r1 H1 r10 r11 b1 d1 => ?_⟩
          refine ⟨rfl, _, rfl, ?_⟩
          have hh1 := hhT.drawn b1.sb d1
          by_cases h0 : decide (V.int r1 = V.int 0) = true
          · show if decide (V.int r1 = V.int 0) = true then _ else _
            rw [if_pos h0]
            exact ⟨.ref d, rfl, .ref ps, rfl, d, ps, n + 1, xs, rfl, hh1, hxl, by omega, fun v' H' a' s' d' => q v' H' a' (((same_sb sT).trans b1.sb).trans s') (d'.more (by omega))⟩
          · show if decide (V.int r1 = V.int 0) = true then _ else _
            rw [if_neg h0]
            have nad : a ≠ d := fun z => by
              obtain ⟨_, _, _, e, _⟩ := hh.dk
              rw [z, e] at ea
              cases ea
            have ea1 : H1 a = some (.tup ys) := b1.sb a _ nad (sT _ _ ea)
            refine ⟨.ref d, rfl, .ref a, rfl, a, ys, rfl, .inr (SqT.of ea1), d, (ys.length : Int), n + 1, rfl, by omega, by omega, by omega, d1, fun r2 H2 r20 r21 b2 d2 => ?_⟩
            refine ⟨.ref d, rfl, d, 8, n + 1 + 1, rfl, by decide, by decide, by omega, d2, fun r3 H3 r30 r31 b3 d3 => ?_⟩
            obtain ⟨at_, rfl⟩ := Int.eq_ofNat_of_zero_le r20
            have hat : at_ < ys.length := by omega
            have sb3 : SameBut d H H3 := (same_sb sT).trans (b1.sb.trans (b2.sb.trans b3.sb))
            have ea3 : H3 a = some (.tup ys) := b3.sb a _ nad (b2.sb a _ nad ea1)
            have hh3 : Hand H3 d ps (n + 1 + 1 + 1) xs := (hh1.drawn b2.sb d2).drawn b3.sb d3
            have any3 : ∀ x ∈ ys, Any H3 x := fun x hx => (anyY x hx).keep (.deck hh.dk d3 sb3)
            have fin : ∀ p H' zs k, SameBut d H3 H' → Deck H' d k → k ≤ n + 10 * (m + 1 + 1) → H' p = some (.tup zs) → zs.length ≤ 300 → (∀ x ∈ zs, Any H' x) → Q (.ref p) H' := fun p H' zs k s' dk hk e hl' ha =>
              q _ H' (any_tup e hl' ha) (sb3.trans s') (dk.more hk)
            have finS : ∀ p H' zs, Same H3 H' → H' p = some (.tup zs) → zs.length ≤ 300 → (∀ x ∈ zs, x ∈ ys) → Q (.ref p) H' := fun p H' zs s' e hl' ha =>
              fin p H' zs _ (same_sb s') (d3.mono s') (by omega) e hl' fun x hx => (any3 x (ha x hx)).keep (.of_same s')
            have cl : ∀ lo hi, (cutV ys lo hi).length ≤ 100 := fun lo hi => Nat.le_trans (cutV_length ys lo hi) (by omega)
            refine ⟨.int r3, rfl, rfl, _, rfl, ite2 (fun w0 => ?_) (fun w0 => ?_)⟩
            · refine ⟨.ref a, rfl, .int at_, rfl, at_, rfl, slice_ok ea3 fun p1 H4 s4 e4 => ?_⟩
              refine ⟨.ref a, rfl, .int at_, rfl, _, _, rfl, rfl, _, rfl, ?_⟩
              dsimp only [tNoPart]
              refine slice_ok (s4 _ _ ea3) fun p2 H5 s5 e5 => ?_
              have l1 := cl none (some (at_ : Int))
              have l2 := cl (some ((at_ : Int) + 1)) none
              refine cat_any (s5 _ _ e4) e5 (by omega) fun p3 H6 s6 e6 => ?_
              refine finS p3 H6 _ (s4.trans (s5.trans s6)) e6 (by rw [List.length_append]; omega) fun x hx => ?_
              rcases List.mem_append.mp hx with hx | hx <;> exact mem_cutV hx
            · refine ⟨.int r3, rfl, rfl, _, rfl, ite2 (fun w1 => ?_) (fun w1 => ?_)⟩
              · refine ⟨.ref a, rfl, .int at_, rfl, _, _, rfl, rfl, _, rfl, slice_ok ea3 fun p1 H4 s4 e4 => ?_⟩
                refine ⟨.ref a, rfl, .int at_, rfl, _, rfl, ?_⟩
                dsimp only [tNoPart]
                refine slice_ok (s4 _ _ ea3) fun p2 H5 s5 e5 => ?_
                have l1 := cl none (some ((at_ : Int) + 1))
                have l2 := cl (some (at_ : Int)) none
                refine cat_any (s5 _ _ e4) e5 (by omega) fun p3 H6 s6 e6 => ?_
                refine finS p3 H6 _ (s4.trans (s5.trans s6)) e6 (by rw [List.length_append]; omega) fun x hx => ?_
                rcases List.mem_append.mp hx with hx | hx <;> exact mem_cutV hx
              · refine ⟨.int r3, rfl, rfl, _, rfl, ite2 (fun w2 => ?_) (fun w2 => ?_)⟩
                · refine ⟨.ref a, rfl, a, ys, rfl, SqT.of ea3, fun p1 np1 => ?_⟩
                  have s4 := same_new (o := .tup ys.reverse) np1
                  refine ⟨.ref a, rfl, a, ys, rfl, .inr (SqT.of (s4 _ _ ea3)), fun p2 np2 => ?_⟩
                  have s5 := same_new (o := .lst ys) np2
                  refine ⟨(show 2 ≤ sizeLine by decide), fun p3 np3 => ?_⟩
                  have s6 := same_new (o := .lst [.ref p1, .ref p2]) np3
                  have sA := s4.trans (s5.trans s6)
                  refine ⟨.ref d, rfl, d, 2, _, rfl, by decide, by decide, by omega, d3.mono sA, fun r5 H7 r50 r51 b7 d7 => ?_⟩
                  have n3 : p3 ≠ d := fun z => ((d3.mono (s4.trans s5)).ne np3) z.symm
                  have e7 := (b7 p3 n3).trans upd_same
                  obtain ⟨v7, hv7, hm7⟩ := at_list [V.ref p1, .ref p2] r50 r51
                  refine ⟨p3, _, r5, v7, rfl, rfl, SqL.of e7, hv7, ?_⟩
                  have sb7 : SameBut d H3 H7 := (same_sb sA).trans b7.sb
                  have kt7 : KT H3 H7 := .deck d3 d7 sb7
                  simp only [List.mem_cons, List.not_mem_nil, or_false] at hm7
                  rcases hm7 with rfl | rfl
                  · have n1 : p1 ≠ d := fun z => (d3.ne np1) z.symm
                    refine fin p1 H7 ys.reverse _ sb7 d7 (by omega) (b7.sb p1 _ n1 ((s5.trans s6) _ _ upd_same)) (by rw [List.length_reverse]; omega) fun x hx => ?_
                    exact (any3 x (List.mem_reverse.mp hx)).keep kt7
                  · have n2 : p2 ≠ d := fun z => ((d3.mono s4).ne np2) z.symm
                    exact q _ H7 ⟨_, .lst (b7.sb p2 _ n2 (s6 _ _ upd_same))⟩ (sb3.trans sb7) (d7.more (by omega))
                · refine ⟨.int r3, rfl, rfl, _, rfl, ite2 (fun w3 => ?_) (fun w3 => ?_)⟩
                  · refine ⟨.ref a, rfl, .int at_, rfl, _, rfl, slice_ok ea3 fun p1 H4 s4 e4 => ?_⟩
                    refine ⟨.ref d, rfl, .ref ps, rfl, d, ps, _, xs, rfl, hh3.same s4, hxl, by omega, fun v5 H5 a5 sb5 d5 => ?_⟩
                    refine ⟨(show 1 ≤ sizeLine by decide), fun p6 np6 => ?_⟩
                    have s6 := same_new (o := .tup [v5]) np6
                    have n1 : p1 ≠ d := fun z => by
                      obtain ⟨_, _, _, e, _⟩ := d3.mono s4
                      rw [z, e] at e4
                      cases e4
                    have l1 := cl none (some (at_ : Int))
                    have l2 := cl (some (at_ : Int)) none
                    refine cat_any (s6 _ _ (sb5 _ _ n1 e4)) upd_same (by show _ + 1 ≤ 1000; omega) fun p7 H7 s7 e7 => ?_
                    have ea7 : H7 a = some (.tup ys) := s7 _ _ (s6 _ _ (sb5 _ _ nad (s4 _ _ ea3)))
                    refine ⟨.ref a, rfl, .int at_, rfl, _, rfl, ?_⟩
                    dsimp only [tNoPart]
                    refine slice_ok ea7 fun p8 H8 s8 e8 => ?_
                    refine cat_any (s8 _ _ e7) e8 (by rw [List.length_append]; show _ + 1 + _ ≤ 1000; omega) fun p9 H9 s9 e9 => ?_
                    have sR := s6.trans (s7.trans (s8.trans s9))
                    have sb9 : SameBut d H3 H9 := (same_sb s4).trans (sb5.trans (same_sb sR))
                    have d9 := d5.mono sR
                    have kt9 : KT H3 H9 := .deck d3 d9 sb9
                    refine fin p9 H9 _ _ sb9 d9 (by omega) e9 (by rw [List.length_append, List.length_append]; show _ + 1 + _ ≤ 300; omega) fun x hx => ?_
                    rcases List.mem_append.mp hx with hx | hx
                    · rcases List.mem_append.mp hx with hx | hx
                      · exact (any3 x (mem_cutV hx)).keep kt9
                      · have : x = v5 := by simpa using hx
                        rw [this]
                        exact a5.keep (.of_same sR)
                    · exact (any3 x (mem_cutV hx)).keep kt9
                  · refine ⟨.ref a, rfl, .int at_, rfl, _, rfl, slice_ok ea3 fun p1 H4 s4 e4 => ?_⟩
                    refine ⟨.ref d, rfl, .ref a, rfl, .int at_, rfl, a, ys, at_, ys[at_], rfl, rfl, SqT.of (s4 _ _ ea3), atI_nat (List.getElem?_eq_getElem hat), .ref ps, rfl, ?_⟩
                    have hat2 : at_ < ds.length := by omega
                    have thx : Th H4 ys[at_] ds[at_] := ((hth at_ _ _ (List.getElem?_eq_getElem hat) (List.getElem?_eq_getElem hat2)).keep (.deck hh.dk d3 sb3)).keep (.of_same s4)
                    refine ⟨d, ps, _, xs, _, ds[at_], rfl, thx, hpur _ (List.getElem_mem hat2), hh3.same s4, hxl, by omega, by omega, fun v5 H5 a5 sb5 d5 => ?_⟩
                    refine ⟨(show 1 ≤ sizeLine by decide), fun p6 np6 => ?_⟩
                    have s6 := same_new (o := .tup [v5]) np6
                    have n1 : p1 ≠ d := fun z => by
                      obtain ⟨_, _, _, e, _⟩ := d3.mono s4
                      rw [z, e] at e4
                      cases e4
                    have l1 := cl none (some (at_ : Int))
                    have l2 := cl (some ((at_ : Int) + 1)) none
                    refine cat_any (s6 _ _ (sb5 _ _ n1 e4)) upd_same (by show _ + 1 ≤ 1000; omega) fun p7 H7 s7 e7 => ?_
                    have ea7 : H7 a = some (.tup ys) := s7 _ _ (s6 _ _ (sb5 _ _ nad (s4 _ _ ea3)))
                    refine ⟨.ref a, rfl, .int at_, rfl, _, _, rfl, rfl, _, rfl, ?_⟩
                    dsimp only [tNoPart]
                    refine slice_ok ea7 fun p8 H8 s8 e8 => ?_
                    refine cat_any (s8 _ _ e7) e8 (by rw [List.length_append]; show _ + 1 + _ ≤ 1000; omega) fun p9 H9 s9 e9 => ?_
                    have sR := s6.trans (s7.trans (s8.trans s9))
                    have sb9 : SameBut d H3 H9 := (same_sb s4).trans (sb5.trans (same_sb sR))
                    have d9 := d5.mono sR
                    have kt9 : KT H3 H9 := .deck d3 d9 sb9
                    refine fin p9 H9 _ _ sb9 d9 (by omega) e9 (by rw [List.length_append, List.length_append]; show _ + 1 + _ ≤ 300; omega) fun x hx => ?_
                    rcases List.mem_append.mp hx with hx | hx
                    · rcases List.mem_append.mp hx with hx | hx
                      · exact (any3 x (mem_cutV hx)).keep kt9
                      · have : x = v5 := by simpa using hx
                        rw [this]
                        exact a5.keep (.of_same sR)
                    · exact (any3 x (mem_cutV hx)).keep kt9
end
end My
namespace My
open PySem PySem.Spec PyProof.Rows L2
def FF (z : List Str) : Tr := .t (z.map Tr.s)
theorem sMap_inj : ∀ {a b : List Str}, a.map Tr.s = b.map Tr.s → a = b
  | [], [], _ => rfl
  | [], _ :: _, h => by cases h
  | _ :: _, [], h => by cases h
  | x :: r, y :: q, h => by
    rw [List.map_cons, List.map_cons] at h
    injection h with h1 h2
    injection h1 with h1
    rw [h1, sMap_inj h2]
theorem fMap_inj : ∀ {a b : List (List Str)}, a.map FF = b.map FF → a = b
  | [], [], _ => rfl
  | [], _ :: _, h => by cases h
  | _ :: _, [], h => by cases h
  | x :: r, y :: q, h => by
    rw [List.map_cons, List.map_cons] at h
    injection h with h1 h2
    injection h1 with h1
    rw [sMap_inj h1, fMap_inj h2]
/-- what a cast is, said by its texts -/
theorem cast_iff {ds : List Tr} (h3 : ds.length = 3) : castT (.t ds) = true ↔
    ∃ zs : List (List Str), ds = zs.map FF ∧ (∀ z ∈ zs, risT (FF z) = true) ∧ 1 ≤ (zs.getD 0 []).length ∧ zs.flatten.Nodup := by
  obtain ⟨a, b, c, rfl⟩ : ∃ a b c, ds = [a, b, c] := by
    match ds, h3 with
    | [a, b, c], _ => exact ⟨a, b, c, rfl⟩
  constructor
  · intro h
    have h' : (risT a && risT b && risT c && decide (1 ≤ (strsT a).length) && decide (strsT a ++ strsT b ++ strsT c).Nodup) = true := h
    simp only [Bool.and_eq_true, decide_eq_true_eq] at h'
    obtain ⟨⟨⟨⟨r0, r1⟩, r2⟩, l⟩, nd⟩ := h'
    obtain ⟨z0, rfl⟩ := ris_strs r0
    obtain ⟨z1, rfl⟩ := ris_strs r1
    obtain ⟨z2, rfl⟩ := ris_strs r2
    rw [strsT_map] at l
    rw [strsT_map, strsT_map, strsT_map] at nd
    refine ⟨[z0, z1, z2], rfl, fun z hz => ?_, l, ?_⟩
    · simp only [List.mem_cons, List.not_mem_nil, or_false] at hz
      rcases hz with rfl | rfl | rfl <;> assumption
    · simpa [List.append_assoc] using nd
  · intro ⟨zs, e, hr, l, nd⟩
    obtain ⟨z0, z1, z2, rfl⟩ : ∃ z0 z1 z2, zs = [z0, z1, z2] := by
      have hl := congrArg List.length e
      rw [List.length_map] at hl
      match zs, hl with
      | [z0, z1, z2], _ => exact ⟨z0, z1, z2, rfl⟩
    simp only [List.map_cons, List.map_nil, List.cons.injEq, and_true] at e
    obtain ⟨rfl, rfl, rfl⟩ := e
    show (risT _ && risT _ && risT _ && decide (1 ≤ (strsT _).length) && decide (strsT _ ++ strsT _ ++ strsT _).Nodup) = true
    unfold FF
    rw [strsT_map, strsT_map, strsT_map]
    have q0 := hr z0 (by simp)
    have q1 := hr z1 (by simp)
    have q2 := hr z2 (by simp)
    unfold FF at q0 q1 q2
    rw [q0, q1, q2, decide_eq_true (show 1 ≤ z0.length from l), decide_eq_true (show (z0 ++ z1 ++ z2).Nodup by simpa [List.append_assoc] using nd)]
    rfl
/-- the first i parts are looked over, of the next one k names -/
structure Seen (ds : List Tr) (i : Nat) (zss : List (List Str)) : Prop where
  eq : ds.take i = zss.map FF
  ris : ∀ z ∈ zss, risT (FF z) = true
  nd : zss.flatten.Nodup
structure Part (es : List Tr) (k : Nat) (met us : List Str) : Prop where
  eq : es.take k = us.map Tr.s
  nm : (es.take k).all nameT = true
  up : upB us (k - 1) = true
  nd : (met ++ us).Nodup
theorem ris_of {z : List Str} (h : risT (FF z) = true) : (z.map Tr.s).all nameT = true ∧ upB z (z.length - 1) = true := by
  have h' : ((z.map Tr.s).all nameT && chainT (z.map Tr.s)) = true := h
  rw [Bool.and_eq_true, chain_up] at h'
  exact h'
/-- if it is a cast, the next part is so -/
theorem cast_part {ds : List Tr} {i : Nat} {zss : List (List Str)} {d : Tr} (h3 : ds.length = 3) (S : Seen ds i zss) (hd : ds[i]? = some d) (hc : castT (.t ds) = true) :
    ∃ z, d = FF z ∧ risT (FF z) = true ∧ (zss.flatten ++ z).Nodup := by
  obtain ⟨zs, rfl, hr, _, nd⟩ := (cast_iff h3).mp hc
  have hi : i < zs.length := by
    have := (List.getElem?_eq_some_iff.mp hd).1
    simpa using this
  have e1 : zss = zs.take i := by
    apply fMap_inj
    rw [← S.eq, List.map_take]
  have e2 : d = FF zs[i] := by
    rw [List.getElem?_map, List.getElem?_eq_getElem hi] at hd
    exact (Option.some.inj hd).symm
  refine ⟨zs[i], e2, hr _ (List.getElem_mem hi), ?_⟩
  have e3 : zs = zs.take i ++ zs[i] :: zs.drop (i + 1) := by
    rw [List.getElem_cons_drop, List.take_append_drop]
  rw [e3, List.flatten_append, List.flatten_cons, ← List.append_assoc, ← e1] at nd
  exact (List.nodup_append.mp nd).1
theorem seen_next {ds : List Tr} {i : Nat} {zss : List (List Str)} {es : List Tr} {us : List Str} (S : Seen ds i zss) (hd : ds[i]? = some (.t es)) (Pt : Part es es.length zss.flatten us) :
    Seen ds (i + 1) (zss ++ [us]) := by
  have e : es = us.map Tr.s := by
    have := Pt.eq
    rwa [List.take_length] at this
  subst e
  refine ⟨?_, fun z hz => ?_, ?_⟩
  · rw [List.take_add_one, hd, S.eq, List.map_append]
    rfl
  · rcases List.mem_append.mp hz with hz | hz
    · exact S.ris z hz
    · have : z = us := by simpa using hz
      subst this
      have nm := Pt.nm
      rw [List.take_length] at nm
      have up := Pt.up
      rw [List.length_map] at up
      show ((z.map Tr.s).all nameT && chainT (z.map Tr.s)) = true
      rw [nm, chain_up, up]
      rfl
  · rw [List.flatten_append]
    simpa using Pt.nd
end My
namespace My
open PySem PySem.Spec PyProof.Rows L2
theorem lt_one (a b : Nat) : ([a] : List Nat) < [b] ↔ a < b := by
  constructor
  · intro h
    cases h with
    | rel h => exact h
    | cons h => cases h
  · intro h
    exact .rel h
theorem sg_of {c : Nat} (h1 : 97 ≤ c) (h2 : c ≤ 122) : sg c = true := by
  unfold sg
  have e1 : decide ((⟨#[c]⟩ : Str).cps.toList < ("a" : Str).cps.toList) = false := decide_eq_false (fun h => by
    have h' : ([c] : List Nat) < [97] := h
    have := (lt_one c 97).mp h'
    omega)
  have e2 : decide (("z" : Str).cps.toList < (⟨#[c]⟩ : Str).cps.toList) = false := decide_eq_false (fun h => by
    have h' : ([122] : List Nat) < [c] := h
    have := (lt_one 122 c).mp h'
    omega)
  rw [e1, e2]
  rfl
theorem name_of {z : Str} (h : Low z) (hb : z ∉ bar) : nameB z = true := by
  unfold nameB
  have e3 : z.cps.toList.all sg = true := List.all_eq_true.mpr fun c hc => sg_of (h.2.2 c hc).1 (h.2.2 c hc).2
  have e4 : isW z = false := by
    unfold isW
    rw [inV_str]
    exact decide_eq_false fun hm => hb (List.mem_append_left _ hm)
  rw [decide_eq_true (show (1 : Int) ≤ z.length by have := h.1; omega), decide_eq_true (show (z.length : Int) ≤ 8 by have := h.2.1; omega), e3, e4]
  rfl
theorem lt_tri : ∀ a b : List Nat, ¬ b < a → a ≠ b → a < b
  | [], [], _, h => absurd rfl h
  | [], y :: r, _, _ => .nil
  | x :: r, [], h, _ => absurd .nil h
  | x :: r, y :: q, h, hne => by
    by_cases h1 : x < y
    · exact .rel h1
    · by_cases h2 : y < x
      · exact absurd (.rel h2) h
      · have : x = y := by omega
        subst this
        exact .cons (lt_tri r q (fun z => h (.cons z)) (fun z => hne (by rw [z])))
theorem lt_cps : ∀ {a b : List Nat}, a < b → ltCps a b = true
  | [], [], h => by cases h
  | [], _ :: _, _ => rfl
  | _ :: _, [], h => by cases h
  | x :: r, y :: t, h => by
    cases h with
    | rel h => simp [ltCps, h]
    | cons h => simp [ltCps, lt_cps h]
theorem ris_up : ∀ (zs : List Str) (j : Nat), sortedS zs = true → zs.Nodup → j + 1 < zs.length →
    decide ((zs.getD j Str.empty).cps.toList < (zs.getD (j + 1) Str.empty).cps.toList) = true
  | [], j, _, _, h => absurd h (by simp)
  | [x], j, _, _, h => absurd h (by simp)
  | x :: y :: r, 0, hs, nd, _ => by
    have hs' : (!ltCps y.cps.toList x.cps.toList && risingS y r) = true := hs
    rw [Bool.and_eq_true] at hs'
    have hne : x ≠ y := fun e => by
      rw [List.nodup_cons] at nd
      exact nd.1 (by rw [e]; exact List.mem_cons_self)
    refine decide_eq_true (lt_tri _ _ ?_ fun e => hne ?_)
    · intro hlt
      have : ltCps y.cps.toList x.cps.toList = true := lt_cps hlt
      rw [this] at hs'
      cases hs'.1
    · exact PySem.Str.ext' (Array.toList_inj.mp e)
  | x :: y :: r, j + 1, hs, nd, h => by
    have hs' : (!ltCps y.cps.toList x.cps.toList && risingS y r) = true := hs
    rw [Bool.and_eq_true] at hs'
    have := ris_up (y :: r) j hs'.2 (List.nodup_cons.mp nd).2 (by simpa using h)
    simpa [List.getD] using this
theorem ris_world {z : List Str} (hg : ∀ x ∈ z, Low x ∧ x ∉ bar) (nd : z.Nodup) (hs : sortedS z = true) : risT (FF z) = true := by
  show ((z.map Tr.s).all nameT && chainT (z.map Tr.s)) = true
  rw [chain_up, Bool.and_eq_true]
  refine ⟨List.all_eq_true.mpr fun t ht => ?_, List.all_eq_true.mpr fun j hj => ris_up z j hs nd ?_⟩
  · obtain ⟨x, hx, rfl⟩ := List.mem_map.mp ht
    exact name_of (hg x hx).1 (hg x hx).2
  · have := List.mem_range.mp hj
    omega
theorem world_cast {R L U S : List Str} (W : World4 R L U S) : castT (.t [FF R, FF L, FF U]) = true := by
  have g := W.good
  have n1 := List.nodup_append.mp g.1
  have n2 := List.nodup_append.mp n1.2.1
  have n3 := List.nodup_append.mp n2.2.1
  refine (cast_iff rfl).mpr ⟨[R, L, U], rfl, fun z hz => ?_, W.r1, ?_⟩
  · simp only [List.mem_cons, List.not_mem_nil, or_false] at hz
    rcases hz with rfl | rfl | rfl
    · exact ris_world (fun x hx => g.2 x (by simp [hx])) n1.1 W.rs
    · exact ris_world (fun x hx => g.2 x (by simp [hx])) n2.1 W.ls
    · exact ris_world (fun x hx => g.2 x (by simp [hx])) n3.1 W.us
  · have e : R ++ (L ++ (U ++ S)) = [R, L, U].flatten ++ S := by simp [List.append_assoc]
    have h := g.1
    rw [e] at h
    exact (List.nodup_append.mp h).1
theorem asc_low {z : Str} (h : Low z) : z.length ≤ 1000 ∧ Asc z := ⟨by have := h.2.1; omega, fun c hc => by have := h.2.2 c hc; omega⟩
/-- a tuple of texts is a thing -/
theorem th_texts {H : Hp} {p : Addr} {zs : List Str} (e : H p = some (.tup (zs.map V.str))) (hl : zs.length ≤ 300) (ha : ∀ z ∈ zs, z.length ≤ 1000 ∧ Asc z) : Th H (.ref p) (FF zs) := by
  refine .tup e (by simp) (by simpa using hl) fun i v d h1 h2 => ?_
  rw [List.getElem?_map] at h1 h2
  cases hz : zs[i]? with
  | none => rw [hz] at h1; cases h1
  | some z =>
    rw [hz] at h1 h2
    cases h1
    cases h2
    have := ha z (List.mem_of_getElem? hz)
    exact .str this.1 this.2
theorem th_three {H : Hp} {c r l u : Addr} {R L U : List Str} (ec : H c = some (.tup [.ref r, .ref l, .ref u])) (hr : Th H (.ref r) (FF R)) (hl : Th H (.ref l) (FF L)) (hu : Th H (.ref u) (FF U)) :
    Th H (.ref c) (.t [FF R, FF L, FF U]) := by
  refine .tup ec rfl (show 3 ≤ 300 by decide) fun i v d h1 h2 => ?_
  match i with
  | 0 => cases h1; cases h2; exact hr
  | 1 => cases h1; cases h2; exact hl
  | 2 => cases h1; cases h2; exact hu
  | i + 3 => simp at h1
def litR : List Str → TA
  | [] => tNil
  | z :: r => tCons (tC (.str z)) (litR r)
theorem lit_ok {σ : L2.St} : ∀ (zs : List Str) (H : Hp) (Q : List V → Hp → Prop), Q (zs.map V.str) H → litR zs σ H Q
  | [], _, _, q => q
  | z :: r, H, Q, q => lit_ok r H (fun xs H2 => Q (.str z :: xs) H2) q
theorem tup_ok {σ : L2.St} {zs : List Str} {H : Hp} {Q : VK} (hl : zs.length ≤ 300) (h : ∀ z ∈ zs, ascB z = true)
    (q : ∀ p H', Same H H' → Th H' (.ref p) (FF zs) → Q (.ref p) H') : tTup (litR zs) σ H Q := by
  refine lit_ok zs H _ ⟨by rw [List.length_map]; exact small (by omega), fun p np => q p _ (same_new np) (th_texts upd_same hl fun z hz => ?_)⟩
  have e := h z hz
  unfold ascB at e
  rw [Bool.and_eq_true] at e
  exact ⟨of_decide_eq_true e.2, fun c hc => of_decide_eq_true (List.all_eq_true.mp e.1 c hc)⟩
theorem tTup_cons {ta : TE} {tr : TA} {σ : L2.St} {H : Hp} {Q : VK} (h : ta σ H fun x H1 => tr σ H1 fun xs H2 => (x :: xs).length ≤ sizeLine ∧ ∀ p, H2 p = none → Q (.ref p) (upd H2 p (.tup (x :: xs)))) :
    tTup (tCons ta tr) σ H Q := h
theorem tCons_ok {ta : TE} {tr : TA} {σ : L2.St} {H : Hp} {Q : List V → Hp → Prop} (h : ta σ H fun x H1 => tr σ H1 fun xs H2 => Q (x :: xs) H2) : tCons ta tr σ H Q := h
theorem disp3 {σ : L2.St} {xs ys zs : List Str} {H : Hp} {Q : VK} (h : ((xs ++ ys ++ zs).all ascB && decide ((xs ++ ys ++ zs).length ≤ 300)) = true)
    (q : ∀ p H', Same H H' → Th H' (.ref p) (.t [FF xs, FF ys, FF zs]) → Q (.ref p) H') :
    tTup (tCons (tTup (litR xs)) (tCons (tTup (litR ys)) (tCons (tTup (litR zs)) tNil))) σ H Q := by
  rw [Bool.and_eq_true] at h
  have ha := List.all_eq_true.mp h.1
  have hl := of_decide_eq_true h.2
  rw [List.length_append, List.length_append] at hl
  refine tTup_cons (tup_ok (zs := xs) (by omega) (fun z hz => ha z (by simp [hz])) fun p1 H1 s1 t1 => ?_)
  refine tCons_ok (tup_ok (zs := ys) (by omega) (fun z hz => ha z (by simp [hz])) fun p2 H2 s2 t2 => ?_)
  refine tCons_ok (tup_ok (zs := zs) (by omega) (fun z hz => ha z (by simp [hz])) fun p3 H3 s3 t3 => ?_)
  refine ⟨(show 3 ≤ sizeLine by decide), fun p np => ?_⟩
  have s4 := same_new (o := .tup [.ref p1, .ref p2, .ref p3]) np
  exact q p _ (s1.trans (s2.trans (s3.trans s4))) (th_three upd_same (t1.keep (.of_same (s2.trans (s3.trans s4)))) (t2.keep (.of_same (s3.trans s4))) (t3.keep (.of_same s4)))
def L26 : List Str := abc.cps.toList.map fun c => ⟨#[c]⟩
theorem cast26 : castT (.t [FF (L26.take 9), FF ((L26.drop 9).take (18 - 9)), FF (L26.drop 18)]) = true := by decide +kernel
end My
namespace LE
open PySem PySem.Spec PySem.SeqAt PyProof.Rows L2
variable {X : Cx}
/-- a list against a list of nothing: only how long they are counts -/
def rEqNil : V → V → Hp → VK → Prop := fun x y H Q => ∃ a b xs, x = .ref a ∧ y = .ref b ∧ H a = some (.lst xs) ∧ H b = some (.lst []) ∧ Q (.bl xs.isEmpty) H
def rNeNil : V → V → Hp → VK → Prop := fun x y H Q => ∃ a b xs, x = .ref a ∧ y = .ref b ∧ H a = some (.lst xs) ∧ H b = some (.lst []) ∧ Q (.bl (!xs.isEmpty)) H
theorem nil_sizes {xs : List V} {its its2 : List Value} (r1 : Vals xs its) (r2 : Vals [] its2) : its2 = [] ∧ (xs.isEmpty = false → (its.toArray.size != its2.toArray.size) = true) ∧ (xs.isEmpty = true → its = []) := by
  cases r2
  refine ⟨rfl, fun h => ?_, fun h => ?_⟩
  · cases r1 with
    | nil => cases h
    | cons => simp
  · cases r1 with
    | nil => rfl
    | cons => cases h
theorem op_eqNil (hu : X.A.units < cLine) : OpR X (compareOp .Eq) rEqNil := by
  intro pins s σ H x y v u Q I rx ry h
  obtain ⟨a, b, xs, rfl, rfl, ea, eb, q⟩ := h
  obtain rfl : v = Value.ref a := rx
  obtain rfl : u = Value.ref b := ry
  obtain ⟨_, its, n, r1, h1⟩ := (show ObjOk X.prog X.w H s.heap a (.lst xs) from I.hok a _ ea)
  obtain ⟨_, its2, n2, r2, h2⟩ := (show ObjOk X.prog X.w H s.heap b (.lst []) from I.hok b _ eb)
  obtain ⟨rfl, hf, ht⟩ := nil_sizes r1 r2
  have l1 := PySem.IsL.isList h1
  have l2 := PySem.IsL.isList h2
  have fin : EP X pins σ Q (.bool xs.isEmpty) s := ⟨.bl _, H, I, rfl, q⟩
  cases hx : xs.isEmpty with
  | false =>
    rw [hx] at fin
    exact RcAt.lists_lengths l1 l2 (hf hx) hu _ _ _ _ fin
  | true =>
    rw [hx] at fin
    obtain rfl := ht hx
    exact RcAt.lists (e := fun _ => true) l1 l2 rfl hu (fun j h => absurd h (by simp)) _ _ _ _ fin
theorem op_neNil (hu : X.A.units < cLine) : OpR X (compareOp .NotEq) rNeNil := by
  intro pins s σ H x y v u Q I rx ry h
  obtain ⟨a, b, xs, rfl, rfl, ea, eb, q⟩ := h
  obtain rfl : v = Value.ref a := rx
  obtain rfl : u = Value.ref b := ry
  obtain ⟨_, its, n, r1, h1⟩ := (show ObjOk X.prog X.w H s.heap a (.lst xs) from I.hok a _ ea)
  obtain ⟨_, its2, n2, r2, h2⟩ := (show ObjOk X.prog X.w H s.heap b (.lst []) from I.hok b _ eb)
  obtain ⟨rfl, hf, ht⟩ := nil_sizes r1 r2
  have l1 := PySem.IsL.isList h1
  have l2 := PySem.IsL.isList h2
  have fin : EP X pins σ Q (.bool (!xs.isEmpty)) s := ⟨.bl _, H, I, rfl, q⟩
  cases hx : xs.isEmpty with
  | false =>
    rw [hx] at fin
    exact RcNeAt.lists_lengths l1 l2 (hf hx) hu _ _ _ _ fin
  | true =>
    rw [hx] at fin
    obtain rfl := ht hx
    exact RcNeAt.lists (e := fun _ => true) l1 l2 rfl hu (fun j h => absurd h (by simp)) _ _ _ _ fin
end LE
namespace My
open PySem PySem.Spec PyProof.Rows L2
abbrev sIsWhole : Stmt := tp 9
abbrev sIsStanding : Stmt := tp 11
abbrev sRows : Stmt := tp 12
abbrev sPlaces : Stmt := tp 13
abbrev sWholes : Stmt := tp 14
abbrev sLength : Stmt := tp 15
theorem scIsWhole : FnScope ["thing"] ["thing"] (defScope sIsWhole) :=
  ⟨rfl, rfl, rfl, by decide +kernel, rfl, by decide +kernel, by decide +kernel⟩
theorem scWholes : FnScope ["thing", "many", "part"] ["thing", "many"] (defScope sWholes) :=
  ⟨rfl, rfl, rfl, by decide +kernel, rfl, by decide +kernel, by decide +kernel⟩
theorem scPlaces : FnScope ["thing", "many", "length", "place"] ["thing", "many", "length"] (defScope sPlaces) :=
  ⟨rfl, rfl, rfl, by decide +kernel, rfl, by decide +kernel, by decide +kernel⟩
theorem scRows : FnScope ["thing", "many", "row"] ["thing", "many"] (defScope sRows) :=
  ⟨rfl, rfl, rfl, by decide +kernel, rfl, by decide +kernel, by decide +kernel⟩
theorem scLength : FnScope ["standing"] ["standing"] (defScope sLength) :=
  ⟨rfl, rfl, rfl, by decide +kernel, rfl, by decide +kernel, by decide +kernel⟩
theorem scIsStanding : FnScope ["cast", "thing"] ["cast", "thing"] (defScope sIsStanding) :=
  ⟨rfl, rfl, rfl, by decide +kernel, rfl, by decide +kernel, by decide +kernel⟩
/-! what is told -/
def wholeT : Tr → Bool
  | .i _ => true
  | _ => false
def wholesT (m : Int) : Tr → Bool
  | .t ds => decide ((ds.length : Int) = m) && ds.all wholeT
  | _ => false
def inT (l : Int) : Tr → Bool
  | .i n => decide (0 ≤ n) && decide (n ≤ l)
  | _ => false
def placesT (m l : Int) : Tr → Bool
  | .t ds => wholesT m (.t ds) && ds.all (inT l)
  | _ => false
def lenT : Tr → Nat
  | .t ds => ds.length
  | _ => 0
def headT : Tr → Tr
  | .t (d :: _) => d
  | _ => .o
def rowsT (m : Int) : Tr → Bool
  | .t ds => decide ((ds.length : Int) = m) && ds.all My.isTup && ds.all (wholesT (lenT (headT (.t ds))))
  | _ => false
/-- of a thing: an int, a truth, or none -/
theorem Th.isInt {K : PySem.W.Frag} {H : Hp} {v : V} {d : Tr} (h : Th H v d) :
    (∃ b, v = .bl b ∧ d = .o) ∨ (∃ n, v = .int n ∧ d = .i n) ∨ (wholeT d = false ∧ ∃ t, TyX K H v t ∧ PySem.W.kitOne K t (.type "int") = some false) := by
  cases h with
  | str hl ha => exact .inr (.inr ⟨rfl, _, .base (.str _), kit_ty (by decide +kernel)⟩)
  | non => exact .inr (.inr ⟨rfl, _, .base .non, kit_ty (by decide +kernel)⟩)
  | bl b => exact .inl ⟨_, rfl, rfl⟩
  | int i => exact .inr (.inl ⟨_, rfl, rfl⟩)
  | lst e => exact .inr (.inr ⟨rfl, _, .base (.lst e), kit_ty (by decide +kernel)⟩)
  | dK e => exact .inr (.inr ⟨rfl, _, .base (.dK e), kit_ty (by decide +kernel)⟩)
  | tup e _ _ _ => exact .inr (.inr ⟨rfl, _, .base (.tup e), kit_ty (by decide +kernel)⟩)
/-- all(te of each) over a tuple -/
theorem allT_ok {K : PySem.W.Frag} {Ts : List Addr} {T a : Addr} {H : Hp} {xs : List V} {ds : List Tr} {p : Tr → Bool} {σ : L2.St} {j : Nat} {te : TE} {Q : VK} (hTs : T ∈ Ts) (hG : AllT Ts H)
    (ea : H a = some (.tup xs)) (hl : xs.length = ds.length) (h0 : σ[0]? = some (some (.ref a)))
    (turn : ∀ (i : Nat) x d Hc, xs[i]? = some x → ds[i]? = some d → FrA Ts H Hc → ∀ R : VK, (∀ Hy, FrA Ts Hc Hy → R (.bl (p d)) Hy) → te ((wipe σ [j]).set j (some x)) Hc R)
    (q : ∀ H', FrA Ts H H' → Q (.bl (ds.all p)) H') : GX.tAllG T (iTup K (tVar 0)) (gName j) te [j] σ H Q := by
  have na := hG.not ea fun q z => nomatch z
  refine ⟨.ref a, h0, a, rfl, ⟨_, SqT.of ea⟩, hG T hTs, fun H2 hT2 => ?_⟩
  refine ⟨ds.length, fun i Hc => FrA Ts H Hc ∧ (ds.take i).all p = true, ⟨.of_tab hTs hG hT2, rfl⟩, fun Hn wn => ⟨⟨_, SqT.of (wn.1.2 _ _ na ea), by omega⟩, ?_⟩, fun i Hc hi wi => ⟨?_, fun x H' hy => ?_⟩⟩
  · have hall := wn.2
    rw [List.take_length] at hall
    have e := q Hn wn.1
    rw [hall] at e
    exact e
  · have hx : i < xs.length := by omega
    exact ⟨_, xs[i], SqT.of (wi.1.2 _ _ na ea), List.getElem?_eq_getElem hx⟩
  · obtain ⟨rfl, hx⟩ := hy
    have hx := hx _ (SqT.of (wi.1.2 _ _ na ea))
    have hdi : ds[i]? = some ds[i] := List.getElem?_eq_getElem hi
    refine ⟨by simp [wipe, List.set_set], ?_⟩
    refine turn i x ds[i] _ hx hdi wi.1 _ fun Hy fy => ⟨p ds[i], rfl, ?_⟩
    have ta := take_all (p := p) hdi
    rw [wi.2, Bool.true_and] at ta
    cases hn : p ds[i] with
    | true => exact ⟨wi.1.trans fy, ta.trans hn⟩
    | false =>
      have e := q Hy (wi.1.trans fy)
      have hno : ds.all p = false := by
        rw [Bool.eq_false_iff]
        intro z
        rw [List.all_eq_true.mp z ds[i] (List.getElem_mem hi)] at hn
        cases hn
      rw [hno] at e
      exact e
section
variable {P : Program} {w : World} {K : PySem.W.Frag} {mg : Str → Option Value} {base : Heap} {Ts : List Addr}
def spIsWhole : Sp := fun vs H Q _ => ∃ (v : V) (d : Tr), vs = [v] ∧ Th H v d ∧ Q (.bl (wholeT d)) H
theorem ok_isWhole {f : Addr} {fd : FuncData} {k : Nat} (F : Fun K "is_whole" "is_whole" sIsWhole f fd) (mi : mg "isinstance" = none) (mn : mg "int" = none) (mb : mg "bool" = none) :
    FnOk P w K mg base CX0 (k + 1) f fd ["thing"] spIsWhole := by
  refine F.ok scIsWhole (fun vs H Q E h => ?_) (fun cdv A outer s H vs Q E hr h => ?_)
  · obtain ⟨v, d, rfl, _⟩ := h
    rfl
  · obtain ⟨v, d, rfl, hv, q⟩ := h
    refine ⟨_, pss_one (ps_ret (pe_and (pe_callB call_isi (by rfl) mi (by decide +kernel)
          (pa_cons (pv 0) (pa_cons (pe_bltn (v := .ty "int") (by rfl) mn (by decide +kernel) rfl) pa_nil)))
        (pe_one (pe_not (pe_callB call_isi (by rfl) mi (by decide +kernel)
          (pa_cons (pv 0) (pa_cons (pe_bltn (v := .ty "bool") (by rfl) mb (by decide +kernel) rfl) pa_nil))))))), ?_⟩
    rcases hv.isInt (K := K) with ⟨b, rfl, rfl⟩ | ⟨n, rfl, rfl⟩ | ⟨hn, t, ht, hk⟩
    · refine ⟨.bl b, rfl, .bl b, .ty "int", _, _, true, rfl, .ty _, .base (.bl b), kit_ty (by decide +kernel), true, rfl, ?_⟩
      exact ⟨.bl b, rfl, .bl b, .ty "bool", _, _, true, rfl, .ty _, .base (.bl b), kit_ty (by decide +kernel), true, rfl, q⟩
    · refine ⟨.int n, rfl, .int n, .ty "int", _, _, true, rfl, .ty _, .base (.int n), kit_ty (by decide +kernel), true, rfl, ?_⟩
      exact ⟨.int n, rfl, .int n, .ty "bool", _, _, false, rfl, .ty _, .base (.int n), kit_ty (by decide +kernel), false, rfl, q⟩
    · refine ⟨v, rfl, v, .ty "int", t, _, false, rfl, .ty _, ht, hk, false, rfl, ?_⟩
      rw [hn] at q
      exact q
def spWholes (Ts : List Addr) : Sp := fun vs H Q _ => ∃ (v : V) (d : Tr) (m : Int), vs = [v, .int m] ∧ Th H v d ∧ AllT Ts H ∧
  ∀ H', FrA Ts H H' → Q (.bl (wholesT m d)) H'
theorem ok_wholes {f c T fI : Addr} {fdI : FuncData} {oc kV doc pm ct : Value} {od an : Option Addr} {osl : Array (Option Value)} {k : Nat} (hTs : T ∈ Ts)
    (lk : K.lookup f = some ⟨oc, od, .func (PySem.W.fnOf "are_wholes" "are_wholes" (defArgs sWholes) (defBody sWholes) (defScope sWholes) .none kV doc pm an (.ref c) ct), osl⟩)
    (hcd : PySem.W.codeIn K (.ref c) "are_wholes" = true) (TB : GxR.TabB base mg c T)
    (GI : FnOk P w K mg base CX0 1 fI fdI ["thing"] spIsWhole) (kI : PySem.W.keepIn K (.ref fI) = true) (bI : Binds K fdI ["thing"] []) (gI : mg "is_whole" = some (.ref fI))
    (mi : mg "isinstance" = none) (mt : mg "tuple" = none) (ma : mg "all" = none) (ml : mg "len" = none) :
    FnOk P w K mg base CX0 (k + 3) f (PySem.W.fnOf "are_wholes" "are_wholes" (defArgs sWholes) (defBody sWholes) (defScope sWholes) .none kV doc pm an (.ref c) ct) ["thing", "many"] (spWholes Ts) := by
  refine fn_of lk hcd scWholes (fun vs H Q E h => ?_) (fun A outer s H vs Q E hr h => ?_)
  · obtain ⟨n, d, m, rfl, _⟩ := h
    rfl
  · obtain ⟨v, d, m, rfl, hv, hG, q⟩ := h
    have hr2 := hr.mono (show 2 ≤ k + 2 by omega)
    refine ⟨_, pss_one (ps_ret (pe_and (pe_callB call_isi (by rfl) mi (by decide +kernel)
          (pa_cons (pv 0) (pa_cons (pe_bltn (v := .ty "tuple") (by rfl) mt (by decide +kernel) rfl) pa_nil)))
        (pe_and (pe_cmpR op_eq (pe_callB call_len_seq (by rfl) ml PySem.boot_len (pa_cons (pv 0) pa_nil)) (pv 1) (nomark _))
        (pe_one (GX.pe_allG (c := c) (T := T) (own := [("part", 2)]) (wi := iTup K (tVar 0)) (g := gName 2) (te := tCall spIsWhole [] E0 (tCons (tVar 2) tNil)) hr2 (by rfl) ma TB rfl rfl scWholes.nd (pi_tup (pv 0))
            (blkOk_by (own := [("part", 2)]) (N := ["thing", "many", "part"]) (sc := defScope sWholes) (by decide +kernel)) (by decide +kernel) rfl
            (fun _ _ _ _ _ => pg_name (i := 2) scWholes.nd rfl (Or.inl rfl))
            (fun _ _ _ _ _ => pe_call GI (GX.room_gen hr2) (by rfl) gI kI bI .nil pass0 (pa_cons (pv 2) pa_nil))))))), ?_⟩
    obtain ⟨t, ht, hk⟩ := hv.isTup (K := K)
    refine ⟨v, rfl, v, .ty "tuple", t, _, My.isTup d, rfl, .ty _, ht, hk, _, rfl, ?_⟩
    cases hd : My.isTup d with
    | false =>
      have e := q H (.refl hG)
      rw [show wholesT m d = false by
        cases d with
        | t l => cases hd
        | _ => rfl] at e
      exact e
    | true =>
      obtain ⟨a, xs, ds, rfl, rfl, ea, hl, hs, hh⟩ := hv.tups hd
      refine ⟨.ref a, rfl, a, xs, rfl, .inr (SqT.of ea), .int m, rfl, rfl, _, rfl, ?_⟩
      by_cases hm : (ds.length : Int) = m
      · have e1 : decide (V.int ((xs.length : Nat) : Int) = V.int m) = true := decide_eq_true (by rw [hl, hm])
        show if decide (V.int ((xs.length : Nat) : Int) = V.int m) = true then _ else _
        rw [if_pos e1]
        refine allT_ok (p := wholeT) (ds := ds) hTs hG ea hl rfl (fun i x d Hc hx hd fr R r => ?_) fun H' f => ?_
        · exact ⟨x, rfl, x, d, rfl, (hh i x d hx hd).keep (fr.kt hG), r _ (.refl fr.1)⟩
        · have e := q H' f
          rw [show wholesT m (.t ds) = ds.all wholeT by
            show (decide ((ds.length : Int) = m) && ds.all wholeT) = _
            rw [decide_eq_true hm, Bool.true_and]] at e
          exact e
      · have e1 : decide (V.int ((xs.length : Nat) : Int) = V.int m) = false := decide_eq_false (fun z => hm (by rw [← hl]; exact V.int.inj z))
        show if decide (V.int ((xs.length : Nat) : Int) = V.int m) = true then _ else _
        rw [if_neg (by rw [e1]; decide)]
        have e := q H (.refl hG)
        rw [show wholesT m (.t ds) = false by
          show (decide ((ds.length : Int) = m) && ds.all wholeT) = _
          rw [decide_eq_false hm, Bool.false_and]] at e
        exact e
end
end My
namespace My
open PySem PySem.Spec PyProof.Rows L2
/-- len of a list or a tuple -/
def lenSq (K : PySem.W.Frag) : List V → Hp → VK → Prop := fun xs H Q => ∃ p ys, xs = [.ref p] ∧ (SqL K H p ys ∨ SqT K H p ys) ∧ Q (.int ys.length) H
section
variable {P : Program} {w : World} {K : PySem.W.Frag} {mg : Str → Option Value} {base : Heap} {Ts : List Addr}
def spPlaces (Ts : List Addr) : Sp := fun vs H Q _ => ∃ (v : V) (d : Tr) (m l : Int), vs = [v, .int m, .int l] ∧ Th H v d ∧ AllT Ts H ∧
  ∀ H', FrA Ts H H' → Q (.bl (placesT m l d)) H'
theorem ok_places {f c T fI : Addr} {fdI : FuncData} {oc kV doc pm ct : Value} {od an : Option Addr} {osl : Array (Option Value)} {k : Nat} (hTs : T ∈ Ts)
    (lk : K.lookup f = some ⟨oc, od, .func (PySem.W.fnOf "are_places" "are_places" (defArgs sPlaces) (defBody sPlaces) (defScope sPlaces) .none kV doc pm an (.ref c) ct), osl⟩)
    (hcd : PySem.W.codeIn K (.ref c) "are_places" = true) (TB : GxR.TabB base mg c T)
    (GI : FnOk P w K mg base CX0 3 fI fdI ["thing", "many"] (spWholes Ts)) (kI : PySem.W.keepIn K (.ref fI) = true) (bI : Binds K fdI ["thing", "many"] []) (gI : mg "are_wholes" = some (.ref fI))
    (ma : mg "all" = none) :
    FnOk P w K mg base CX0 (k + 4) f (PySem.W.fnOf "are_places" "are_places" (defArgs sPlaces) (defBody sPlaces) (defScope sPlaces) .none kV doc pm an (.ref c) ct) ["thing", "many", "length"] (spPlaces Ts) := by
  refine fn_of lk hcd scPlaces (fun vs H Q E h => ?_) (fun A outer s H vs Q E hr h => ?_)
  · obtain ⟨n, d, m, l, rfl, _⟩ := h
    rfl
  · obtain ⟨v, d, m, l, rfl, hv, hG, q⟩ := h
    have hr3 := hr.mono (show 3 ≤ k + 3 by omega)
    refine ⟨_, pss_one (ps_ret (pe_and (pe_call GI hr3 (by rfl) gI kI bI .nil pass0 (pa_cons (pv 0) (pa_cons (pv 1) pa_nil)))
        (pe_one (GX.pe_allG (c := c) (T := T) (own := [("place", 3)]) (wi := iTup K (tVar 0)) (g := gName 3) (te := _) hr3 (by rfl) ma TB rfl rfl scPlaces.nd (pi_tup (pv 0))
            (blkOk_by (own := [("place", 3)]) (N := ["thing", "many", "length", "place"]) (sc := defScope sPlaces) (by decide +kernel)) (by decide +kernel) rfl
            (fun _ _ _ _ _ => pg_name (i := 3) scPlaces.nd rfl (Or.inl rfl))
            (fun _ _ _ _ _ => pe_chain op_le op_le pe_int (pv 3) (pv 2)))))), ?_⟩
    refine ⟨v, rfl, .int m, rfl, v, d, m, rfl, hv, hG, fun H1 f1 => ⟨_, rfl, ?_⟩⟩
    cases hw : wholesT m d with
    | false =>
      have e := q H1 f1
      rw [show placesT m l d = false by
        cases d with
        | t ds =>
          show (wholesT m (.t ds) && ds.all (inT l)) = false
          rw [hw, Bool.false_and]
        | _ => rfl] at e
      exact e
    | true =>
      obtain ⟨ds, rfl⟩ : ∃ ds, d = .t ds := by
        cases d with
        | t ds => exact ⟨ds, rfl⟩
        | _ => cases hw
      have hw' : (decide ((ds.length : Int) = m) && ds.all wholeT) = true := hw
      rw [Bool.and_eq_true] at hw'
      obtain ⟨a, xs, ds', rfl, e', ea, hl, hs, hh⟩ := (hv.keep (f1.kt hG)).tups rfl
      cases e'
      refine allT_ok (p := inT l) (ds := ds) hTs f1.1 ea hl rfl (fun i x d Hc hx hd fr R r => ?_) fun H' f => ?_
      · have wd := List.all_eq_true.mp hw'.2 d (List.mem_of_getElem? hd)
        obtain ⟨n, rfl⟩ : ∃ n, d = .i n := by
          cases d with
          | i n => exact ⟨n, rfl⟩
          | _ => cases wd
        have hx2 := hh i x _ hx hd
        obtain rfl : x = .int n := by
          cases hx2
          rfl
        have r0 := r Hc (.refl fr.1)
        refine ⟨.int n, rfl, 0, n, rfl, rfl, _, rfl, ?_⟩
        by_cases h1 : (0 : Int) ≤ n
        · rw [decide_eq_true h1]
          refine ⟨.int l, rfl, n, l, rfl, rfl, ?_⟩
          have e : inT l (.i n) = decide (n ≤ l) := by
            show (decide (0 ≤ n) && decide (n ≤ l)) = _
            rw [decide_eq_true h1, Bool.true_and]
          rw [e] at r0
          exact r0
        · rw [decide_eq_false h1]
          have e : inT l (.i n) = false := by
            show (decide (0 ≤ n) && decide (n ≤ l)) = _
            rw [decide_eq_false h1, Bool.false_and]
          rw [e] at r0
          exact r0
      · have e := q H' (f1.trans f)
        rw [show placesT m l (.t ds) = ds.all (inT l) by
          show (wholesT m (.t ds) && ds.all (inT l)) = _
          rw [hw, Bool.true_and]] at e
        exact e
def spRows (Ts : List Addr) : Sp := fun vs H Q _ => ∃ (v : V) (d : Tr) (m : Int), vs = [v, .int m] ∧ Th H v d ∧ AllT Ts H ∧
  ∀ H', FrA Ts H H' → Q (.bl (rowsT m d)) H'
theorem ok_rows {f c T fI : Addr} {fdI : FuncData} {oc kV doc pm ct : Value} {od an : Option Addr} {osl : Array (Option Value)} {k : Nat} (hTs : T ∈ Ts)
    (lk : K.lookup f = some ⟨oc, od, .func (PySem.W.fnOf "are_rows" "are_rows" (defArgs sRows) (defBody sRows) (defScope sRows) .none kV doc pm an (.ref c) ct), osl⟩)
    (hcd : PySem.W.codeIn K (.ref c) "are_rows" = true) (TB : GxR.TabB base mg c T)
    (GI : FnOk P w K mg base CX0 3 fI fdI ["thing", "many"] (spWholes Ts)) (kI : PySem.W.keepIn K (.ref fI) = true) (bI : Binds K fdI ["thing", "many"] []) (gI : mg "are_wholes" = some (.ref fI))
    (mi : mg "isinstance" = none) (mt : mg "tuple" = none) (ma : mg "all" = none) (ml : mg "len" = none) :
    FnOk P w K mg base CX0 (k + 5) f (PySem.W.fnOf "are_rows" "are_rows" (defArgs sRows) (defBody sRows) (defScope sRows) .none kV doc pm an (.ref c) ct) ["thing", "many"] (spRows Ts) := by
  refine fn_of lk hcd scRows (fun vs H Q E h => ?_) (fun A outer s H vs Q E hr h => ?_)
  · obtain ⟨n, d, m, rfl, _⟩ := h
    rfl
  · obtain ⟨v, d, m, rfl, hv, hG, q⟩ := h
    have hr4 := hr.mono (show 4 ≤ k + 4 by omega)
    refine ⟨_, pss_one (ps_ret (pe_and (pe_callB call_isi (by rfl) mi (by decide +kernel)
          (pa_cons (pv 0) (pa_cons (pe_bltn (v := .ty "tuple") (by rfl) mt (by decide +kernel) rfl) pa_nil)))
        (pe_and (pe_cmpR op_eq (pe_callB call_len_seq (by rfl) ml PySem.boot_len (pa_cons (pv 0) pa_nil)) (pv 1) (nomark _))
        (pe_and (GX.pe_allG (c := c) (T := T) (own := [("row", 2)]) (wi := iTup K (tVar 0)) (g := gName 2) (te := tCB (rIsi K) (tCons (tVar 2) (tCons (tC (.ty "tuple")) tNil))) hr4 (by rfl) ma TB rfl rfl scRows.nd (pi_tup (pv 0))
            (blkOk_by (own := [("row", 2)]) (N := ["thing", "many", "row"]) (sc := defScope sRows) (by decide +kernel)) (by decide +kernel) rfl
            (fun _ _ _ _ _ => pg_name (i := 2) scRows.nd rfl (Or.inl rfl))
            (fun _ _ _ _ _ => pe_callB (id := "isinstance") call_isi (by rfl) mi (by decide +kernel) (pa_cons (pv 2) (pa_cons (pe_bltn (v := .ty "tuple") (by rfl) mt (by decide +kernel) rfl) pa_nil))))
        (pe_one (GX.pe_allG (c := c) (T := T) (own := [("row", 2)]) (wi := iTup K (tVar 0)) (g := gName 2) (te := tCall (spWholes Ts) [] E0 (tCons (tVar 2) (tCons (tCB (lenSq K) (tCons (tOp (rIxT K) (tVar 0) (tC (.int 0))) tNil)) tNil))) hr4 (by rfl) ma TB rfl rfl scRows.nd (pi_tup (pv 0))
            (blkOk_by (own := [("row", 2)]) (N := ["thing", "many", "row"]) (sc := defScope sRows) (by decide +kernel)) (by decide +kernel) rfl
            (fun _ _ _ _ _ => pg_name (i := 2) scRows.nd rfl (Or.inl rfl))
            (fun _ _ _ _ _ => pe_call GI (GX.room_gen hr4) (by rfl) gI kI bI .nil pass0 (pa_cons (pv 2) (pa_cons (pe_callB (id := "len") call_len_seq (by rfl) ml PySem.boot_len
              (pa_cons (pe_ix ix_tup (pv 0) pe_int (fun _ _ => rfl)) pa_nil)) pa_nil))))))))), ?_⟩
    obtain ⟨t, ht, hk⟩ := hv.isTup (K := K)
    refine ⟨v, rfl, v, .ty "tuple", t, _, My.isTup d, rfl, .ty _, ht, hk, _, rfl, ?_⟩
    cases hd : My.isTup d with
    | false =>
      have e := q H (.refl hG)
      rw [show rowsT m d = false by
        cases d with
        | t l => cases hd
        | _ => rfl] at e
      exact e
    | true =>
      obtain ⟨a, xs, ds, rfl, rfl, ea, hl, hs, hh⟩ := hv.tups hd
      have na := hG.not ea fun q z => nomatch z
      refine ⟨.ref a, rfl, a, xs, rfl, .inr (SqT.of ea), .int m, rfl, rfl, _, rfl, ?_⟩
      by_cases hm : (ds.length : Int) = m
      · have e1 : decide (V.int ((xs.length : Nat) : Int) = V.int m) = true := decide_eq_true (by rw [hl, hm])
        show if decide (V.int ((xs.length : Nat) : Int) = V.int m) = true then _ else _
        rw [if_pos e1]
        refine allT_ok (p := My.isTup) (ds := ds) hTs hG ea hl rfl (fun i x d Hc hx hd fr R r => ?_) fun H1 f1 => ⟨_, rfl, ?_⟩
        · obtain ⟨t', ht', hk'⟩ := ((hh i x d hx hd).keep (fr.kt hG)).isTup (K := K)
          exact ⟨x, rfl, x, .ty "tuple", t', _, My.isTup d, rfl, .ty _, ht', hk', r _ (.refl fr.1)⟩
        · have hR : rowsT m (.t ds) = (ds.all My.isTup && ds.all (wholesT (lenT (headT (.t ds))))) := by
            show (decide ((ds.length : Int) = m) && ds.all My.isTup && ds.all (wholesT (lenT (headT (.t ds))))) = _
            rw [decide_eq_true hm, Bool.true_and]
          cases ha : ds.all My.isTup with
          | false =>
            have e := q H1 f1
            rw [hR, ha, Bool.false_and] at e
            exact e
          | true =>
            have ea1 := f1.2 _ _ na ea
            refine allT_ok (p := wholesT (lenT (headT (.t ds)))) (ds := ds) hTs f1.1 ea1 hl rfl (fun i x d Hc hx hd fr R r => ?_) fun H2 f2 => ?_
            · obtain ⟨d0, dr, rfl⟩ : ∃ d0 dr, ds = d0 :: dr := by
                cases ds with
                | nil => simp at hd
                | cons d0 dr => exact ⟨d0, dr, rfl⟩
              obtain ⟨x0, xr, rfl⟩ : ∃ x0 xr, xs = x0 :: xr := by
                cases xs with
                | nil => simp at hl
                | cons x0 xr => exact ⟨x0, xr, rfl⟩
              have t0 : My.isTup d0 = true := List.all_eq_true.mp ha d0 List.mem_cons_self
              have fc := f1.trans fr
              obtain ⟨b, ys, es, rfl, rfl, eb, hbl, _, _⟩ := ((hh 0 x0 d0 rfl rfl).keep (fc.kt hG)).tups t0
              refine ⟨x, rfl, .ref a, rfl, a, _, 0, .ref b, rfl, rfl, SqT.of (fc.2 _ _ na ea), atI_nat (j := 0) rfl, b, ys, rfl, .inr (SqT.of eb), ?_⟩
              refine ⟨x, d, (ys.length : Nat), rfl, (hh i x d hx hd).keep (fc.kt hG), fr.1, fun Hy fy => ?_⟩
              have e := r Hy fy
              rw [hbl]
              exact e
            · have e := q H2 (f1.trans f2)
              rw [hR, ha, Bool.true_and] at e
              exact e
      · have e1 : decide (V.int ((xs.length : Nat) : Int) = V.int m) = false := decide_eq_false (fun z => hm (by rw [← hl]; exact V.int.inj z))
        show if decide (V.int ((xs.length : Nat) : Int) = V.int m) = true then _ else _
        rw [if_neg (by rw [e1]; decide)]
        have e := q H (.refl hG)
        rw [show rowsT m (.t ds) = false by
          show (decide ((ds.length : Int) = m) && ds.all My.isTup && ds.all (wholesT (lenT (headT (.t ds))))) = _
          rw [decide_eq_false hm, Bool.false_and, Bool.false_and]] at e
        exact e
def spLength : Sp := fun vs H Q _ => ∃ (v : V) (b c : List Tr) (r : List Tr), vs = [v] ∧ Th H v (.t (.t (.t b :: c) :: r)) ∧ Q (.int (b.length : Nat)) H
theorem ok_length {f : Addr} {fd : FuncData} {k : Nat} (F : Fun K "length_of" "length_of" sLength f fd) (ml : mg "len" = none) :
    FnOk P w K mg base CX0 (k + 1) f fd ["standing"] spLength := by
  refine F.ok scLength (fun vs H Q E h => ?_) (fun cdv A outer s H vs Q E hr h => ?_)
  · obtain ⟨v, b, c, r, rfl, _⟩ := h
    rfl
  · obtain ⟨v, b, c, r, rfl, hv, q⟩ := h
    refine ⟨_, pss_one (ps_ret (pe_callB call_len_seq (by rfl) ml PySem.boot_len (pa_cons (pe_ix ix_tup (pe_ix ix_tup (pv 0) pe_int (fun _ _ => rfl)) pe_int (fun _ _ => rfl)) pa_nil))), ?_⟩
    obtain ⟨a, xs, ds, rfl, e1, ea, hl, hs, hh⟩ := hv.tups rfl
    cases e1
    obtain ⟨x0, xr, rfl⟩ : ∃ x0 xr, xs = x0 :: xr := by
      cases xs with
      | nil => simp at hl
      | cons x0 xr => exact ⟨x0, xr, rfl⟩
    obtain ⟨a1, xs1, ds1, rfl, e2, ea1, hl1, _, hh1⟩ := (hh 0 _ _ rfl rfl).tups rfl
    cases e2
    obtain ⟨y0, yr, rfl⟩ : ∃ y0 yr, xs1 = y0 :: yr := by
      cases xs1 with
      | nil => simp at hl1
      | cons x0 xr => exact ⟨x0, xr, rfl⟩
    obtain ⟨a2, xs2, ds2, rfl, e3, ea2, hl2, _, _⟩ := (hh1 0 _ _ rfl rfl).tups rfl
    cases e3
    refine ⟨.ref a, rfl, a, _, 0, .ref a1, rfl, rfl, SqT.of ea, atI_nat (j := 0) rfl, a1, _, 0, .ref a2, rfl, rfl, SqT.of ea1, atI_nat (j := 0) rfl, a2, xs2, rfl, .inr (SqT.of ea2), ?_⟩
    rw [hl2]
    exact q
end
end My
namespace My
open PySem PySem.Spec PyProof.Rows L2
def standT (r l u : Nat) : Tr → Bool
  | .t [a, b, c] => rowsT (r : Int) a && placesT (l : Int) (lenT (headT a)) b && wholesT (u : Int) c
  | _ => false
theorem rows_head {r : Int} {a : Tr} (h : rowsT r a = true) (h1 : 1 ≤ r) : ∃ b c, a = .t (.t b :: c) := by
  cases a with
  | t ds =>
    have h' : (decide ((ds.length : Int) = r) && ds.all My.isTup && ds.all (wholesT (lenT (headT (.t ds))))) = true := h
    rw [Bool.and_eq_true, Bool.and_eq_true] at h'
    have hl := of_decide_eq_true h'.1.1
    cases ds with
    | nil =>
      have : (0 : Int) = r := hl
      omega
    | cons d dr =>
      have t0 := List.all_eq_true.mp h'.1.2 d List.mem_cons_self
      cases d with
      | t b => exact ⟨b, dr, rfl⟩
      | _ => cases t0
  | _ => cases h
section
variable {P : Program} {w : World} {K : PySem.W.Frag} {mg : Str → Option Value} {base : Heap} {Ts : List Addr}
def spIsStanding (Ts : List Addr) : Sp := fun vs H Q _ => ∃ (c : Addr) (R L U : List Str) (v : V) (d : Tr), vs = [.ref c, v] ∧ Th H (.ref c) (.t [FF R, FF L, FF U]) ∧
  castT (.t [FF R, FF L, FF U]) = true ∧ 1 ≤ R.length ∧ Th H v d ∧ AllT Ts H ∧ ∀ H', FrA Ts H H' → Q (.bl (standT R.length L.length U.length d)) H'
theorem ok_isStanding {f fC fR fP fW fL : Addr} {fd fdC fdR fdP fdW fdL : FuncData} (F : Fun K "is_standing" "is_standing" sIsStanding f fd)
    (GC : FnOk P w K mg base CX0 5 fC fdC ["thing"] (spIsCast Ts)) (kC : PySem.W.keepIn K (.ref fC) = true) (bC : Binds K fdC ["thing"] []) (gC : mg "is_cast" = some (.ref fC))
    (GR : FnOk P w K mg base CX0 5 fR fdR ["thing", "many"] (spRows Ts)) (kR : PySem.W.keepIn K (.ref fR) = true) (bR : Binds K fdR ["thing", "many"] []) (gR : mg "are_rows" = some (.ref fR))
    (GP : FnOk P w K mg base CX0 4 fP fdP ["thing", "many", "length"] (spPlaces Ts)) (kP : PySem.W.keepIn K (.ref fP) = true) (bP : Binds K fdP ["thing", "many", "length"] []) (gP : mg "are_places" = some (.ref fP))
    (GW : FnOk P w K mg base CX0 3 fW fdW ["thing", "many"] (spWholes Ts)) (kW : PySem.W.keepIn K (.ref fW) = true) (bW : Binds K fdW ["thing", "many"] []) (gW : mg "are_wholes" = some (.ref fW))
    (GL : FnOk P w K mg base CX0 1 fL fdL ["standing"] spLength) (kL : PySem.W.keepIn K (.ref fL) = true) (bL : Binds K fdL ["standing"] []) (gL : mg "length_of" = some (.ref fL))
    (mi : mg "isinstance" = none) (mt : mg "tuple" = none) (ml : mg "len" = none) :
    FnOk P w K mg base CX0 6 f fd ["cast", "thing"] (spIsStanding Ts) := by
  refine F.ok scIsStanding (fun vs H Q E h => ?_) (fun cdv A outer s H vs Q E hr h => ?_)
  · obtain ⟨c, R, L, U, v, d, rfl, _⟩ := h
    rfl
  · obtain ⟨c, R, L, U, v, d, rfl, hc, hcast, hR1, hv, hG, q⟩ := h
    refine ⟨_, pss_one (ps_ret (pe_and (pe_call GC hr (by rfl) gC kC bC .nil pass0 (pa_cons (pv 0) pa_nil))
        (pe_and (pe_callB call_isi (by rfl) mi (by decide +kernel) (pa_cons (pv 1) (pa_cons (pe_bltn (v := .ty "tuple") (by rfl) mt (by decide +kernel) rfl) pa_nil)))
        (pe_and (pe_cmpR op_eq (pe_callB call_len_seq (by rfl) ml PySem.boot_len (pa_cons (pv 1) pa_nil)) pe_int (nomark _))
        (pe_and (pe_call GR hr (by rfl) gR kR bR .nil pass0 (pa_cons (pe_ix ix_tup (pv 1) pe_int (fun _ _ => rfl))
          (pa_cons (pe_callB call_len_seq (by rfl) ml PySem.boot_len (pa_cons (pe_ix ix_tup (pv 0) pe_int (fun _ _ => rfl)) pa_nil)) pa_nil)))
        (pe_and (pe_call GP (hr.mono (by decide)) (by rfl) gP kP bP .nil pass0 (pa_cons (pe_ix ix_tup (pv 1) pe_int (fun _ _ => rfl))
          (pa_cons (pe_callB call_len_seq (by rfl) ml PySem.boot_len (pa_cons (pe_ix ix_tup (pv 0) pe_int (fun _ _ => rfl)) pa_nil))
          (pa_cons (pe_call GL (hr.mono (by decide)) (by rfl) gL kL bL .nil pass0 (pa_cons (pv 1) pa_nil)) pa_nil))))
        (pe_one (pe_call GW (hr.mono (by decide)) (by rfl) gW kW bW .nil pass0 (pa_cons (pe_ix ix_tup (pv 1) pe_int (fun _ _ => rfl))
          (pa_cons (pe_callB call_len_seq (by rfl) ml PySem.boot_len (pa_cons (pe_ix ix_tup (pv 0) pe_int (fun _ _ => rfl)) pa_nil)) pa_nil)))))))))), ?_⟩
    refine ⟨.ref c, rfl, .ref c, _, rfl, hc, hG, fun H1 f1 => ?_⟩
    rw [hcast]
    refine ⟨true, rfl, ?_⟩
    have hv1 := hv.keep (f1.kt hG)
    have hc1 := hc.keep (f1.kt hG)
    have q1 : ∀ H', FrA Ts H1 H' → Q (.bl (standT R.length L.length U.length d)) H' := fun H' f => q H' (f1.trans f)
    have hG1 := f1.1
    clear q f1 hv hc hG
    obtain ⟨t, ht, hk⟩ := hv1.isTup (K := K)
    refine ⟨v, rfl, v, .ty "tuple", t, _, My.isTup d, rfl, .ty _, ht, hk, _, rfl, ?_⟩
    cases hd : My.isTup d with
    | false =>
      have e := q1 H1 (.refl hG1)
      rw [show standT R.length L.length U.length d = false by
        cases d with
        | t l => cases hd
        | _ => rfl] at e
      exact e
    | true =>
      obtain ⟨a, xs, ds, rfl, rfl, ea, hl, hs, hh⟩ := hv1.tups hd
      obtain ⟨c', cs, cds, e0, e1, ec, hcl, _, hch⟩ := hc1.tups rfl
      cases e0
      cases e1
      obtain ⟨c0, c1, c2, rfl⟩ : ∃ c0 c1 c2, cs = [c0, c1, c2] := by
        match cs, hcl with
        | [c0, c1, c2], _ => exact ⟨c0, c1, c2, rfl⟩
      obtain ⟨p0, rfl⟩ := (hch 0 _ _ rfl rfl).ref
      obtain ⟨p1, rfl⟩ := (hch 1 _ _ rfl rfl).ref
      obtain ⟨p2, rfl⟩ := (hch 2 _ _ rfl rfl).ref
      have na := hG1.not ea fun q z => nomatch z
      have nc := hG1.not ec fun q z => nomatch z
      refine ⟨.ref a, rfl, a, xs, rfl, .inr (SqT.of ea), rfl, _, rfl, ?_⟩
      by_cases h3 : xs.length = 3
      · obtain ⟨d0, d1, d2, rfl⟩ : ∃ d0 d1 d2, ds = [d0, d1, d2] := by
          rw [hl] at h3
          match ds, h3 with
          | [d0, d1, d2], _ => exact ⟨d0, d1, d2, rfl⟩
        obtain ⟨x0, x1, x2, rfl⟩ : ∃ x0 x1 x2, xs = [x0, x1, x2] := by
          match xs, h3 with
          | [x0, x1, x2], _ => exact ⟨x0, x1, x2, rfl⟩
        refine iteT ?_
        have lR : ((R.map V.str).length : Int) = (R.length : Int) := by rw [List.length_map]
        have lL : ((L.map V.str).length : Int) = (L.length : Int) := by rw [List.length_map]
        have lU : ((U.map V.str).length : Int) = (U.length : Int) := by rw [List.length_map]
        refine ⟨.ref a, rfl, a, _, 0, x0, rfl, rfl, SqT.of ea, atI_nat (j := 0) rfl, .ref c, rfl, c, _, 0, .ref p0, rfl, rfl, SqT.of ec, atI_nat (j := 0) rfl, p0, _, rfl, .inr (SqT.of (hch 0 _ _ rfl rfl).texts.1), ?_⟩
        refine ⟨x0, d0, _, rfl, hh 0 _ _ rfl rfl, hG1, fun H2 f2 => ⟨_, rfl, ?_⟩⟩
        rw [lR]
        have hS : standT R.length L.length U.length (.t [d0, d1, d2]) = (rowsT (R.length : Int) d0 && placesT (L.length : Int) (lenT (headT d0)) d1 && wholesT (U.length : Int) d2) := rfl
        cases h0 : rowsT (R.length : Int) d0 with
        | false =>
          have e := q1 H2 f2
          rw [hS, h0, Bool.false_and, Bool.false_and] at e
          exact e
        | true =>
          obtain ⟨b, cc, rfl⟩ := rows_head h0 (by omega)
          have k2 := f2.kt hG1
          have ea2 := f2.2 _ _ na ea
          have ec2 := f2.2 _ _ nc ec
          refine ⟨.ref a, rfl, a, _, 1, x1, rfl, rfl, SqT.of ea2, atI_nat (j := 1) rfl, .ref c, rfl, c, _, 1, .ref p1, rfl, rfl, SqT.of ec2, atI_nat (j := 1) rfl, p1, _, rfl, .inr (SqT.of ((hch 1 _ _ rfl rfl).keep k2).texts.1), ?_⟩
          refine ⟨.ref a, rfl, .ref a, b, cc, [d1, d2], rfl, hv1.keep k2, ?_⟩
          refine ⟨x1, d1, _, _, rfl, (hh 1 _ _ rfl rfl).keep k2, f2.1, fun H3 f3 => ⟨_, rfl, ?_⟩⟩
          rw [lL]
          have f23 := f2.trans f3
          have k3 := f23.kt hG1
          cases h1 : placesT (L.length : Int) (b.length : Nat) d1 with
          | false =>
            have e := q1 H3 f23
            rw [hS, h0, Bool.true_and, show placesT (L.length : Int) (lenT (headT (.t (.t b :: cc)))) d1 = false from h1, Bool.false_and] at e
            exact e
          | true =>
            refine ⟨.ref a, rfl, a, _, 2, x2, rfl, rfl, SqT.of (f23.2 _ _ na ea), atI_nat (j := 2) rfl, .ref c, rfl, c, _, 2, .ref p2, rfl, rfl, SqT.of (f23.2 _ _ nc ec), atI_nat (j := 2) rfl, p2, _, rfl, .inr (SqT.of ((hch 2 _ _ rfl rfl).keep k3).texts.1), ?_⟩
            refine ⟨x2, d2, _, rfl, (hh 2 _ _ rfl rfl).keep k3, f23.1, fun H4 f4 => ?_⟩
            rw [lU]
            have e := q1 H4 (f23.trans f4)
            rw [hS, h0, Bool.true_and, show placesT (L.length : Int) (lenT (headT (.t (.t b :: cc)))) d1 = true from h1, Bool.true_and] at e
            exact e
      · have hne : decide (V.int ((xs.length : Nat) : Int) = V.int 3) = false := decide_eq_false fun z => h3 (by have := V.int.inj z; omega)
        show if decide (V.int ((xs.length : Nat) : Int) = V.int 3) = true then _ else _
        rw [if_neg (by rw [hne]; decide)]
        have e := q1 H1 (.refl hG1)
        have hc : standT R.length L.length U.length (.t ds) = false := by
          match ds, hl with
          | [], _ => rfl
          | [_], _ => rfl
          | [_, _], _ => rfl
          | [_, _, _], hl => exact absurd hl h3
          | _ :: _ :: _ :: _ :: _, _ => rfl
        rw [hc] at e
        exact e
end
end My
namespace My
open PySem PySem.Spec PyProof.Rows L2
abbrev sNumber : Stmt := tp 23
abbrev sStanding : Stmt := tp 24
abbrev sLWhole : Stmt := tp 25
abbrev sLWholes : Stmt := tp 28
abbrev sGood : Stmt := tp 29
theorem scLWhole : FnScope ["_law_thing"] ["_law_thing"] (defScope sLWhole) :=
  ⟨rfl, rfl, rfl, by decide +kernel, rfl, by decide +kernel, by decide +kernel⟩
theorem scLWholes : FnScope ["_law_thing", "_law_many", "_law_one"] ["_law_thing", "_law_many"] (defScope sLWholes) :=
  ⟨rfl, rfl, rfl, by decide +kernel, rfl, by decide +kernel, by decide +kernel⟩
theorem scGood : FnScope ["_law_cast", "_law_thing", "_law_long", "_law_row", "_law_place"] ["_law_cast", "_law_thing"] (defScope sGood) :=
  ⟨rfl, rfl, rfl, by decide +kernel, rfl, by decide +kernel, by decide +kernel⟩
theorem scNumber : FnScope ["_law_deck_here", "_law_way"] ["_law_deck_here"] (defScope sNumber) :=
  ⟨rfl, rfl, rfl, by decide +kernel, rfl, by decide +kernel, by decide +kernel⟩
/-- [x for x in a tuple if it is none of p] -/
theorem lcT_ok {K : PySem.W.Frag} {a : Addr} {H : Hp} {xs : List V} {ds : List Tr} {p : Tr → Bool} {σ : L2.St} {j : Nat} {ti : TE} {tt : TT} {Q : VK}
    (ea : H a = some (.tup xs)) (hl : xs.length = ds.length) (hs : ds.length ≤ 300) (h0 : ∀ R : VK, R (.ref a) H → ti σ H R) (hj : j < σ.length)
    (turn : ∀ (i : Nat) x d Hc, xs[i]? = some x → ds[i]? = some d → Same H Hc → ∀ R : Bool → Hp → Prop, (∀ Hy, Same Hc Hy → R (!p d) Hy) → tt ((wipe σ [j]).set j (some x)) Hc R)
    (q : ∀ D ys H', Same H H' → H' D = some (.lst ys) → ys.isEmpty = ds.all p → Q (.ref D) H') : tLc (iTup K ti) (gName j) tt (tVar j) [j] σ H Q := by
  refine h0 _ ⟨a, rfl, ⟨_, SqT.of ea⟩, fun D hD => ?_⟩
  have na : a ≠ D := ne_of_none ea hD
  refine ⟨fun i m Hc => i + m = xs.length ∧ Same H Hc ∧ ∃ ys, Hc D = some (.lst ys) ∧ ys.length ≤ i ∧ ys.isEmpty = (ds.take i).all p,
    ⟨xs.length, by omega, same_new hD, [], upd_same, Nat.le_refl _, rfl⟩, fun i m Hc hW => ?_⟩
  obtain ⟨him, sC, ys, eD, hy, hye⟩ := hW
  by_cases hi : i < xs.length
  · have hi2 : i < ds.length := by omega
    have hdi : ds[i]? = some ds[i] := List.getElem?_eq_getElem hi2
    have ta := take_all (p := p) hdi
    refine .inr ⟨⟨_, xs[i], SqT.of (sC _ _ ea), List.getElem?_eq_getElem hi⟩, fun H' => Same H H' ∧ ∃ zs, H' D = some (.lst zs) ∧ zs.length ≤ i + 1 ∧ zs.isEmpty = (ds.take (i + 1)).all p,
      fun H' e => ⟨m - 1, by omega, by omega, e⟩, fun x H' hy2 => ?_⟩
    obtain ⟨rfl, hx⟩ := hy2
    have hx := hx _ (SqT.of (sC _ _ ea))
    refine ⟨by simp [wipe, List.set_set], ?_⟩
    refine turn i x ds[i] _ hx hdi sC _ fun Hy sy => ?_
    cases hn : p ds[i] with
    | true =>
      refine ⟨sC.trans sy, ys, sy _ _ eD, by omega, ?_⟩
      rw [ta, hn, Bool.and_true]
      exact hye
    | false =>
      refine ⟨x, by simp [wipe, hj], ys, sy _ _ eD, small (by omega), ?_, ys ++ [x], upd_same, ?_, ?_⟩
      · intro b o e
        have nb : b ≠ D := ne_of_none e hD
        rw [upd_ne nb]
        exact sy _ _ (sC _ _ e)
      · rw [List.length_append]
        show ys.length + 1 ≤ i + 1
        omega
      · rw [ta, hn, Bool.and_false]
        simp
  · refine .inl ⟨⟨_, SqT.of (sC _ _ ea), by omega⟩, q D ys Hc sC eD ?_⟩
    rw [hye, List.take_of_length_le (by omega)]
section
variable {P : Program} {w : World} {K : PySem.W.Frag} {mg : Str → Option Value} {base : Heap} {Ts : List Addr}
theorem ok_lWhole {f : Addr} {fd : FuncData} {k : Nat} (F : Fun K "_law_whole" "_law_whole" sLWhole f fd) (mi : mg "isinstance" = none) (mn : mg "int" = none) (mb : mg "bool" = none) :
    FnOk P w K mg base CX0 (k + 1) f fd ["_law_thing"] spIsWhole := by
  refine F.ok scLWhole (fun vs H Q E h => ?_) (fun cdv A outer s H vs Q E hr h => ?_)
  · obtain ⟨v, d, rfl, _⟩ := h
    rfl
  · obtain ⟨v, d, rfl, hv, q⟩ := h
    refine ⟨_, pss_one (ps_ret (pe_and (pe_callB call_isi (by rfl) mi (by decide +kernel)
          (pa_cons (pv 0) (pa_cons (pe_bltn (v := .ty "int") (by rfl) mn (by decide +kernel) rfl) pa_nil)))
        (pe_one (pe_not (pe_callB call_isi (by rfl) mi (by decide +kernel)
          (pa_cons (pv 0) (pa_cons (pe_bltn (v := .ty "bool") (by rfl) mb (by decide +kernel) rfl) pa_nil))))))), ?_⟩
    rcases hv.isInt (K := K) with ⟨b, rfl, rfl⟩ | ⟨n, rfl, rfl⟩ | ⟨hn, t, ht, hk⟩
    · refine ⟨.bl b, rfl, .bl b, .ty "int", _, _, true, rfl, .ty _, .base (.bl b), kit_ty (by decide +kernel), true, rfl, ?_⟩
      exact ⟨.bl b, rfl, .bl b, .ty "bool", _, _, true, rfl, .ty _, .base (.bl b), kit_ty (by decide +kernel), true, rfl, q⟩
    · refine ⟨.int n, rfl, .int n, .ty "int", _, _, true, rfl, .ty _, .base (.int n), kit_ty (by decide +kernel), true, rfl, ?_⟩
      exact ⟨.int n, rfl, .int n, .ty "bool", _, _, false, rfl, .ty _, .base (.int n), kit_ty (by decide +kernel), false, rfl, q⟩
    · refine ⟨v, rfl, v, .ty "int", t, _, false, rfl, .ty _, ht, hk, false, rfl, ?_⟩
      rw [hn] at q
      exact q
def spLWholes : Sp := fun vs H Q _ => ∃ (v : V) (d : Tr) (m : Int), vs = [v, .int m] ∧ Th H v d ∧ ∀ H', Same H H' → Q (.bl (wholesT m d)) H'
theorem ok_lWholes {f fI : Addr} {fd fdI : FuncData} {k : Nat} (F : Fun K "_law_wholes" "_law_wholes" sLWholes f fd)
    (GI : FnOk P w K mg base CX0 1 fI fdI ["_law_thing"] spIsWhole) (kI : PySem.W.keepIn K (.ref fI) = true) (bI : Binds K fdI ["_law_thing"] []) (gI : mg "_law_whole" = some (.ref fI))
    (mi : mg "isinstance" = none) (mt : mg "tuple" = none) (ml : mg "len" = none) :
    FnOk P w K mg base CX0 (k + 2) f fd ["_law_thing", "_law_many"] spLWholes := by
  refine F.ok scLWholes (fun vs H Q E h => ?_) (fun cdv A outer s H vs Q E hr h => ?_)
  · obtain ⟨v, d, m, rfl, _⟩ := h
    rfl
  · obtain ⟨v, d, m, rfl, hv, q⟩ := h
    have hr1 := hr.mono (show 1 ≤ k + 1 by omega)
    refine ⟨_, pss_one (ps_ret (pe_and (pe_callB call_isi (by rfl) mi (by decide +kernel)
          (pa_cons (pv 0) (pa_cons (pe_bltn (v := .ty "tuple") (by rfl) mt (by decide +kernel) rfl) pa_nil)))
        (pe_and (pe_cmpR op_eq (pe_callB call_len_seq (by rfl) ml PySem.boot_len (pa_cons (pv 0) pa_nil)) (pv 1) (nomark _))
        (pe_one (pe_cmpR (LE.op_eqNil (Nat.lt_of_le_of_lt (Nat.le_add_right _ 64) hr.units)) (pe_lc (own := [("_law_one", 2)]) (g := gName 2) (by rfl) scLWholes.nd (pi_tup (pv 0))
          (blkOk_by (own := [("_law_one", 2)]) (N := ["_law_thing", "_law_many", "_law_one"]) (sc := defScope sLWholes) (by decide +kernel))
          (fun _ _ _ _ _ => pg_name (i := 2) scLWholes.nd rfl (Or.inl rfl))
          (fun _ _ _ _ _ => pts_one (pt_not (pt_val (pe_call GI hr1 (by rfl) gI kI bI .nil pass0 (pa_cons (pv 2) pa_nil)))))
          (fun _ _ _ _ _ => pv 2)) (pe_lst pa_nil) (nomark _)))))), ?_⟩
    obtain ⟨t, ht, hk⟩ := hv.isTup (K := K)
    refine ⟨v, rfl, v, .ty "tuple", t, _, My.isTup d, rfl, .ty _, ht, hk, _, rfl, ?_⟩
    cases hd : My.isTup d with
    | false =>
      have e := q H (Same.refl H)
      rw [show wholesT m d = false by
        cases d with
        | t l => cases hd
        | _ => rfl] at e
      exact e
    | true =>
      obtain ⟨a, xs, ds, rfl, rfl, ea, hl, hs, hh⟩ := hv.tups hd
      refine ⟨.ref a, rfl, a, xs, rfl, .inr (SqT.of ea), .int m, rfl, rfl, _, rfl, ?_⟩
      by_cases hm : (ds.length : Int) = m
      · have e1 : decide (V.int ((xs.length : Nat) : Int) = V.int m) = true := decide_eq_true (by rw [hl, hm])
        show if decide (V.int ((xs.length : Nat) : Int) = V.int m) = true then _ else _
        rw [if_pos e1]
        refine lcT_ok (p := wholeT) (ds := ds) ea hl hs (fun R r => ⟨.ref a, rfl, r⟩) (show 2 < 3 by decide) (fun i x d Hc hx hd sc R r => ?_) fun D ys H' s' eD hy => ?_
        · exact ⟨x, rfl, x, d, rfl, (hh i x d hx hd).keep (.of_same sc), _, rfl, r _ (Same.refl _)⟩
        · refine ⟨Nat.zero_le _, fun l hl' => ⟨D, l, ys, rfl, rfl, same_new hl' _ _ eD, upd_same, ?_⟩⟩
          have e := q _ (s'.trans (same_new (o := .lst []) hl'))
          rw [show wholesT m (.t ds) = ds.all wholeT by
            show (decide ((ds.length : Int) = m) && ds.all wholeT) = _
            rw [decide_eq_true hm, Bool.true_and], ← hy] at e
          exact e
      · have e1 : decide (V.int ((xs.length : Nat) : Int) = V.int m) = false := decide_eq_false (fun z => hm (by rw [← hl]; exact V.int.inj z))
        show if decide (V.int ((xs.length : Nat) : Int) = V.int m) = true then _ else _
        rw [if_neg (by rw [e1]; decide)]
        have e := q H (Same.refl H)
        rw [show wholesT m (.t ds) = false by
          show (decide ((ds.length : Int) = m) && ds.all wholeT) = _
          rw [decide_eq_false hm, Bool.false_and]] at e
        exact e
end
end My
namespace My
open PySem PySem.Spec PyProof.Rows L2
theorem gName_ok {i : Nat} {v : V} {σ : L2.St} {H : Hp} {Q : L2.St → Hp → Prop} (h : Q (σ.set i (some v)) H) : gName i v σ H Q := h
theorem tOp_ok {r : V → V → Hp → VK → Prop} {ta tb : TE} {σ : L2.St} {H : Hp} {Q : VK} (h : ta σ H fun x H1 => tb σ H1 fun y H2 => r x y H2 Q) : tOp r ta tb σ H Q := h
theorem wholes_tup {m : Int} {d : Tr} (h : wholesT m d = true) : My.isTup d = true := by
  cases d with
  | t l => rfl
  | _ => cases h
theorem rowsT_eq {r : Int} {ds : List Tr} {b : List Tr} {cc : List Tr} (hd : ds = .t b :: cc) (hr : (ds.length : Int) = r) : rowsT r (.t ds) = ds.all (wholesT (b.length : Nat)) := by
  subst hd
  show (decide (((Tr.t b :: cc).length : Int) = r) && (Tr.t b :: cc).all My.isTup && (Tr.t b :: cc).all (wholesT (b.length : Nat))) = _
  rw [decide_eq_true hr, Bool.true_and]
  cases h : (Tr.t b :: cc).all (wholesT (b.length : Nat)) with
  | false => rw [Bool.and_false]
  | true =>
    rw [Bool.and_true]
    exact List.all_eq_true.mpr fun x hx => wholes_tup (List.all_eq_true.mp h x hx)
section
variable {P : Program} {w : World} {K : PySem.W.Frag} {mg : Str → Option Value} {base : Heap}
def spGood : Sp := fun vs H Q _ => ∃ (c : Addr) (R L U : List Str) (v : V) (d : Tr), vs = [.ref c, v] ∧ Th H (.ref c) (.t [FF R, FF L, FF U]) ∧ 1 ≤ R.length ∧ Th H v d ∧
  ∀ H', Same H H' → Q (.bl (standT R.length L.length U.length d)) H'
theorem ok_good {f fW : Addr} {fd fdW : FuncData} (F : Fun K "_law_good" "_law_good" sGood f fd)
    (GW : FnOk P w K mg base CX0 2 fW fdW ["_law_thing", "_law_many"] spLWholes) (kW : PySem.W.keepIn K (.ref fW) = true) (bW : Binds K fdW ["_law_thing", "_law_many"] []) (gW : mg "_law_wholes" = some (.ref fW))
    (mi : mg "isinstance" = none) (mt : mg "tuple" = none) (ml : mg "len" = none) :
    FnOk P w K mg base CX0 3 f fd ["_law_cast", "_law_thing"] spGood := by
  refine F.ok scGood (fun vs H Q E h => ?_) (fun cdv A outer s H vs Q E hr h => ?_)
  · obtain ⟨c, R, L, U, v, d, rfl, _⟩ := h
    rfl
  · obtain ⟨c, R, L, U, v, d, rfl, hc, hR1, hv, q⟩ := h
    refine ⟨_, pss_cons (ps_if (PW.pt (pw_or (pt_not (pt_val (pe_callB call_isi (by rfl) mi (by decide +kernel) (pa_cons (pv 1) (pa_cons (pe_bltn (v := .ty "tuple") (by rfl) mt (by decide +kernel) rfl) pa_nil)))))
          (pw_or (pt_cmpR op_ne (pe_callB call_len_seq (by rfl) ml PySem.boot_len (pa_cons (pv 1) pa_nil)) pe_int (nomark _))
          (pw_or1 (pt_not (pt_val (pe_callB call_isi (by rfl) mi (by decide +kernel) (pa_cons (pe_ix ix_tup (pv 1) pe_int (fun _ _ => rfl)) (pa_cons (pe_bltn (v := .ty "tuple") (by rfl) mt (by decide +kernel) rfl) pa_nil))))))))) (pss_one (ps_ret pe_bl)) pss_nil)
      (pss_cons (ps_if (PW.pt (pw_or (pt_cmpR op_ne (pe_callB call_len_seq (by rfl) ml PySem.boot_len (pa_cons (pe_ix ix_tup (pv 1) pe_int (fun _ _ => rfl)) pa_nil))
            (pe_callB call_len_seq (by rfl) ml PySem.boot_len (pa_cons (pe_ix ix_tup (pv 0) pe_int (fun _ _ => rfl)) pa_nil)) (nomark _))
          (pw_or1 (pt_not (pt_val (pe_callB call_isi (by rfl) mi (by decide +kernel) (pa_cons (pe_ix ix_tup (pe_ix ix_tup (pv 1) pe_int (fun _ _ => rfl)) pe_int (fun _ _ => rfl)) (pa_cons (pe_bltn (v := .ty "tuple") (by rfl) mt (by decide +kernel) rfl) pa_nil)))))))) (pss_one (ps_ret pe_bl)) pss_nil)
      (pss_cons (ps_set (i := 2) scGood.nd rfl (.inr rfl) (pe_callB call_len_seq (by rfl) ml PySem.boot_len (pa_cons (pe_ix ix_tup (pe_ix ix_tup (pv 1) pe_int (fun _ _ => rfl)) pe_int (fun _ _ => rfl)) pa_nil)))
      (pss_cons (ps_if (pt_cmpR (LE.op_neNil (Nat.lt_of_le_of_lt (Nat.le_add_right _ 64) hr.units)) (pe_lc (own := [("_law_row", 3)]) (g := gName 3) (by rfl) scGood.nd (pi_tup (pe_ix ix_tup (pv 1) pe_int (fun _ _ => rfl)))
          (blkOk_by (own := [("_law_row", 3)]) (N := ["_law_cast", "_law_thing", "_law_long", "_law_row", "_law_place"]) (sc := defScope sGood) (by decide +kernel))
          (fun _ _ _ _ _ => pg_name (i := 3) scGood.nd rfl (Or.inl rfl))
          (fun _ _ _ _ _ => pts_one (pt_not (pt_val (pe_call GW hr (by rfl) gW kW bW .nil pass0 (pa_cons (pv 3) (pa_cons (pv 2) pa_nil))))))
          (fun _ _ _ _ _ => pv 3)) (pe_lst pa_nil) (nomark _)) (pss_one (ps_ret pe_bl)) pss_nil)
      (pss_cons (ps_if (PW.pt (pw_or (pt_not (pt_val (pe_call GW hr (by rfl) gW kW bW .nil pass0 (pa_cons (pe_ix ix_tup (pv 1) pe_int (fun _ _ => rfl)) (pa_cons (pe_callB call_len_seq (by rfl) ml PySem.boot_len (pa_cons (pe_ix ix_tup (pv 0) pe_int (fun _ _ => rfl)) pa_nil)) pa_nil)))))
          (pw_or1 (pt_not (pt_val (pe_call GW hr (by rfl) gW kW bW .nil pass0 (pa_cons (pe_ix ix_tup (pv 1) pe_int (fun _ _ => rfl)) (pa_cons (pe_callB call_len_seq (by rfl) ml PySem.boot_len (pa_cons (pe_ix ix_tup (pv 0) pe_int (fun _ _ => rfl)) pa_nil)) pa_nil)))))))) (pss_one (ps_ret pe_bl)) pss_nil)
      (pss_one (ps_ret (pe_cmpR (LE.op_eqNil (Nat.lt_of_le_of_lt (Nat.le_add_right _ 64) hr.units)) (pe_lc (own := [("_law_place", 4)]) (g := gName 4) (by rfl) scGood.nd (pi_tup (pe_ix ix_tup (pv 1) pe_int (fun _ _ => rfl)))
          (blkOk_by (own := [("_law_place", 4)]) (N := ["_law_cast", "_law_thing", "_law_long", "_law_row", "_law_place"]) (sc := defScope sGood) (by decide +kernel))
          (fun _ _ _ _ _ => pg_name (i := 4) scGood.nd rfl (Or.inl rfl))
          (fun _ _ _ _ _ => pts_one (pt_not (pt_chain op_le op_le pe_int (pv 4) (pv 2))))
          (fun _ _ _ _ _ => pv 4)) (pe_lst pa_nil) (nomark _)))))))), ?_⟩
    have no : standT R.length L.length U.length d = false → ∀ H', Same H H' → Q (.bl false) H' := fun e H' s' => by
      have e2 := q H' s'
      rw [e] at e2
      exact e2
    obtain ⟨t, ht, hk⟩ := hv.isTup (K := K)
    refine ⟨v, rfl, v, .ty "tuple", t, _, My.isTup d, rfl, .ty _, ht, hk, _, rfl, ?_⟩
    cases hd : My.isTup d with
    | false =>
      exact no (by
        cases d with
        | t l => cases hd
        | _ => rfl) H (Same.refl H)
    | true =>
      obtain ⟨a, xs, ds, rfl, rfl, ea, hl, hs, hh⟩ := hv.tups hd
      obtain ⟨c', cs, cds, e0, e1, ec, hcl, _, hch⟩ := hc.tups rfl
      cases e0
      cases e1
      obtain ⟨c0, c1, c2, rfl⟩ : ∃ c0 c1 c2, cs = [c0, c1, c2] := by
        match cs, hcl with
        | [c0, c1, c2], _ => exact ⟨c0, c1, c2, rfl⟩
      obtain ⟨p0, rfl⟩ := (hch 0 _ _ rfl rfl).ref
      obtain ⟨p1, rfl⟩ := (hch 1 _ _ rfl rfl).ref
      obtain ⟨p2, rfl⟩ := (hch 2 _ _ rfl rfl).ref
      have t0 := (hch 0 _ _ rfl rfl).texts.1
      have t1 := (hch 1 _ _ rfl rfl).texts.1
      have t2 := (hch 2 _ _ rfl rfl).texts.1
      have lR : ((R.map V.str).length : Int) = (R.length : Int) := by rw [List.length_map]
      have lL : ((L.map V.str).length : Int) = (L.length : Int) := by rw [List.length_map]
      have lU : ((U.map V.str).length : Int) = (U.length : Int) := by rw [List.length_map]
      refine ⟨.ref a, rfl, a, xs, rfl, .inr (SqT.of ea), rfl, _, rfl, ?_⟩
      by_cases h3 : xs.length = 3
      · obtain ⟨d0, d1, d2, rfl⟩ : ∃ d0 d1 d2, ds = [d0, d1, d2] := by
          rw [hl] at h3
          match ds, h3 with
          | [d0, d1, d2], _ => exact ⟨d0, d1, d2, rfl⟩
        obtain ⟨x0, x1, x2, rfl⟩ : ∃ x0 x1 x2, xs = [x0, x1, x2] := by
          match xs, h3 with
          | [x0, x1, x2], _ => exact ⟨x0, x1, x2, rfl⟩
        have hS : standT R.length L.length U.length (.t [d0, d1, d2]) = (rowsT (R.length : Int) d0 && placesT (L.length : Int) (lenT (headT d0)) d1 && wholesT (U.length : Int) d2) := rfl
        show if (!decide (V.int (([x0, x1, x2].length : Nat) : Int) = V.int 3)) = true then _ else _
        rw [if_neg (by simp)]
        obtain ⟨ty, hty, hky⟩ := (hh 0 _ _ rfl rfl).isTup (K := K)
        refine ⟨.ref a, rfl, a, _, 0, x0, rfl, rfl, SqT.of ea, atI_nat (j := 0) rfl, x0, .ty "tuple", ty, _, My.isTup d0, rfl, .ty _, hty, hky, _, rfl, ?_⟩
        cases hd0 : My.isTup d0 with
        | false =>
          exact no (by
            rw [hS]
            cases d0 with
            | t l => cases hd0
            | _ => rfl) H (Same.refl H)
        | true =>
          obtain ⟨a0, xs0, ds0, rfl, rfl, ea0, hl0, hs0, hh0⟩ := (hh 0 _ _ rfl rfl).tups hd0
          refine ⟨.ref a, rfl, a, _, 0, .ref a0, rfl, rfl, SqT.of ea, atI_nat (j := 0) rfl, a0, xs0, rfl, .inr (SqT.of ea0), .ref c, rfl, c, _, 0, .ref p0, rfl, rfl, SqT.of ec, atI_nat (j := 0) rfl, p0, _, rfl, .inr (SqT.of t0), rfl, _, rfl, ?_⟩
          by_cases hm : (ds0.length : Int) = (R.length : Int)
          · have e1 : (!decide (V.int ((xs0.length : Nat) : Int) = V.int (((R.map V.str).length : Nat) : Int))) = false := by
              rw [decide_eq_true (by rw [lR, hl0, hm])]
              rfl
            show if (!decide (V.int ((xs0.length : Nat) : Int) = V.int (((R.map V.str).length : Nat) : Int))) = true then _ else _
            rw [if_neg (by rw [e1]; decide)]
            obtain ⟨e0, er, rfl⟩ : ∃ e0 er, ds0 = e0 :: er := by
              cases ds0 with
              | nil =>
                have : (0 : Int) = (R.length : Int) := hm
                omega
              | cons e0 er => exact ⟨e0, er, rfl⟩
            obtain ⟨y0, yr, rfl⟩ : ∃ y0 yr, xs0 = y0 :: yr := by
              cases xs0 with
              | nil => simp at hl0
              | cons y0 yr => exact ⟨y0, yr, rfl⟩
            obtain ⟨ty', hty', hky'⟩ := (hh0 0 _ _ rfl rfl).isTup (K := K)
            refine ⟨.ref a, rfl, a, _, 0, .ref a0, rfl, rfl, SqT.of ea, atI_nat (j := 0) rfl, a0, _, 0, y0, rfl, rfl, SqT.of ea0, atI_nat (j := 0) rfl, y0, .ty "tuple", ty', _, My.isTup e0, rfl, .ty _, hty', hky', _, rfl, ?_⟩
            cases he0 : My.isTup e0 with
            | false =>
              exact no (by
                rw [hS]
                show (decide _ && (e0 :: er).all My.isTup && _ && _ && _) = false
                rw [List.all_cons, he0, Bool.false_and, Bool.and_false]
                rfl) H (Same.refl H)
            | true =>
              obtain ⟨a1, xs1, b, rfl, rfl, ea1, hl1, hs1, hh1⟩ := (hh0 0 _ _ rfl rfl).tups he0
              refine ⟨.ref a, rfl, a, _, 0, .ref a0, rfl, rfl, SqT.of ea, atI_nat (j := 0) rfl, a0, _, 0, .ref a1, rfl, rfl, SqT.of ea0, atI_nat (j := 0) rfl, a1, xs1, rfl, .inr (SqT.of ea1), ?_⟩
              have hRT := rowsT_eq (r := (R.length : Int)) (ds := .t b :: er) rfl hm
              rw [hl1]
              refine gName_ok ?_
              dsimp only [tSeq, tIfS, tTest]
              refine tOp_ok ?_
              refine lcT_ok (p := wholesT (b.length : Nat)) (ds := .t b :: er) ea0 hl0 hs0 (fun S r => ⟨.ref a, rfl, a, _, 0, .ref a0, rfl, rfl, SqT.of ea, atI_nat (j := 0) rfl, r⟩) (show 3 < 5 by decide) (fun i x d Hc hx hd sc S r => ?_) fun D ys H1 s1 eD hy => ?_
              · exact ⟨x, rfl, .int (b.length : Nat), rfl, x, d, _, rfl, (hh0 i x d hx hd).keep (.of_same sc), fun Hy sy => ⟨_, rfl, r _ sy⟩⟩
              · refine ⟨Nat.zero_le _, fun l nl => ⟨D, l, ys, rfl, rfl, same_new nl _ _ eD, upd_same, _, rfl, ?_⟩⟩
                have s2 := s1.trans (same_new (o := .lst []) nl)
                generalize upd H1 l (.lst []) = H2 at *
                rw [hy]
                cases hw : (Tr.t b :: er).all (wholesT (b.length : Nat)) with
                | false =>
                  exact no (by rw [hS, hRT, hw]; rfl) H2 s2
                | true =>
                  rw [hw] at hRT
                  refine ⟨.ref a, rfl, a, _, 1, x1, rfl, rfl, SqT.of (s2 _ _ ea), atI_nat (j := 1) rfl, .ref c, rfl, c, _, 1, .ref p1, rfl, rfl, SqT.of (s2 _ _ ec), atI_nat (j := 1) rfl, p1, _, rfl, .inr (SqT.of (s2 _ _ t1)), ?_⟩
                  refine ⟨x1, d1, _, rfl, (hh 1 _ _ rfl rfl).keep (.of_same s2), fun H3 s3 => ⟨_, rfl, ?_⟩⟩
                  rw [lL]
                  have s23 := s2.trans s3
                  cases h1 : wholesT (L.length : Int) d1 with
                  | false =>
                    exact no (by
                      rw [hS, show placesT (L.length : Int) (lenT (headT (.t (.t b :: er)))) d1 = false by
                        cases d1 with
                        | t l1 =>
                          show (wholesT (L.length : Int) (.t l1) && _) = false
                          rw [h1, Bool.false_and]
                        | _ => rfl, Bool.and_false, Bool.false_and]) H3 s23
                  | true =>
                    refine ⟨.ref a, rfl, a, _, 2, x2, rfl, rfl, SqT.of (s23 _ _ ea), atI_nat (j := 2) rfl, .ref c, rfl, c, _, 2, .ref p2, rfl, rfl, SqT.of (s23 _ _ ec), atI_nat (j := 2) rfl, p2, _, rfl, .inr (SqT.of (s23 _ _ t2)), ?_⟩
                    refine ⟨x2, d2, _, rfl, (hh 2 _ _ rfl rfl).keep (.of_same s23), fun H4 s4 => ⟨_, rfl, ?_⟩⟩
                    rw [lU]
                    have s34 := s23.trans s4
                    cases h2 : wholesT (U.length : Int) d2 with
                    | false => exact no (by rw [hS, h2, Bool.and_false]) H4 s34
                    | true =>
                      obtain ⟨a5, xs5, ds5, rfl, rfl, ea5, hl5, hs5, hh5⟩ := (hh 1 _ _ rfl rfl).tups (wholes_tup h1)
                      have hw5 : ds5.all wholeT = true := by
                        have : (decide ((ds5.length : Int) = (L.length : Int)) && ds5.all wholeT) = true := h1
                        rw [Bool.and_eq_true] at this
                        exact this.2
                      dsimp only [tSeq, tRet, tNext]
                      rw [if_neg (by decide)]
                      refine tOp_ok ?_
                      refine lcT_ok (p := inT (b.length : Nat)) (ds := ds5) (s34 _ _ ea5) hl5 hs5 (fun S r => ⟨.ref a, rfl, a, _, 1, .ref a5, rfl, rfl, SqT.of (s34 _ _ ea), atI_nat (j := 1) rfl, r⟩) (show 4 < 5 by decide) (fun i x d Hc hx hd sc S r => ?_) fun D ys H6 s6 eD hy => ?_
                      · have wd := List.all_eq_true.mp hw5 d (List.mem_of_getElem? hd)
                        obtain ⟨n, rfl⟩ : ∃ n, d = .i n := by
                          cases d with
                          | i n => exact ⟨n, rfl⟩
                          | _ => cases wd
                        have hx2 := hh5 i x _ hx hd
                        obtain rfl : x = .int n := by
                          cases hx2
                          rfl
                        have r0 := r Hc (Same.refl Hc)
                        refine ⟨.int n, rfl, 0, n, rfl, rfl, _, rfl, ?_⟩
                        by_cases g1 : (0 : Int) ≤ n
                        · rw [decide_eq_true g1]
                          refine ⟨.int (b.length : Nat), rfl, n, _, rfl, rfl, _, rfl, ?_⟩
                          rw [show inT (b.length : Nat) (.i n) = decide (n ≤ (b.length : Nat)) by
                            show (decide (0 ≤ n) && decide (n ≤ ((b.length : Nat) : Int))) = _
                            rw [decide_eq_true g1, Bool.true_and]] at r0
                          exact r0
                        · rw [decide_eq_false g1]
                          rw [show inT (b.length : Nat) (.i n) = false by
                            show (decide (0 ≤ n) && decide (n ≤ ((b.length : Nat) : Int))) = _
                            rw [decide_eq_false g1, Bool.false_and]] at r0
                          exact ⟨false, rfl, r0⟩
                      · refine ⟨Nat.zero_le _, fun l nl => ⟨D, l, ys, rfl, rfl, same_new nl _ _ eD, upd_same, ?_⟩⟩
                        have e := q _ (s34.trans (s6.trans (same_new (o := .lst []) nl)))
                        rw [hS, hRT, h2, Bool.true_and, Bool.and_true, show placesT (L.length : Int) (lenT (headT (.t (.t b :: er)))) (.t ds5) = ds5.all (inT (b.length : Nat)) by
                          show (wholesT (L.length : Int) (.t ds5) && _) = _
                          rw [h1, Bool.true_and]
                          rfl, ← hy] at e
                        exact e
          · have e1 : (!decide (V.int ((xs0.length : Nat) : Int) = V.int (((R.map V.str).length : Nat) : Int))) = true := by
              rw [decide_eq_false (fun z => hm (by have := V.int.inj z; rw [lR] at this; rw [← hl0]; exact this))]
              rfl
            show if (!decide (V.int ((xs0.length : Nat) : Int) = V.int (((R.map V.str).length : Nat) : Int))) = true then _ else _
            rw [if_pos e1]
            exact no (by
              rw [hS]
              show (decide ((ds0.length : Int) = (R.length : Int)) && _ && _ && _ && _) = false
              rw [decide_eq_false hm]
              rfl) H (Same.refl H)
      · have hne : (!decide (V.int ((xs.length : Nat) : Int) = V.int 3)) = true := by
          rw [decide_eq_false fun z => h3 (by have := V.int.inj z; omega)]
          rfl
        show if (!decide (V.int ((xs.length : Nat) : Int) = V.int 3)) = true then _ else _
        rw [if_pos hne]
        exact no (by
          match ds, hl with
          | [], _ => rfl
          | [_], _ => rfl
          | [_, _], _ => rfl
          | [_, _, _], hl => exact absurd hl h3
          | _ :: _ :: _ :: _ :: _, _ => rfl) H (Same.refl H)
end
end My
namespace My
open PySem PySem.Spec PyProof.Rows L2
section
variable {P : Program} {w : World} {K : PySem.W.Frag} {mg : Str → Option Value} {base : Heap}
def spNumber : Sp := fun vs H Q _ => ∃ (d : Addr) (n : Nat), vs = [.ref d] ∧ Deck H d n ∧ n ≤ 100000000 ∧
  ∀ i H', SameBut d H H' → Deck H' d (n + 4) → Q (.int i) H'
theorem ok_number {f fD : Addr} {fd fdD : FuncData} {k : Nat} (F : Fun K "_law_number" "_law_number" sNumber f fd)
    (FD : Fun K "_law_draw" "_law_draw" sDraw fD fdD) (bD : Binds K fdD ["_law_deck_here", "_law_most"] []) (gD : mg "_law_draw" = some (.ref fD)) :
    FnOk P w K mg base CX0 (k + 2) f fd ["_law_deck_here"] spNumber := by
  have GD : FnOk P w K mg base CX0 (k + 1) fD fdD ["_law_deck_here", "_law_most"] spDraw := ok_draw FD
  refine F.ok scNumber (fun vs H Q E h => ?_) (fun cdv A outer s H vs Q E hr h => ?_)
  · obtain ⟨d, n, rfl, _⟩ := h
    rfl
  · obtain ⟨d, n, rfl, hd, hn, q⟩ := h
    refine ⟨_, pss_cons (ps_set (i := 1) scNumber.nd rfl (.inl rfl) (pe_call GD hr (by rfl) gD FD.kp bD .nil pass0 (pa_cons (pv 0) (pa_cons pe_int pa_nil))))
      (pss_cons (ps_if (pt_cmpR op_eq (pv 1) pe_int (nomark _)) (pss_one (ps_ret (pe_op op_mul
          (pe_op op_add (pe_op op_mul (pe_call GD hr (by rfl) gD FD.kp bD .nil pass0 (pa_cons (pv 0) (pa_cons (pe_op op_pow pe_int pe_int) pa_nil))) pe_int)
            (pe_call GD hr (by rfl) gD FD.kp bD .nil pass0 (pa_cons (pv 0) (pa_cons pe_int pa_nil))))
          (pe_ix ix_list (pe_lst (pa_cons pe_int (pa_cons (pe_un un_neg pe_int) pa_nil))) (pe_call GD hr (by rfl) gD FD.kp bD .nil pass0 (pa_cons (pv 0) (pa_cons pe_int pa_nil))) (fun _ _ => rfl))))) pss_nil)
      (pss_one (ps_ret (pe_ix ix_list (pe_lst (pa_cons pe_int (pa_cons pe_int (pa_cons (pe_un un_neg pe_int) (pa_cons pe_int (pa_cons (pe_un un_neg pe_int) (pa_cons pe_int (pa_cons pe_int (pa_cons pe_int
          (pa_cons (pe_un un_neg pe_int) (pa_cons pe_int (pa_cons pe_int (pa_cons pe_int (pa_cons (pe_un un_neg pe_int) (pa_cons pe_int (pa_cons pe_int pa_nil)))))))))))))))) (pv 1) (fun _ _ => rfl))))), ?_⟩
    refine ⟨.ref d, rfl, d, 16, n, rfl, by decide, by decide, by omega, hd, fun r H1 r0 r1 b1 d1 => ?_⟩
    refine ⟨.int r, rfl, rfl, _, rfl, ?_⟩
    by_cases h15 : r = 15
    · subst h15
      refine iteT ?_
      refine ⟨.ref d, rfl, 10, 6, rfl, rfl, ⟨by decide, by decide, by decide⟩, d, _, n + 1, rfl, by decide, by decide, by omega, d1, fun a H2 a0 a1 b2 d2 => ?_⟩
      have a1' : a < 1000000 := a1
      refine ⟨a, 1000, rfl, rfl, .inr ⟨by decide, by decide⟩, .ref d, rfl, d, 1000, n + 2, rfl, by decide, by decide, by omega, d2, fun c H3 c0 c1 b3 d3 => ?_⟩
      refine ⟨_, _, rfl, rfl, 1, rfl, (show 2 ≤ sizeLine by decide), fun l nl => ?_⟩
      refine ⟨.ref d, rfl, d, 2, n + 3, rfl, by decide, by decide, by omega, d3.lay nl, fun r2 H4 r20 r21 b4 d4 => ?_⟩
      have e2 := (b4 l (d3.ne nl).symm).trans upd_same
      obtain ⟨v2, hv2, hm2⟩ := at_list [V.int 1, .int (-1)] r20 r21
      obtain ⟨z, rfl, hz1, hz2⟩ : ∃ z : Int, v2 = .int z ∧ -(2 ^ 64) < z ∧ z < 2 ^ 64 := by
        simp only [List.mem_cons, List.not_mem_nil, or_false] at hm2
        rcases hm2 with rfl | rfl
        · exact ⟨1, rfl, by decide, by decide⟩
        · exact ⟨-1, rfl, by decide, by decide⟩
      refine ⟨l, _, r2, .int z, rfl, rfl, SqL.of e2, hv2, _, z, rfl, rfl, .inr ⟨hz1, hz2⟩, ?_⟩
      exact q _ H4 ((b1.sb.trans (b2.sb.trans b3.sb)).trans ((same_sb (same_new nl)).trans b4.sb)) (d4.more (by omega))
    · have e15 : decide (V.int r = V.int 15) = false := decide_eq_false fun z => h15 (V.int.inj z)
      show if decide (V.int r = V.int 15) = true then _ else _
      rw [if_neg (by rw [e15]; decide)]
      refine ⟨1, rfl, 2, rfl, 3, rfl, 1, rfl, (show 15 ≤ sizeLine by decide), fun l nl => ?_⟩
      have r15 : r < 15 := by omega
      obtain ⟨v2, hv2, hm2⟩ := at_list [V.int 0, .int 1, .int (-1), .int 2, .int (-2), .int 0, .int 1, .int 3, .int (-3), .int 0, .int 1, .int 2, .int (-1), .int 0, .int 5] r0 r15
      obtain ⟨z, rfl⟩ : ∃ z : Int, v2 = .int z := by
        simp only [List.mem_cons, List.not_mem_nil, or_false] at hm2
        rcases hm2 with rfl | rfl | rfl | rfl | rfl | rfl | rfl | rfl | rfl | rfl | rfl | rfl | rfl | rfl | rfl <;> exact ⟨_, rfl⟩
      refine ⟨.int r, rfl, l, _, r, .int z, rfl, rfl, SqL.of upd_same, hv2, ?_⟩
      exact q _ _ (b1.sb.trans (same_sb (same_new nl))) ((d1.lay nl).more (by omega))
end
end My
namespace My
open PySem PySem.Spec PyProof.Rows L2
def KTup (H H' : Hp) : Prop := ∀ b xs, H b = some (.tup xs) → H' b = some (.tup xs)
/-- [te for x in a tuple], te draws: each item keeps G -/
theorem drawT_ok {K : PySem.W.Frag} {a d : Addr} {H : Hp} {xs : List V} {σ : L2.St} {j n c : Nat} {ti te : TE} {Q : VK} {G : V → Hp → Prop}
    (ea : H a = some (.tup xs)) (hs : xs.length ≤ 300) (h0 : ∀ R : VK, R (.ref a) H → ti σ H R) (hd : Deck H d n)
    (mono : ∀ y H1 H2, G y H1 → KTup H1 H2 → G y H2)
    (step : ∀ x Hc m, Deck Hc d m → m + c ≤ n + c * xs.length → SameBut d H Hc → ∀ R : VK, (∀ y Hy, G y Hy → SameBut d Hc Hy → Deck Hy d (m + c) → R y Hy) → te ((wipe σ [j]).set j (some x)) Hc R)
    (q : ∀ D ys H', D ≠ d → H' D = some (.lst ys) → ys.length = xs.length → (∀ y ∈ ys, G y H') → SameBut d H H' → Deck H' d (n + c * xs.length) → Q (.ref D) H') :
    tLc (iTup K ti) (gName j) tYes te [j] σ H Q := by
  refine h0 _ ⟨a, rfl, ⟨_, SqT.of ea⟩, fun D hD => ?_⟩
  have nD : d ≠ D := hd.ne hD
  have nad : a ≠ d := fun z => by
    obtain ⟨_, _, _, e, _⟩ := hd
    rw [z, e] at ea
    cases ea
  refine ⟨fun i m Hc => i + m = xs.length ∧ SameBut d H Hc ∧ Deck Hc d (n + c * i) ∧ ∃ ys, Hc D = some (.lst ys) ∧ ys.length = i ∧ ∀ y ∈ ys, G y Hc,
    ⟨xs.length, by omega, same_sb (same_new hD), hd.lay hD, [], upd_same, rfl, fun y hy => by cases hy⟩, fun i m Hc hW => ?_⟩
  obtain ⟨him, sC, dC, ys, eD, hy, hG⟩ := hW
  have eaC := sC _ _ nad ea
  by_cases hi : i < xs.length
  · refine .inr ⟨⟨_, xs[i], SqT.of eaC, List.getElem?_eq_getElem hi⟩, fun H' => SameBut d H H' ∧ Deck H' d (n + c * (i + 1)) ∧ ∃ zs, H' D = some (.lst zs) ∧ zs.length = i + 1 ∧ ∀ y ∈ zs, G y H',
      fun H' e => ⟨m - 1, by omega, by omega, e⟩, fun x H' hy2 => ?_⟩
    obtain ⟨rfl, hx⟩ := hy2
    refine ⟨by simp [wipe, List.set_set], ?_⟩
    have hc1 : c * (i + 1) ≤ c * xs.length := Nat.mul_le_mul_left _ hi
    have hc2 : c * (i + 1) = c * i + c := Nat.mul_succ c i
    refine step x _ _ dC (by omega) sC _ fun y Hy gy sy dy => ?_
    have eDy := sy _ _ nD.symm eD
    have k1 : KTup H' Hy := fun b zs e => sy _ _ (fun z => by
      obtain ⟨_, _, _, e2, _⟩ := dC
      rw [z, e2] at e
      cases e) e
    have k2 : KTup Hy (upd Hy D (.lst (ys ++ [y]))) := fun b zs e => by
      rw [upd_ne (fun z => by rw [z, eDy] at e; cases e)]
      exact e
    refine ⟨ys, eDy, small (by omega), ?_, ?_, ys ++ [y], upd_same, by simp [hy], ?_⟩
    · intro b o hb e
      have nb : b ≠ D := ne_of_none e hD
      rw [upd_ne nb]
      exact sy _ _ hb (sC _ _ hb e)
    · obtain ⟨a1, b1, c1, e, r⟩ := dy
      exact ⟨a1, b1, c1, (upd_ne nD).trans e, by rw [hc2, ← Nat.add_assoc]; exact r⟩
    · intro z hz
      rcases List.mem_append.mp hz with hz | hz
      · exact mono _ _ _ (mono _ _ _ (hG z hz) k1) k2
      · have : z = y := by simpa using hz
        rw [this]
        exact mono _ _ _ gy k2
  · have hi2 : i = xs.length := by omega
    subst hi2
    exact .inl ⟨⟨_, SqT.of eaC, Nat.le_refl _⟩, q D ys Hc nD.symm eD hy hG sC dC⟩
/-- the same over range(N) -/
theorem drawR_ok {d : Addr} {H : Hp} {N : Nat} {σ : L2.St} {j n c : Nat} {tn : TA} {te : TE} {Q : VK} {G : V → Hp → Prop}
    (hs : N ≤ 300) (h0 : ∀ R : List V → Hp → Prop, R [.int (N : Nat)] H → tn σ H R) (hd : Deck H d n)
    (mono : ∀ y H1 H2, G y H1 → KTup H1 H2 → G y H2)
    (step : ∀ x Hc m, Deck Hc d m → m + c ≤ n + c * N → SameBut d H Hc → ∀ R : VK, (∀ y Hy, G y Hy → SameBut d Hc Hy → Deck Hy d (m + c) → R y Hy) → te ((wipe σ [j]).set j (some x)) Hc R)
    (q : ∀ D ys H', D ≠ d → H' D = some (.lst ys) → ys.length = N → (∀ y ∈ ys, G y H') → SameBut d H H' → Deck H' d (n + c * N) → Q (.ref D) H') :
    tLc (iRng1 tn) (gName j) tYes te [j] σ H Q := by
  refine h0 _ ⟨(N : Nat), rfl, by omega, by omega, fun D hD => ?_⟩
  have nD : d ≠ D := hd.ne hD
  have eN : ((N : Nat) : Int).toNat = N := by omega
  refine lc_range (lo := 0) (n := ((N : Nat) : Int).toNat) (fun i Hc => i ≤ N ∧ SameBut d H Hc ∧ Deck Hc d (n + c * i) ∧ ∃ ys, Hc D = some (.lst ys) ∧ ys.length = i ∧ ∀ y ∈ ys, G y Hc) ?_ ?_ ?_
  · exact ⟨Nat.zero_le _, same_sb (same_new hD), hd.lay hD, [], upd_same, rfl, fun y hy => by cases hy⟩
  · intro i Hc hi hP
    obtain ⟨hiN, sC, dC, ys, eD, hy, hG⟩ := hP
    rw [eN] at hi
    refine ⟨by simp [wipe, List.set_set], ?_⟩
    have hc1 : c * (i + 1) ≤ c * N := Nat.mul_le_mul_left _ hi
    have hc2 : c * (i + 1) = c * i + c := Nat.mul_succ c i
    refine step _ _ _ dC (by omega) sC _ fun y Hy gy sy dy => ?_
    have eDy := sy _ _ nD.symm eD
    have k1 : KTup Hc Hy := fun b zs e => sy _ _ (fun z => by
      obtain ⟨_, _, _, e2, _⟩ := dC
      rw [z, e2] at e
      cases e) e
    have k2 : KTup Hy (upd Hy D (.lst (ys ++ [y]))) := fun b zs e => by
      rw [upd_ne (fun z => by rw [z, eDy] at e; cases e)]
      exact e
    refine ⟨ys, eDy, small (by omega), by omega, ?_, ?_, ys ++ [y], upd_same, by simp [hy], ?_⟩
    · intro b o hb e
      have nb : b ≠ D := ne_of_none e hD
      rw [upd_ne nb]
      exact sy _ _ hb (sC _ _ hb e)
    · obtain ⟨a1, b1, c1, e, r⟩ := dy
      exact ⟨a1, b1, c1, (upd_ne nD).trans e, by rw [hc2, ← Nat.add_assoc]; exact r⟩
    · intro z hz
      rcases List.mem_append.mp hz with hz | hz
      · exact mono _ _ _ (mono _ _ _ (hG z hz) k1) k2
      · have : z = y := by simpa using hz
        rw [this]
        exact mono _ _ _ gy k2
  · intro Hc hP
    rw [eN] at hP
    obtain ⟨_, sC, dC, ys, eD, hy, hG⟩ := hP
    exact q D ys Hc nD.symm eD hy hG sC dC
end My
namespace My
open PySem PySem.Spec PyProof.Rows L2
abbrev NStand : List Str := ["_law_deck_here", "_law_cast", "_law_long", "_law_many", "_law_rows", "_law_places", "_law_row", "_law_k", "_law_place", "_law_number_here"]
theorem scStanding : FnScope NStand ["_law_deck_here", "_law_cast", "_law_long"] (defScope sStanding) :=
  ⟨rfl, rfl, rfl, by decide +kernel, rfl, by decide +kernel, by decide +kernel⟩
def scRowIn : Scope := { kind := .function, names := [(".0", .local), ("_law_row", .local), ("tuple", .globalImplicit), ("range", .globalImplicit), ("_law_deck_here", .free), ("_law_many", .free)], isGenerator := false, isCoroutine := false }
/-- rows of numbers, all as long, places within, numbers -/
def StandAt (H : Hp) (p : Addr) (rows : List (List Int)) (pl nu : List Int) : Prop := ∃ (r l u : Addr) (rs : List Addr), H p = some (.tup [.ref r, .ref l, .ref u]) ∧
  H r = some (.tup (rs.map V.ref)) ∧ rs.length = rows.length ∧ (∀ (i : Nat) a z, rs[i]? = some a → rows[i]? = some z → H a = some (.tup (z.map V.int))) ∧
  H l = some (.tup (pl.map V.int)) ∧ H u = some (.tup (nu.map V.int))
theorem ints_of : ∀ zs : List V, (∀ y ∈ zs, ∃ z, y = V.int z) → ∃ z : List Int, zs = z.map V.int
  | [], _ => ⟨[], rfl⟩
  | y :: r, h => by
    obtain ⟨z, rfl⟩ := h y List.mem_cons_self
    obtain ⟨q, rfl⟩ := ints_of r fun x hx => h x (List.mem_cons_of_mem _ hx)
    exact ⟨z :: q, rfl⟩
theorem rows_of {H : Hp} {k : Nat} : ∀ ys : List V, (∀ y ∈ ys, ∃ a z, y = V.ref a ∧ H a = some (.tup (List.map V.int z)) ∧ z.length = k) →
    ∃ (rs : List Addr) (rows : List (List Int)), ys = rs.map V.ref ∧ rs.length = rows.length ∧ (∀ (i : Nat) a z, rs[i]? = some a → rows[i]? = some z → H a = some (.tup (z.map V.int))) ∧ ∀ z ∈ rows, z.length = k
  | [], _ => ⟨[], [], rfl, rfl, fun i a z h => by simp at h, fun z h => by cases h⟩
  | y :: r, h => by
    obtain ⟨a, z, rfl, h2, h3⟩ := h y List.mem_cons_self
    obtain ⟨rs, rows, rfl, e2, e3, e4⟩ := rows_of r fun x hx => h x (List.mem_cons_of_mem _ hx)
    refine ⟨a :: rs, z :: rows, rfl, by simp [e2], fun i b q g1 g2 => ?_, fun q hq => ?_⟩
    · cases i with
      | zero =>
        cases g1
        cases g2
        exact h2
      | succ i => exact e3 i b q g1 g2
    · rcases List.mem_cons.mp hq with rfl | hq
      · exact h3
      · exact e4 q hq
theorem ktup_of {H H' : Hp} {d : Addr} {n : Nat} (h : Deck H d n) (s : SameBut d H H') : KTup H H' := fun b xs e => s _ _ (fun z => by
  obtain ⟨_, _, _, e2, _⟩ := h
  rw [z, e2] at e
  cases e) e
section
variable {P : Program} {w : World} {K : PySem.W.Frag} {mg : Str → Option Value} {base : Heap}
def spStanding : Sp := fun vs H Q _ => ∃ (d c : Addr) (n m : Nat) (R L U : List Str), vs = [.ref d, .ref c, .int (m : Nat)] ∧ Deck H d n ∧ n ≤ 1000000 ∧ m ≤ 10 ∧ CastAt H c R L U ∧
  R.length ≤ 4 ∧ L.length ≤ 4 ∧ U.length ≤ 4 ∧
  ∀ p rows pl nu H' (k : Nat), StandAt H' p rows pl nu → rows.length = R.length → (∀ z ∈ rows, z.length = k) → k ≤ m → pl.length = L.length → (∀ x ∈ pl, 0 ≤ x ∧ x ≤ k) → nu.length = U.length →
    SameBut d H H' → Deck H' d (n + 300) → Q (.ref p) H'
theorem ok_standing {f fD fN : Addr} {fd fdD fdN : FuncData} (F : Fun K "_law_standing" "_law_standing" sStanding f fd)
    (FD : Fun K "_law_draw" "_law_draw" sDraw fD fdD) (bD : Binds K fdD ["_law_deck_here", "_law_most"] []) (gD : mg "_law_draw" = some (.ref fD))
    (GN : FnOk P w K mg base CX0 2 fN fdN ["_law_deck_here"] spNumber) (kN : PySem.W.keepIn K (.ref fN) = true) (bN : Binds K fdN ["_law_deck_here"] []) (gN : mg "_law_number" = some (.ref fN))
    (mr : mg "range" = none) (mt : mg "tuple" = none) :
    FnOk P w K mg base CX0 3 f fd ["_law_deck_here", "_law_cast", "_law_long"] spStanding := by
  have GD : FnOk P w K mg base CX0 1 fD fdD ["_law_deck_here", "_law_most"] spDraw := ok_draw FD
  refine F.ok scStanding (fun vs H Q E h => ?_) (fun cdv A outer s H vs Q E hr h => ?_)
  · obtain ⟨d, c, n, m, R, L, U, rfl, _⟩ := h
    rfl
  · obtain ⟨d, c, n, m, R, L, U, rfl, hd, hn, hm, hc, hR, hL, hU, q⟩ := h
    have hr1 : Room 1 _ := hr.mono (by decide)
    refine ⟨_, pss_cons (ps_set (i := 3) scStanding.nd rfl (.inr rfl) (pe_call GD hr1 (by rfl) gD FD.kp bD .nil pass0 (pa_cons (pv 0) (pa_cons (pe_op op_add (pv 2) pe_int) pa_nil))))
      (pss_cons (ps_set (i := 4) scStanding.nd rfl (.inl rfl) (pe_callTy call_tuple_of (by rfl) mt (by decide +kernel) (pa_cons
          (pe_lc (own := [("_law_row", 6)]) (g := gName 6) (by rfl) scStanding.nd (pi_tup (pe_ix ix_tup (pv 1) pe_int (fun _ _ => rfl)))
            (blkOk_by (own := [("_law_row", 6)]) (N := NStand) (sc := defScope sStanding) (by decide +kernel))
            (fun _ _ _ _ _ => pg_name (i := 6) scStanding.nd rfl (Or.inl rfl)) (fun _ _ _ _ _ => pts_nil)
            (fun _ _ _ _ _ => pe_callTy (T := "tuple") (r := rTupOf K) cr_tup (by rfl) mt bt_tuple (pa_cons
              (pe_lc (own := [("_law_k", 7)]) (g := gName 7) (te := tCall spNumber [] E0 (tCons (tVar 0) tNil)) (by rfl) scStanding.nd (pi_range1 (by rfl) mr (pa_cons (pv 3) pa_nil))
                (blkOk_by (own := [("_law_k", 7)]) (N := NStand) (sc := _) rfl)
                (fun _ _ _ _ _ => pg_name (i := 7) scStanding.nd rfl (Or.inl rfl)) (fun _ _ _ _ _ => pts_nil)
                (fun _ _ _ _ _ => pe_call GN hr (by rfl) gN kN bN .nil pass0 (pa_cons (pv 0) pa_nil))) pa_nil))) pa_nil)))
      (pss_cons (ps_set (i := 5) scStanding.nd rfl (.inl rfl) (pe_callTy call_tuple_of (by rfl) mt (by decide +kernel) (pa_cons
          (pe_lc (own := [("_law_place", 8)]) (g := gName 8) (by rfl) scStanding.nd (pi_tup (pe_ix ix_tup (pv 1) pe_int (fun _ _ => rfl)))
            (blkOk_by (own := [("_law_place", 8)]) (N := NStand) (sc := defScope sStanding) (by decide +kernel))
            (fun _ _ _ _ _ => pg_name (i := 8) scStanding.nd rfl (Or.inl rfl)) (fun _ _ _ _ _ => pts_nil)
            (fun _ _ _ _ _ => pe_call GD hr1 (by rfl) gD FD.kp bD .nil pass0 (pa_cons (pv 0) (pa_cons (pe_op (r := rI0 fun i j => .int (i + j)) op_add (pv 3) pe_int) pa_nil)))) pa_nil)))
      (pss_one (ps_ret (pe_tup (pa_cons (pv 4) (pa_cons (pv 5) (pa_cons (pe_callTy call_tuple_of (by rfl) mt (by decide +kernel) (pa_cons
          (pe_lc (own := [("_law_number_here", 9)]) (g := gName 9) (by rfl) scStanding.nd (pi_tup (pe_ix ix_tup (pv 1) pe_int (fun _ _ => rfl)))
            (blkOk_by (own := [("_law_number_here", 9)]) (N := NStand) (sc := defScope sStanding) (by decide +kernel))
            (fun _ _ _ _ _ => pg_name (i := 9) scStanding.nd rfl (Or.inl rfl)) (fun _ _ _ _ _ => pts_nil)
            (fun _ _ _ _ _ => pe_call GN hr (by rfl) gN kN bN .nil pass0 (pa_cons (pv 0) pa_nil))) pa_nil)) pa_nil)))))))), ?_⟩
    obtain ⟨cr, cl, cu, ec, er, el, eu⟩ := hc
    refine ⟨.ref d, rfl, .int (m : Nat), rfl, _, _, rfl, rfl, d, _, n, rfl, by omega, by omega, by omega, hd, fun r H1 r0 r1 b1 d1 => ?_⟩
    obtain ⟨k, rfl⟩ := Int.eq_ofNat_of_zero_le r0
    have hk : k ≤ m := by omega
    have keep : ∀ {a : Addr} {xs : List V} {HH : Hp}, H a = some (.tup xs) → SameBut d H HH → HH a = some (.tup xs) := fun e s => s _ _ (fun z => by
      obtain ⟨_, _, _, e2, _⟩ := hd
      rw [z, e2] at e
      cases e) e
    have sb1 := b1.sb
    refine gName_ok ?_
    dsimp only [tSeq, tAsg, tCB, tCons]
    refine drawT_ok (c := 4 * k) (G := fun y HH => ∃ a z, y = .ref a ∧ HH a = some (.tup (List.map V.int z)) ∧ z.length = k) (keep er sb1) (by rw [List.length_map]; omega)
      (fun S s => ⟨.ref c, rfl, c, _, 0, .ref cr, rfl, rfl, SqT.of (keep ec sb1), atI_nat (j := 0) rfl, s⟩) d1 (fun y A1 A2 g kt => ?_) (fun x Hc mm dc hmm sc S s => ?_) fun D ys H2 nD eD hys gys sb2 d2 => ?_
    · obtain ⟨a, z, h1, h2, h3⟩ := g
      exact ⟨a, z, h1, kt _ _ h2, h3⟩
    · have hb : 4 * k * (R.map V.str).length ≤ 40 * 4 := Nat.mul_le_mul (by omega) (by rw [List.length_map]; omega)
      dsimp only [tCB, tCons]
      refine drawR_ok (N := k) (c := 4) (G := fun y _ => ∃ z, y = .int z) (by omega) (fun S' s' => ⟨.int (k : Nat), rfl, s'⟩) dc (fun y A1 A2 g _ => g) (fun x2 Hd m2 dd hm2 sd S2 s2 => ?_) fun D2 zs H3 nD2 eD2 hz gz sb3 d3 => ?_
      · exact ⟨.ref d, rfl, d, m2, rfl, dd, by omega, fun i H4 sb4 d4 => s2 _ _ ⟨i, rfl⟩ sb4 d4⟩
      · obtain ⟨z, rfl⟩ := ints_of zs gz
        refine ⟨D2, _, rfl, .inl ⟨SqL.of eD2, fun l nl => ?_⟩⟩
        exact s _ _ ⟨l, z, rfl, upd_same, by simpa using hz⟩ (sb3.trans (same_sb (same_new nl))) (d3.mono (same_new nl))
    · have hb : 4 * k * (R.map V.str).length ≤ 40 * 4 := Nat.mul_le_mul (by omega) (by rw [List.length_map]; omega)
      generalize hB : 4 * k * (List.map V.str R).length = B at d2 hb
      refine ⟨D, ys, rfl, .inl ⟨SqL.of eD, fun l1 nl1 => ?_⟩⟩
      have sA := sb1.trans (sb2.trans (same_sb (same_new (o := .tup ys) nl1)))
      have dA := d2.mono (same_new (o := .tup ys) nl1)
      have eA : upd H2 l1 (.tup ys) l1 = some (.tup ys) := upd_same
      have kA : KTup H2 (upd H2 l1 (.tup ys)) := fun b xs e => same_new nl1 _ _ e
      obtain ⟨rs, rows, rfl, hrl, hrr, hrk⟩ := rows_of ys fun y hy => by
        obtain ⟨a, z, h1, h2, h3⟩ := gys y hy
        exact ⟨a, z, h1, kA _ _ h2, h3⟩
      generalize upd H2 l1 (.tup (rs.map V.ref)) = HA at *
      refine gName_ok ?_
      dsimp only [tSeq, tAsg, tCB, tCons]
      refine drawT_ok (c := 1) (G := fun y _ => ∃ z, y = .int z ∧ 0 ≤ z ∧ z ≤ (k : Int)) (keep el sA) (by rw [List.length_map]; omega)
        (fun S s => ⟨.ref c, rfl, c, _, 1, .ref cl, rfl, rfl, SqT.of (keep ec sA), atI_nat (j := 1) rfl, s⟩) dA (fun y A1 A2 g _ => g) (fun x Hc mm dc hmm sc S s => ?_) fun D2 ps H3 nD2 eD2 hps gps sb3 d3 => ?_
      · simp only [List.length_map] at hmm
        exact ⟨.ref d, rfl, .int (k : Nat), rfl, _, _, rfl, rfl, d, _, mm, rfl, by omega, by omega, by omega, dc, fun r H4 r0 r1 b4 d4 => s _ _ ⟨r, rfl, r0, by omega⟩ b4.sb d4⟩
      · refine ⟨D2, ps, rfl, .inl ⟨SqL.of eD2, fun l2 nl2 => ?_⟩⟩
        have sB := sb3.trans (same_sb (same_new (o := .tup ps) nl2))
        have dB := d3.mono (same_new (o := .tup ps) nl2)
        have eB : upd H3 l2 (.tup ps) l2 = some (.tup ps) := upd_same
        generalize upd H3 l2 (.tup ps) = HB at *
        have kB := ktup_of dA sB
        refine gName_ok ?_
        dsimp only [tSeq, tAsg, tRet, tTup, tCB, tCons]
        refine ⟨.ref l1, rfl, .ref l2, rfl, ?_⟩
        have hb3 : 1 * (L.map V.str).length ≤ 4 := by rw [List.length_map]; omega
        refine drawT_ok (c := 4) (G := fun y _ => ∃ z, y = .int z) (keep eu (sA.trans sB)) (by rw [List.length_map]; omega)
          (fun S s => ⟨.ref c, rfl, c, _, 2, .ref cu, rfl, rfl, SqT.of (keep ec (sA.trans sB)), atI_nat (j := 2) rfl, s⟩) dB (fun y A1 A2 g _ => g) (fun x Hc mm dc hmm sc S s => ?_) fun D3 us H4 nD3 eD3 hus gus sb4 d4 => ?_
        · simp only [List.length_map] at hmm
          exact ⟨.ref d, rfl, d, mm, rfl, dc, by omega, fun i H5 sb5 d5 => s _ _ ⟨i, rfl⟩ sb5 d5⟩
        · refine ⟨D3, us, rfl, .inl ⟨SqL.of eD3, fun l3 nl3 => ⟨(show 3 ≤ sizeLine by decide), fun p np => ?_⟩⟩⟩
          obtain ⟨nu, rfl⟩ := ints_of us gus
          obtain ⟨pl, rfl⟩ := ints_of ps fun y hy => let ⟨z, h, _⟩ := gps y hy; ⟨z, h⟩
          have sE := (same_new (o := .tup (List.map V.int nu)) nl3).trans (same_new (o := .tup [.ref l1, .ref l2, .ref l3]) np)
          have kC := ktup_of dB (sb4.trans (same_sb sE))
          have hb4 : 4 * (U.map V.str).length ≤ 16 := by rw [List.length_map]; omega
          refine q p rows pl nu _ k ⟨l1, l2, l3, rs, upd_same, kC _ _ (kB _ _ eA), hrl, fun i a z h1 h2 => kC _ _ (kB _ _ (hrr i a z h1 h2)), kC _ _ eB, same_new np _ _ upd_same⟩
            (by rw [← hrl]; simpa using hys) hrk hk (by simpa using hps) (fun x hx => ?_) (by simpa using hus) (sA.trans (sB.trans (sb4.trans (same_sb sE)))) ((d4.mono sE).more (by omega))
          obtain ⟨z, h1, h2⟩ := gps (.int x) (List.mem_map_of_mem hx)
          cases h1
          exact h2
end
end My
namespace TM
open PySem PySem.Spec PyProof.Rows L2
theorem once (l : Addr) (its : Array Value) (n : Nat) (dd : Option Addr) (sl : Array (Option Value)) (u : Tok) :
    Meets (Builtin.«tuple.__mul__» ⟨[.ref l, .int 1 u], []⟩)
      (fun _ R s => s.heap.get? l = some { cls := .type "tuple", dict := dd, data := .seq its n, slots := sl } ∧ R (.ok (.ret (Value.ref l))) s) :=
  .of_wp fun prog w A R s h => by
    obtain ⟨hp, g, d, tk, os⟩ := s
    obtain ⟨hl, h⟩ := h
    have f1 := AutoSeq1.idx_int
    wp_walk using wpAny_loadPart' hl
    exact ⟨_, rfl, h⟩
theorem never (l : Addr) (its : Array Value) (n : Nat) (dd : Option Addr) (sl : Array (Option Value)) (u : Tok) (h0 : its.isEmpty = false) :
    Meets (Builtin.«tuple.__mul__» ⟨[.ref l, .int 0 u], []⟩)
      (fun _ R s => s.heap.get? l = some { cls := .type "tuple", dict := dd, data := .seq its n, slots := sl } ∧
        R (.ok (.ret (Value.ref s.heap.objs.size))) { s with heap := s.heap.push { cls := Value.type "tuple", data := Data.seq #[] } }) :=
  .of_wp fun prog w A R s h => by
    obtain ⟨hp, g, d, tk, os⟩ := s
    obtain ⟨hl, h⟩ := h
    have f1 := AutoSeq1.idx_int
    wp_walk using wpAny_loadPart' hl
    exact ⟨_, rfl, h⟩
variable {X : Cx}
/-- a tuple of something times k -/
def rRepA (K : PySem.W.Frag) : R2 := fun x y H Q => ∃ (l : Addr) (k : Nat) (xs : List V), x = .ref l ∧ y = .int (k : Nat) ∧ SqT K H l xs ∧ xs ≠ [] ∧ k ≤ 1000 ∧ xs.length ≤ 1000 ∧
  (k = 1 → Q (.ref l) H) ∧ (k ≠ 1 → ∀ p, H p = none → Q (.ref p) (upd H p (.tup (List.replicate k xs).flatten)))
theorem op_repA : OpR X (binaryOp .Mult) (rRepA X.K) := by
  intro pins s σ H x y v u Q I rx ry h
  obtain ⟨l, k, xs, rfl, rfl, hT, hne, h2, hz, q1, q2⟩ := h
  by_cases k2 : 2 ≤ k
  · refine op_repT pins s σ H _ _ v u Q I rx ry ⟨l, (k : Nat), xs, rfl, rfl, hT, hne, by omega, by omega, hz, fun p np => ?_⟩
    have e := q2 (by omega) p np
    rw [show ((k : Nat) : Int).toNat = k by omega]
    exact e
  cases rx
  obtain ⟨t, rfl⟩ := ry
  obtain ⟨its, r, ⟨⟨cls, dd, data, sl⟩, ho, hc, n, hd⟩, hs⟩ := I.tuple hT
  simp only at hc hd
  subst hc hd
  have hi : its.toArray.isEmpty = false := by
    cases its with
    | nil =>
      cases r
      exact absurd rfl hne
    | cons a b => rfl
  by_cases k1 : k = 1
  · subst k1
    refine wpAny_binaryOp_repeat_ref (T := "tuple") (U := "int") (by decide) ⟨_, ho, rfl⟩
      (fun s' => typeIs_int s' 1 t) noFill_tuple_mul F.fills_int_mul F.slot_int_rmul repeat_tuple F.slot_int_index.lookup
      (call_meets F.slot_int_rmul (typeIs_int s 1 t) F.entry_int_rmul (F.args_int_rmul_2 _ _)
        (int_rmul_tuple 1 t l its.toArray n dd sl)
        ⟨ho, rfl, ⟨_, ho, rfl⟩, call_meets F.slot_tuple_mul ⟨_, ho, rfl⟩
          F.entry_tuple_mul (F.args_tuple_mul_2 _ _) (once l its.toArray n dd sl t) ⟨ho, ?_⟩⟩)
    exact ⟨.ref l, H, I, rfl, q1 rfl⟩
  · have k0 : k = 0 := by omega
    subst k0
    refine wpAny_binaryOp_repeat_ref (T := "tuple") (U := "int") (by decide) ⟨_, ho, rfl⟩
      (fun s' => typeIs_int s' 0 t) noFill_tuple_mul F.fills_int_mul F.slot_int_rmul repeat_tuple F.slot_int_index.lookup
      (call_meets F.slot_int_rmul (typeIs_int s 0 t) F.entry_int_rmul (F.args_int_rmul_2 _ _)
        (int_rmul_tuple 0 t l its.toArray n dd sl)
        ⟨ho, rfl, ⟨_, ho, rfl⟩, call_meets F.slot_tuple_mul ⟨_, ho, rfl⟩
          F.entry_tuple_mul (F.args_tuple_mul_2 _ _) (never l its.toArray n dd sl t hi) ⟨ho, ?_⟩⟩)
    refine ⟨.ref s.heap.objs.size, _, I.laid (t' := s.toks) (o := .tup []) (fun b ob q => Heap.get?_push_of_some _ q)
      (Nat.le_refl _) ?_, rfl, q2 (by omega) _ (I.hok.fresh (Nat.le_refl _))⟩
    exact ⟨Nat.zero_le _, [], .nil, IsTup.new _ _⟩
end TM
namespace My
open PySem PySem.Spec PyProof.Rows L2
/-- a standing as a tree -/
def stTr (rows : List (List Int)) (pl nu : List Int) : Tr := .t [.t (rows.map fun z => .t (z.map Tr.i)), .t (pl.map Tr.i), .t (nu.map Tr.i)]
theorem th_ints {H : Hp} {p : Addr} {z : List Int} (e : H p = some (.tup (z.map V.int))) (hl : z.length ≤ 300) : Th H (.ref p) (.t (z.map Tr.i)) := by
  refine .tup e (by simp) (by simpa using hl) fun i v d h1 h2 => ?_
  rw [List.getElem?_map] at h1 h2
  cases hz : z[i]? with
  | none => rw [hz] at h1; cases h1
  | some x =>
    rw [hz] at h1 h2
    cases h1
    cases h2
    exact .int x
theorem th_rows {H : Hp} {r : Addr} {rs : List Addr} {rows : List (List Int)} (e : H r = some (.tup (rs.map V.ref))) (hl : rs.length = rows.length) (hs : rows.length ≤ 300) (hk : ∀ z ∈ rows, z.length ≤ 300)
    (h : ∀ (i : Nat) a z, rs[i]? = some a → rows[i]? = some z → H a = some (.tup (z.map V.int))) : Th H (.ref r) (.t (rows.map fun z => .t (z.map Tr.i))) := by
  refine .tup e (by simp [hl]) (by simpa using hs) fun i v d h1 h2 => ?_
  rw [List.getElem?_map] at h1 h2
  cases h1' : rs[i]? with
  | none => rw [h1'] at h1; cases h1
  | some a =>
    cases h2' : rows[i]? with
    | none => rw [h2'] at h2; cases h2
    | some z =>
      rw [h1'] at h1
      rw [h2'] at h2
      cases h1
      cases h2
      exact th_ints (h i a z h1' h2') (hk z (List.mem_of_getElem? h2'))
theorem th_trip {H : Hp} {p : Addr} {x y z : V} {a b c : Tr} (e : H p = some (.tup [x, y, z])) (hx : Th H x a) (hy : Th H y b) (hz : Th H z c) : Th H (.ref p) (.t [a, b, c]) := by
  refine .tup e rfl (show 3 ≤ 300 by decide) fun i v d h1 h2 => ?_
  match i with
  | 0 => cases h1; cases h2; exact hx
  | 1 => cases h1; cases h2; exact hy
  | 2 => cases h1; cases h2; exact hz
  | i + 3 => simp at h1
theorem any_trip {H : Hp} {p : Addr} {x y z : V} (e : H p = some (.tup [x, y, z])) (hx : Any H x) (hy : Any H y) (hz : Any H z) : Any H (.ref p) := by
  obtain ⟨a, ha⟩ := hx
  obtain ⟨b, hb⟩ := hy
  obtain ⟨c, hc⟩ := hz
  exact ⟨_, th_trip e ha hb hc⟩
theorem stand_th {H : Hp} {p : Addr} {rows : List (List Int)} {pl nu : List Int} (h : StandAt H p rows pl nu) (h1 : rows.length ≤ 300) (h2 : ∀ z ∈ rows, z.length ≤ 300) (h3 : pl.length ≤ 300) (h4 : nu.length ≤ 300) :
    Th H (.ref p) (stTr rows pl nu) := by
  obtain ⟨r, l, u, rs, e, er, hl, hh, el, eu⟩ := h
  exact th_trip e (th_rows er hl h1 h2 hh) (th_ints el h3) (th_ints eu h4)
theorem wholes_ints (z : List Int) : wholesT (z.length : Int) (.t (z.map Tr.i)) = true := by
  show (decide (((z.map Tr.i).length : Int) = (z.length : Int)) && (z.map Tr.i).all wholeT) = true
  rw [Bool.and_eq_true]
  refine ⟨decide_eq_true (by simp), List.all_eq_true.mpr fun t ht => ?_⟩
  obtain ⟨x, _, rfl⟩ := List.mem_map.mp ht
  rfl
theorem stand_ok {rows : List (List Int)} {pl nu : List Int} {k : Nat} (h1 : 1 ≤ rows.length) (h2 : ∀ z ∈ rows, z.length = k) (h3 : ∀ x ∈ pl, 0 ≤ x ∧ x ≤ (k : Int)) {r l u : Nat} (er : rows.length = r) (el : pl.length = l) (eu : nu.length = u) :
    standT r l u (stTr rows pl nu) = true := by
  subst er el eu
  cases rows with
  | nil => cases h1
  | cons z0 rr =>
    have hz0 : z0.length = k := h2 z0 List.mem_cons_self
    show (rowsT _ _ && placesT _ (lenT (headT (.t ((z0 :: rr).map fun z => Tr.t (z.map Tr.i))))) _ && wholesT _ _) = true
    rw [wholes_ints, Bool.and_true, Bool.and_eq_true]
    have hlen : lenT (headT (.t ((z0 :: rr).map fun z => Tr.t (z.map Tr.i)))) = k := by
      show (z0.map Tr.i).length = k
      rw [List.length_map, hz0]
    refine ⟨?_, ?_⟩
    · show (decide _ && _ && _) = true
      rw [hlen, Bool.and_eq_true, Bool.and_eq_true]
      refine ⟨⟨decide_eq_true (by simp), List.all_eq_true.mpr fun t ht => ?_⟩, List.all_eq_true.mpr fun t ht => ?_⟩
      · obtain ⟨x, _, rfl⟩ := List.mem_map.mp ht
        rfl
      · obtain ⟨x, hx, rfl⟩ := List.mem_map.mp ht
        have e := wholes_ints x
        rw [h2 x hx] at e
        exact e
    · rw [hlen]
      show (wholesT _ _ && _) = true
      rw [wholes_ints, Bool.true_and]
      refine List.all_eq_true.mpr fun t ht => ?_
      obtain ⟨x, hx, rfl⟩ := List.mem_map.mp ht
      show (decide (0 ≤ x) && decide (x ≤ ((k : Nat) : Int))) = true
      rw [decide_eq_true (h3 x hx).1, decide_eq_true (h3 x hx).2]
      rfl
theorem pur_ints (z : List Int) (h : z.length ≤ 100) (m : Nat) : pur (m + 1) (.t (z.map Tr.i)) := .inr ⟨_, rfl, by simpa using h, fun x hx => by
  obtain ⟨y, _, rfl⟩ := List.mem_map.mp hx
  cases m with
  | zero => exact .inr ⟨_, rfl⟩
  | succ m => exact .inl (.inr ⟨_, rfl⟩)⟩
theorem stand_pur {rows : List (List Int)} {pl nu : List Int} (h1 : rows.length ≤ 100) (h2 : ∀ z ∈ rows, z.length ≤ 100) (h3 : pl.length ≤ 100) (h4 : nu.length ≤ 100) : pur 3 (stTr rows pl nu) := by
  refine .inr ⟨_, rfl, (show 3 ≤ 100 by decide), fun x hx => ?_⟩
  simp only [List.mem_cons, List.not_mem_nil, or_false] at hx
  rcases hx with rfl | rfl | rfl
  · refine .inr ⟨_, rfl, by simpa using h1, fun x hx => ?_⟩
    obtain ⟨z, hz, rfl⟩ := List.mem_map.mp hx
    exact pur_ints z (h2 z hz) 0
  · exact pur_ints pl h3 1
  · exact pur_ints nu h4 1
/-! what stays in a turn of the law -/
structure FrL (Ts : List Addr) (d : Addr) (H H' : Hp) (n : Nat) : Prop where
  all : AllT Ts H'
  kp : ∀ b o, b ∉ Ts → b ≠ d → H b = some o → H' b = some o
  dk : Deck H' d n
theorem FrL.refl {Ts : List Addr} {d : Addr} {H : Hp} {n : Nat} (h : AllT Ts H) (k : Deck H d n) : FrL Ts d H H n := ⟨h, fun _ _ _ _ e => e, k⟩
theorem FrL.same {Ts : List Addr} {d : Addr} {H H1 H2 : Hp} {n : Nat} (f : FrL Ts d H H1 n) (s : Same H1 H2) : FrL Ts d H H2 n := ⟨f.all.same s, fun b o hb hd e => s _ _ (f.kp b o hb hd e), f.dk.mono s⟩
theorem Deck.fr {Ts : List Addr} {H H' : Hp} {d : Addr} {n : Nat} (h : Deck H d n) (g : AllT Ts H) (f : FrA Ts H H') : Deck H' d n := by
  obtain ⟨a, b, c, e, r⟩ := h
  exact ⟨a, b, c, f.2 _ _ (g.not e fun q z => nomatch z) e, r⟩
theorem FrL.fra {Ts : List Addr} {d : Addr} {H H1 H2 : Hp} {n : Nat} (f : FrL Ts d H H1 n) (s : FrA Ts H1 H2) : FrL Ts d H H2 n := ⟨s.1, fun b o hb hd e => s.2 _ _ hb (f.kp b o hb hd e), f.dk.fr f.all s⟩
theorem AllT.but {Ts : List Addr} {H H' : Hp} {d : Addr} (h : AllT Ts H) (nd : d ∉ Ts) (s : SameBut d H H') : AllT Ts H' := fun T hT => by
  obtain ⟨ps, e, q⟩ := h T hT
  exact ⟨ps, s _ _ (fun z => nd (by rw [← z]; exact hT)) e, q⟩
theorem FrL.sb {Ts : List Addr} {d : Addr} {H H1 H2 : Hp} {n m : Nat} (f : FrL Ts d H H1 n) (s : SameBut d H1 H2) (k : Deck H2 d m) : FrL Ts d H H2 m := by
  have nd : d ∉ Ts := by
    obtain ⟨_, _, _, e, _⟩ := f.dk
    exact f.all.not e fun q z => nomatch z
  exact ⟨f.all.but nd s, fun b o hb hd e => s _ _ hd (f.kp b o hb hd e), k⟩
theorem FrL.kt {Ts : List Addr} {d : Addr} {H H' : Hp} {n m : Nat} (g : AllT Ts H) (k : Deck H d m) (f : FrL Ts d H H' n) : KT H H' := by
  obtain ⟨a1, b1, c1, e1, _⟩ := k
  obtain ⟨a2, b2, c2, e2, _⟩ := f.dk
  refine ⟨fun x xs e => f.kp _ _ (g.not e fun q z => nomatch z) (fun z => by rw [z, e1] at e; cases e) e, fun x xs e => ?_, fun x xs e => ⟨_, f.kp _ _ (g.not e fun q z => nomatch z) (fun z => by rw [z, e1] at e; cases e) e⟩⟩
  by_cases z : x = d
  · rw [z]
    exact ⟨_, e2⟩
  · exact ⟨_, f.kp _ _ (g.not e fun q z => nomatch z) z e⟩
theorem StandAt.kt {H H' : Hp} {p : Addr} {rows : List (List Int)} {pl nu : List Int} (h : StandAt H p rows pl nu) (k : KT H H') : StandAt H' p rows pl nu := by
  obtain ⟨r, l, u, rs, e, er, hl, hh, el, eu⟩ := h
  exact ⟨r, l, u, rs, k.tup _ _ e, k.tup _ _ er, hl, fun i a z h1 h2 => k.tup _ _ (hh i a z h1 h2), k.tup _ _ el, k.tup _ _ eu⟩
theorem sql_fr {K : PySem.W.Frag} {Ts : List Addr} {H H' : Hp} {a : Addr} {xs : List V} (h : SqL K H a xs) (g : AllT Ts H) (f : FrA Ts H H') : SqL K H' a xs := by
  rcases h with (h | ⟨o, h⟩) | h
  · exact .inl (.inl (f.2 _ _ (g.not h fun q z => nomatch z) h))
  · exact .inl (.inr ⟨o, f.2 _ _ (g.not h fun q z => nomatch z) h⟩)
  · exact .inr h
theorem kt_app {H : Hp} {D : Addr} {ys zs : List V} (e : H D = some (.lst ys)) : KT H (upd H D (.lst zs)) := by
  refine ⟨fun b xs q => ?_, fun b xs q => ?_, fun b xs q => ⟨xs, ?_⟩⟩
  · rw [upd_ne (fun z => by rw [z, e] at q; cases q)]
    exact q
  · by_cases z : b = D
    · rw [z]
      exact ⟨_, upd_same⟩
    · rw [upd_ne z]
      exact ⟨_, q⟩
  · rw [upd_ne (fun z => by rw [z, e] at q; cases q)]
    exact q
/-- [te for x in a tuple], te draws: each item is a thing -/
theorem drawT_any {K : PySem.W.Frag} {a d : Addr} {H : Hp} {xs : List V} {σ : L2.St} {j n c : Nat} {ti te : TE} {Q : VK}
    (ea : H a = some (.tup xs)) (hs : xs.length ≤ 300) (hti : ∀ R : VK, R (.ref a) H → ti σ H R) (hd : Deck H d n)
    (step : ∀ x Hc m, x ∈ xs → Deck Hc d m → m + c ≤ n + c * xs.length → SameBut d H Hc → ∀ R : VK, (∀ y Hy, Any Hy y → SameBut d Hc Hy → Deck Hy d (m + c) → R y Hy) → te ((wipe σ [j]).set j (some x)) Hc R)
    (q : ∀ D ys H', D ≠ d → H' D = some (.lst ys) → ys.length = xs.length → (∀ y ∈ ys, Any H' y) → SameBut d H H' → Deck H' d (n + c * xs.length) → Q (.ref D) H') :
    tLc (iTup K ti) (gName j) tYes te [j] σ H Q := by
  refine hti _ ⟨a, rfl, ⟨_, SqT.of ea⟩, fun D hD => ?_⟩
  have nD : d ≠ D := hd.ne hD
  have nad : a ≠ d := fun z => by
    obtain ⟨_, _, _, e, _⟩ := hd
    rw [z, e] at ea
    cases ea
  refine ⟨fun i m Hc => i + m = xs.length ∧ SameBut d H Hc ∧ Deck Hc d (n + c * i) ∧ ∃ ys, Hc D = some (.lst ys) ∧ ys.length = i ∧ ∀ y ∈ ys, Any Hc y,
    ⟨xs.length, by omega, same_sb (same_new hD), hd.lay hD, [], upd_same, rfl, fun y hy => by cases hy⟩, fun i m Hc hW => ?_⟩
  obtain ⟨him, sC, dC, ys, eD, hy, hG⟩ := hW
  have eaC := sC _ _ nad ea
  by_cases hi : i < xs.length
  · refine .inr ⟨⟨_, xs[i], SqT.of eaC, List.getElem?_eq_getElem hi⟩, fun H' => SameBut d H H' ∧ Deck H' d (n + c * (i + 1)) ∧ ∃ zs, H' D = some (.lst zs) ∧ zs.length = i + 1 ∧ ∀ y ∈ zs, Any H' y,
      fun H' e => ⟨m - 1, by omega, by omega, e⟩, fun x H' hy2 => ?_⟩
    obtain ⟨rfl, hx⟩ := hy2
    have hxm : x ∈ xs := List.mem_of_getElem? (hx _ (SqT.of eaC))
    refine ⟨by simp [wipe, List.set_set], ?_⟩
    have hc1 : c * (i + 1) ≤ c * xs.length := Nat.mul_le_mul_left _ hi
    have hc2 : c * (i + 1) = c * i + c := Nat.mul_succ c i
    refine step x _ _ hxm dC (by omega) sC _ fun y Hy gy sy dy => ?_
    have eDy := sy _ _ nD.symm eD
    have k1 : KT H' Hy := .deck dC dy sy
    have k2 : KT Hy (upd Hy D (.lst (ys ++ [y]))) := kt_app eDy
    refine ⟨ys, eDy, small (by omega), ?_, ?_, ys ++ [y], upd_same, by simp [hy], ?_⟩
    · intro b o hb e
      have nb : b ≠ D := ne_of_none e hD
      rw [upd_ne nb]
      exact sy _ _ hb (sC _ _ hb e)
    · obtain ⟨a1, b1, c1, e, r⟩ := dy
      exact ⟨a1, b1, c1, (upd_ne nD).trans e, by rw [hc2, ← Nat.add_assoc]; exact r⟩
    · intro z hz
      rcases List.mem_append.mp hz with hz | hz
      · exact ((hG z hz).keep k1).keep k2
      · have : z = y := by simpa using hz
        rw [this]
        exact gy.keep k2
  · have hi2 : i = xs.length := by omega
    subst hi2
    exact .inl ⟨⟨_, SqT.of eaC, Nat.le_refl _⟩, q D ys Hc nD.symm eD hy hG sC dC⟩
/-- the same over range(N) -/
theorem drawR_any {d : Addr} {H : Hp} {N : Nat} {σ : L2.St} {j n c : Nat} {tn : TA} {te : TE} {Q : VK}
    (hs : N ≤ 300) (h0 : ∀ R : List V → Hp → Prop, R [.int (N : Nat)] H → tn σ H R) (hd : Deck H d n)
    (step : ∀ x Hc m, Deck Hc d m → m + c ≤ n + c * N → SameBut d H Hc → ∀ R : VK, (∀ y Hy, Any Hy y → SameBut d Hc Hy → Deck Hy d (m + c) → R y Hy) → te ((wipe σ [j]).set j (some x)) Hc R)
    (q : ∀ D ys H', D ≠ d → H' D = some (.lst ys) → ys.length = N → (∀ y ∈ ys, Any H' y) → SameBut d H H' → Deck H' d (n + c * N) → Q (.ref D) H') :
    tLc (iRng1 tn) (gName j) tYes te [j] σ H Q := by
  refine h0 _ ⟨(N : Nat), rfl, by omega, by omega, fun D hD => ?_⟩
  have nD : d ≠ D := hd.ne hD
  have eN : ((N : Nat) : Int).toNat = N := by omega
  refine lc_range (lo := 0) (n := ((N : Nat) : Int).toNat) (fun i Hc => i ≤ N ∧ SameBut d H Hc ∧ Deck Hc d (n + c * i) ∧ ∃ ys, Hc D = some (.lst ys) ∧ ys.length = i ∧ ∀ y ∈ ys, Any Hc y) ?_ ?_ ?_
  · exact ⟨Nat.zero_le _, same_sb (same_new hD), hd.lay hD, [], upd_same, rfl, fun y hy => by cases hy⟩
  · intro i Hc hi hP
    obtain ⟨hiN, sC, dC, ys, eD, hy, hG⟩ := hP
    rw [eN] at hi
    refine ⟨by simp [wipe, List.set_set], ?_⟩
    have hc1 : c * (i + 1) ≤ c * N := Nat.mul_le_mul_left _ hi
    have hc2 : c * (i + 1) = c * i + c := Nat.mul_succ c i
    refine step _ _ _ dC (by omega) sC _ fun y Hy gy sy dy => ?_
    have eDy := sy _ _ nD.symm eD
    have k1 : KT Hc Hy := .deck dC dy sy
    have k2 : KT Hy (upd Hy D (.lst (ys ++ [y]))) := kt_app eDy
    refine ⟨ys, eDy, small (by omega), by omega, ?_, ?_, ys ++ [y], upd_same, by simp [hy], ?_⟩
    · intro b o hb e
      have nb : b ≠ D := ne_of_none e hD
      rw [upd_ne nb]
      exact sy _ _ hb (sC _ _ hb e)
    · obtain ⟨a1, b1, c1, e, r⟩ := dy
      exact ⟨a1, b1, c1, (upd_ne nD).trans e, by rw [hc2, ← Nat.add_assoc]; exact r⟩
    · intro z hz
      rcases List.mem_append.mp hz with hz | hz
      · exact ((hG z hz).keep k1).keep k2
      · have : z = y := by simpa using hz
        rw [this]
        exact gy.keep k2
  · intro Hc hP
    rw [eN] at hP
    obtain ⟨_, sC, dC, ys, eD, hy, hG⟩ := hP
    exact q D ys Hc nD.symm eD hy hG sC dC
theorem rep_ok {K : PySem.W.Frag} {H : Hp} {l : Addr} {k : Nat} {v : V} {Q : VK} (e : H l = some (.tup [v])) (hk : k ≤ 1000) (q : ∀ p H', Same H H' → H' p = some (.tup (List.replicate k v)) → Q (.ref p) H') :
    TM.rRepA K (.ref l) (.int (k : Nat)) H Q := by
  refine ⟨l, k, [v], rfl, rfl, SqT.of e, by simp, hk, (show 1 ≤ 1000 by decide), fun h1 => ?_, fun h1 p np => ?_⟩
  · subst h1
    exact q l H (Same.refl H) e
  · have fl : ∀ k : Nat, (List.replicate k [v]).flatten = List.replicate k v := fun k => by
      induction k with
      | zero => rfl
      | succ k ih => rw [List.replicate_succ, List.flatten_cons, ih]; rfl
    rw [fl]
    exact q p _ (same_new np) upd_same
end My
namespace My
open PySem PySem.Spec PyProof.Rows L2
theorem tLc_ti {K : PySem.W.Frag} {ti te : TE} {g : TG} {tt : TT} {own : List Nat} {σ : L2.St} {H : Hp} {Q : VK} (h : ti σ H fun v H1 => tLc (iTup K (tC v)) g tt te own σ H1 Q) : tLc (iTup K ti) g tt te own σ H Q := h
theorem rest_ok {K : PySem.W.Frag} {Ts : List Addr} {a d c st r l u ls r0 : Addr} {y1 y9 y10 y12 y13 : Option V} {k : Nat} {E3 A : Hp} {R L U : List Str} {X rr : List V} {t : Tr} (D : Ends)
    (hG3 : AllT Ts E3) (d3 : Deck E3 d 500) (f : FrL Ts d E3 A 500) (els : A ls = some (.lst X)) (nls : ls ≠ d) (hX : X.length ≤ 40) (anyX : ∀ x ∈ X, Any A x)
    (thc : Th E3 (.ref c) (.t [FF R, FF L, FF U])) (hcast : castT (.t [FF R, FF L, FF U]) = true) (lr1 : 1 ≤ R.length)
    (thst : ∀ HH, KT E3 HH → Th HH (.ref st) t) (hpur : pur 3 t) (er3 : E3 r = some (.tup (V.ref r0 :: rr))) (any0 : ∀ HH, KT E3 HH → Any HH (.ref r0)) (hk : k ≤ 10)
    (nx : ∀ y11 y12 y13 H', FrL Ts d E3 H' 740 → D.nx [some (.ref a), y1, some (.ref d), some (.ref c), some (.ref st), some (.ref r), some (.ref l), some (.ref u), some (.int (k : Nat)), y9, y10, y11, y12, y13, none, none, none] H') :
    tSeq (tAsg (tOp rCat (tVar 11) (tLc (iRng1 (tCons (tC (V.int 6)) tNil)) (gName 16) tYes (tCall (spBent 3) [] E0 (tCons (tVar 2) (tCons (tVar 4) (tCons (tLst (tCons (tVar 8) (tCons (tOp (rI0 fun i j => .int (i + j)) (tVar 8) (tC (.int 1))) (tCons (tOp (rIxT K) (tVar 5) (tC (.int 0))) (tCons (tOp (TM.rRepA K) (tTup (tCons (tC (.int 0)) tNil)) (tVar 8)) tNil))))) tNil)))) [16])) (gName 11))
      (tFor (iList K (tVar 11)) (gName 12) (tSeq (tAsg (tCall (spIsStanding Ts) [] E0 (tCons (tVar 3) (tCons (tVar 12) tNil))) (gName 13))
        (tIfS (tOr (tNot (tB (tCB (rIsi K) (tCons (tVar 13) (tCons (tC (V.ty "bool")) tNil))))) (tTest (tOp rNe (tVar 13) (tCall spGood [] E0 (tCons (tVar 3) (tCons (tVar 12) tNil)))))) (tRet (tC (V.bl false))) tNext)))
      D [some (.ref a), y1, some (.ref d), some (.ref c), some (.ref st), some (.ref r), some (.ref l), some (.ref u), some (.int (k : Nat)), y9, y10, some (.ref ls), y12, y13, none, none, none] A := by
  have kA := f.kt hG3 d3
  dsimp only [tSeq, tAsg]
  refine tOp_ok ?_
  refine ⟨.ref ls, rfl, ?_⟩
  refine drawR_any (N := 6) (c := 40) (d := d) (by decide) (fun S s => s) f.dk (fun x Hx mm dx hmm sx S s => ?_) fun D2 ys B nD eD hys gys sb' d' => ?_
  · have kx : KT E3 Hx := kA.trans (.deck f.dk dx sx)
    refine ⟨.ref d, rfl, .ref st, rfl, .int (k : Nat), rfl, .int (k : Nat), rfl, _, _, rfl, rfl, .ref r, rfl, r, _, 0, .ref r0, rfl, rfl, SqT.of (kx.tup _ _ er3), atI_nat (j := 0) rfl, (show 1 ≤ sizeLine by decide), fun t1 nt1 => ?_⟩
    have s1 := same_new (o := .tup [.int 0]) nt1
    refine ⟨.int (k : Nat), rfl, rep_ok upd_same (by omega) fun t2 H2 s2 e2 => ?_⟩
    refine ⟨(show 4 ≤ sizeLine by decide), fun ps nps => ?_⟩
    have s3 := same_new (o := .lst [.int (k : Nat), .int ((k : Nat) + 1), .ref r0, .ref t2]) nps
    have sA := s1.trans (s2.trans s3)
    have kB := kx.trans (.of_same sA)
    have nps' : ps ≠ d := fun z => ((dx.mono (s1.trans s2)).ne nps) z.symm
    refine ⟨d, ps, mm, _, .ref st, t, rfl, thst _ kB, hpur, ⟨dx.mono sA, upd_same, nps', fun x hx => ?_⟩, (show 4 ≤ 500 by decide), by omega, by decide, fun v' H' any' sb' dk' => ?_⟩
    · simp only [List.mem_cons, List.not_mem_nil, or_false] at hx
      rcases hx with rfl | rfl | rfl | rfl
      · exact ⟨_, .int _⟩
      · exact ⟨_, .int _⟩
      · exact any0 _ kB
      · refine any_tup (s3 _ _ e2) (by rw [List.length_replicate]; omega) fun y hy => ?_
        have := List.eq_of_mem_replicate hy
        rw [this]
        exact ⟨_, .int _⟩
    · exact s _ _ any' ((same_sb sA).trans sb') dk'
  · have fB := f.sb sb' d'
    have kAB : KT A B := .deck f.dk d' sb'
    refine ⟨ls, D2, X, ys, rfl, rfl, sb' _ _ nls els, eD, small (by omega), fun l3 nl3 => ?_⟩
    have s4 := same_new (o := .lst (X ++ ys)) nl3
    have f4 := fB.same s4
    have e4 : upd B l3 (.lst (X ++ ys)) l3 = some (.lst (X ++ ys)) := upd_same
    have any4 : ∀ x ∈ X ++ ys, Any (upd B l3 (.lst (X ++ ys))) x := fun x hx => by
      rcases List.mem_append.mp hx with hx | hx
      · exact ((anyX x hx).keep kAB).keep (.of_same s4)
      · exact (gys x hx).keep (.of_same s4)
    generalize upd B l3 (.lst (X ++ ys)) = B4 at *
    have k4 := f4.kt hG3 d3
    have n4 := f4.all.not e4 fun q z => nomatch z
    refine gName_ok ?_
    refine ⟨.ref l3, rfl, l3, rfl, ⟨_, SqL.of e4⟩, ?_⟩
    refine for_list (K := K) (a := l3) (xs := X ++ ys) (fun i σ Hc => ∃ y12 y13, σ = [some (.ref a), y1, some (.ref d), some (.ref c), some (.ref st), some (.ref r), some (.ref l), some (.ref u), some (.int (k : Nat)), y9, y10, some (.ref l3), y12, y13, none, none, none] ∧ FrA Ts B4 Hc) ?_ ?_ ?_ ?_
    · exact ⟨_, _, rfl, .refl f4.all⟩
    · intro i σ Hc _ hP
      obtain ⟨_, _, _, fr⟩ := hP
      exact SqL.of (fr.2 _ _ n4 e4)
    · intro i x σ Hc hx hP
      obtain ⟨z12, z13, rfl, fr⟩ := hP
      obtain ⟨tx, thx⟩ := any4 x (List.mem_of_getElem? hx)
      have kc := fr.kt f4.all
      refine ⟨.ref c, rfl, x, rfl, c, R, L, U, x, tx, rfl, (thc.keep k4).keep kc, hcast, lr1, thx.keep kc, fr.1, fun H8 f8 => ?_⟩
      have k8 := kc.trans (f8.kt fr.1)
      refine ⟨.bl (standT R.length L.length U.length tx), rfl, .bl _, .ty "bool", _, _, true, rfl, .ty _, .base (.bl _), kit_ty (by decide +kernel), true, rfl, ?_⟩
      refine ⟨.bl (standT R.length L.length U.length tx), rfl, .ref c, rfl, x, rfl, c, R, L, U, x, tx, rfl, (thc.keep k4).keep k8, lr1, thx.keep k8, fun H9 s9 => ?_⟩
      refine ⟨rfl, _, rfl, iteNS rfl ?_⟩
      exact ⟨some x, _, rfl, (fr.trans f8).trans (.of_same f8.1 s9)⟩
    · intro σ Hc hP
      obtain ⟨z12, z13, rfl, fr⟩ := hP
      exact nx _ _ _ _ (f4.fra fr)
end My
namespace My
open PySem PySem.Spec PyProof.Rows L2
abbrev sLaw : Stmt := tp 30
abbrev NLaw : List Str := ["_law_script", "_law_cell", "_law_deck_here", "_law_cast", "_law_standing_here", "_law_rows", "_law_places", "_law_numbers", "_law_long", "_law_behind", "_law_wide", "_law_some", "_law_thing", "_law_found", "_law_row", "_law_place", "_law_turn"]
theorem scLaw : FnScope NLaw ["_law_script"] (defScope sLaw) :=
  ⟨rfl, rfl, rfl, by decide +kernel, rfl, by decide +kernel, by decide +kernel⟩
theorem at_last {α : Type} (xs : List α) (h : xs ≠ []) : ∃ (i : Nat) (v : α), xs[i]? = some v ∧ atI xs (-1) = some v := by
  have hl : 0 < xs.length := List.length_pos_iff.mpr h
  have hi : xs.length - 1 < xs.length := by omega
  refine ⟨xs.length - 1, xs[xs.length - 1], List.getElem?_eq_getElem hi, ?_⟩
  unfold atI
  have e : ixN xs.length (-1) = some (xs.length - 1) := by
    unfold ixN
    rw [if_neg (by omega)]
    simp
    omega
  rw [e]
  exact List.getElem?_eq_getElem hi
section
variable {P : Program} {w : World} {K : PySem.W.Frag} {mg : Str → Option Value} {base : Heap} {Ts : List Addr}
def spLaw (K : PySem.W.Frag) (Ts : List Addr) : Sp := fun vs H Q _ => ∃ (a : Addr) (ns : List Int), vs = [.ref a] ∧ SqL K H a (ns.map V.int) ∧
  ns.length ≤ 63 ∧ AllT Ts H ∧ ∀ H', Q (.bl true) H'
set_option maxHeartbeats 2000000 in
theorem ok_law {f fI fK fW fS fB fG : Addr} {fd fdI fdK fdW fdS fdB fdG : FuncData} (F : Fun K "law" "law" sLaw f fd)
    (GI : FnOk P w K mg base CX0 6 fI fdI ["cast", "thing"] (spIsStanding Ts)) (kI : PySem.W.keepIn K (.ref fI) = true) (bI : Binds K fdI ["cast", "thing"] []) (gI : mg "is_standing" = some (.ref fI))
    (GK : FnOk P w K mg base CX0 1 fK fdK ["_law_cell"] spDeck) (kK : PySem.W.keepIn K (.ref fK) = true) (bK : Binds K fdK ["_law_cell"] []) (gK : mg "_law_deck" = some (.ref fK))
    (GW : FnOk P w K mg base CX0 4 fW fdW ["_law_deck_here"] spWorld) (kW : PySem.W.keepIn K (.ref fW) = true) (bW : Binds K fdW ["_law_deck_here"] []) (gW : mg "_law_world" = some (.ref fW))
    (GS : FnOk P w K mg base CX0 3 fS fdS ["_law_deck_here", "_law_cast", "_law_long"] spStanding) (kS : PySem.W.keepIn K (.ref fS) = true) (bS : Binds K fdS ["_law_deck_here", "_law_cast", "_law_long"] []) (gS : mg "_law_standing" = some (.ref fS))
    (GB : FnOk P w K mg base CX0 6 fB fdB ["_law_deck_here", "_law_thing", "_law_some"] (spBent 3)) (kB : PySem.W.keepIn K (.ref fB) = true) (bB : Binds K fdB ["_law_deck_here", "_law_thing", "_law_some"] []) (gB : mg "_law_bent" = some (.ref fB))
    (GG : FnOk P w K mg base CX0 3 fG fdG ["_law_cast", "_law_thing"] spGood) (kG : PySem.W.keepIn K (.ref fG) = true) (bG : Binds K fdG ["_law_cast", "_law_thing"] []) (gG : mg "_law_good" = some (.ref fG))
    (mi : mg "isinstance" = none) (mb : mg "bool" = none) (mt : mg "tuple" = none) (ml : mg "len" = none) (mr : mg "range" = none) :
    FnOk P w K mg base CX0 7 f fd ["_law_script"] (spLaw K Ts) := by
  refine F.ok scLaw (fun vs H Q E h => ?_) (fun cdv A outer s H vs Q E hr h => ?_)
  · obtain ⟨a, n, rfl, _⟩ := h
    rfl
  · obtain ⟨a, ns, rfl, hS, hlen, hG, q⟩ := h
    have hr1 : Room 1 _ := hr.mono (by decide)
    refine ⟨_, pss_cons (ps_for PassesOwn.never rfl (pi_list (pe_op op_cat (pe_slice sl_list (pv 0) po_none (po_some pe_int)) (pe_lst (pa_cons pe_int pa_nil)))) (pg_name (i := 1) scLaw.nd rfl (.inl rfl))
        (pss_cons (ps_set (i := 2) scLaw.nd rfl (.inr rfl) (pe_call GK hr1 (by rfl) gK kK bK .nil pass0 (pa_cons (pv 1) pa_nil)))
        (pss_cons (ps_set (i := 3) scLaw.nd rfl (.inl rfl) (pe_ix ix_tup (pe_call GW (hr.mono (by decide)) (by rfl) gW kW bW .nil pass0 (pa_cons (pv 2) pa_nil)) pe_int (fun _ _ => rfl)))
        (pss_cons (ps_set (i := 4) scLaw.nd rfl (.inr rfl) (pe_call GS (hr.mono (by decide)) (by rfl) gS kS bS .nil pass0 (pa_cons (pv 2) (pa_cons (pv 3) (pa_cons pe_int pa_nil)))))
        (pss_cons (ps_asg (pv 4) (pg_tup (by rfl) (pgs_cons (pg_name (i := 5) scLaw.nd rfl (.inr rfl)) (pgs_cons (pg_name (i := 6) scLaw.nd rfl (.inr rfl)) (pgs_cons (pg_name (i := 7) scLaw.nd rfl (.inr rfl)) pgs_nil)))))
        (pss_cons (ps_set (i := 8) scLaw.nd rfl (.inr rfl) (pe_callB call_len_seq (by rfl) ml PySem.boot_len (pa_cons (pe_ix ix_tup (pv 5) pe_int (fun _ _ => rfl)) pa_nil)))
        (pss_cons (ps_set (i := 9) scLaw.nd rfl (.inl rfl) (pe_tup (pa_cons (pv 5) (pa_cons (pe_op TM.op_repA (pe_tup (pa_cons (pv 8) pa_nil)) (pe_callB call_len_seq (by rfl) ml PySem.boot_len (pa_cons (pv 6) pa_nil))) (pa_cons (pv 7) pa_nil)))))
        (pss_cons (ps_set (i := 10) scLaw.nd rfl (.inl rfl) (pe_tup (pa_cons (pe_callTy call_tuple_of (by rfl) mt (by decide +kernel) (pa_cons
            (pe_lc (own := [("_law_row", 14)]) (g := gName 14) (by rfl) scLaw.nd (pi_tup (pv 5))
              (blkOk_by (own := [("_law_row", 14)]) (N := NLaw) (sc := defScope sLaw) (by decide +kernel))
              (fun _ _ _ _ _ => pg_name (i := 14) scLaw.nd rfl (Or.inl rfl)) (fun _ _ _ _ _ => pts_nil)
              (fun _ _ _ _ _ => pe_op (r := TM.rRepA K) TM.op_repA (pe_tup (pa_cons (pe_op (r := _) op_pow pe_int pe_int) pa_nil)) (pe_op (r := rI0 fun i j => .int (i + j)) op_add pe_int (pv 8)))) pa_nil))
            (pa_cons (pe_op TM.op_repA (pe_tup (pa_cons (pe_op op_add pe_int (pv 8)) pa_nil)) (pe_callB call_len_seq (by rfl) ml PySem.boot_len (pa_cons (pv 6) pa_nil))) (pa_cons (pv 7) pa_nil)))))
        (pss_cons (ps_if (pt_cmpR op_notBl (pe_call GI hr (by rfl) gI kI bI .nil pass0 (pa_cons (pv 3) (pa_cons (pv 10) pa_nil))) pe_bl (nomark _)) (pss_one (ps_ret pe_bl)) pss_nil)
        (pss_cons (ps_if (PW.pt (pw_or (pt_cmpR op_notBl (pe_call GI hr (by rfl) gI kI bI .nil pass0 (pa_cons (pv 3) (pa_cons (pv 4) pa_nil))) pe_bl (nomark _))
            (pw_or1 (pt_cmpR op_notBl (pe_call GI hr (by rfl) gI kI bI .nil pass0 (pa_cons (pv 3) (pa_cons (pv 9) pa_nil))) pe_bl (nomark _))))) (pss_one (ps_ret pe_bl)) pss_nil)
        (pss_cons (ps_set (i := 11) scLaw.nd rfl (.inl rfl) (pe_lst (pa_cons (pe_tup (pa_cons (pe_op op_catA (pe_slice sl_tupA (pv 5) po_none (po_some (pe_un un_neg pe_int)))
              (pe_tup (pa_cons (pe_op op_catA (pe_ix ix_tup (pv 5) (pe_un un_neg pe_int) (fun _ _ => rfl)) (pe_tup (pa_cons pe_int pa_nil))) pa_nil))) (pa_cons (pv 6) (pa_cons (pv 7) pa_nil))))
            (pa_cons (pe_tup (pa_cons (pv 5) (pa_cons (pe_op op_catA (pv 6) (pe_tup (pa_cons pe_int pa_nil))) (pa_cons (pv 7) pa_nil)))) pa_nil))))
        (pss_cons (ps_set (i := 11) scLaw.nd rfl (.inl rfl) (pe_op op_cat (pv 11) (pe_lst (pa_cons (pe_tup (pa_cons (pe_op op_catA (pv 5) (pe_slice sl_tupA (pv 5) po_none (po_some pe_int))) (pa_cons (pv 6) (pa_cons (pv 7) pa_nil))))
            (pa_cons (pe_tup (pa_cons (pe_slice sl_tupA (pv 5) (po_some pe_int) po_none) (pa_cons (pv 6) (pa_cons (pv 7) pa_nil))))
            (pa_cons (pe_tup (pa_cons (pv 5) (pa_cons (pv 6) (pa_cons (pe_op op_catA (pv 7) (pe_tup (pa_cons pe_int pa_nil))) pa_nil)))) pa_nil))))))
        (pss_cons (ps_if (pt_cmpR (op_neD hr.units) (pv 6) (pe_tup pa_nil) (nomark _))
            (pss_one (ps_set (i := 11) scLaw.nd rfl (.inl rfl) (pe_op op_cat (pv 11)
              (pe_lc (own := [("_law_place", 15)]) (g := gName 15) (by rfl) scLaw.nd (pi_tup (pe_tup (pa_cons (pe_un un_neg pe_int) (pa_cons (pv 8) (pa_cons (pe_op op_add (pv 8) pe_int) (pa_cons pe_bl pa_nil))))))
                (blkOk_by (own := [("_law_place", 15)]) (N := NLaw) (sc := defScope sLaw) (by decide +kernel))
                (fun _ _ _ _ _ => pg_name (i := 15) scLaw.nd rfl (Or.inl rfl)) (fun _ _ _ _ _ => pts_nil)
                (fun _ _ _ _ _ => pe_tup (pa_cons (pv 5) (pa_cons (pe_op (r := rCatA K) op_catA (pe_slice (r := rSlA K) sl_tupA (pv 6) po_none (po_some (pe_un (r := rU fun i => .int (-i)) un_neg pe_int))) (pe_tup (pa_cons (pv 15) pa_nil))) (pa_cons (pv 7) pa_nil)))))))) pss_nil)
        (pss_cons (ps_set (i := 11) scLaw.nd rfl (.inl rfl) (pe_op op_cat (pv 11)
              (pe_lc (own := [("_law_turn", 16)]) (g := gName 16) (te := tCall (spBent 3) [] E0 (tCons (tVar 2) (tCons (tVar 4) (tCons (tLst (tCons (tVar 8) (tCons (tOp (rI0 fun i j => .int (i + j)) (tVar 8) (tC (.int 1))) (tCons (tOp (rIxT K) (tVar 5) (tC (.int 0))) (tCons (tOp (TM.rRepA K) (tTup (tCons (tC (.int 0)) tNil)) (tVar 8)) tNil))))) tNil)))) (by rfl) scLaw.nd (pi_range1 (by rfl) mr (pa_cons pe_int pa_nil))
                (blkOk_by (own := [("_law_turn", 16)]) (N := NLaw) (sc := defScope sLaw) (by decide +kernel))
                (fun _ _ _ _ _ => pg_name (i := 16) scLaw.nd rfl (Or.inl rfl)) (fun _ _ _ _ _ => pts_nil)
                (fun _ _ _ _ _ => pe_call GB hr (by rfl) gB kB bB .nil pass0 (pa_cons (pv 2) (pa_cons (pv 4) (pa_cons (pe_lst (pa_cons (pv 8) (pa_cons (pe_op (r := rI0 fun i j => .int (i + j)) op_add (pv 8) pe_int)
                  (pa_cons (pe_ix (r := rIxT K) ix_tup (pv 5) pe_int (fun _ _ => rfl)) (pa_cons (pe_op (r := TM.rRepA K) TM.op_repA (pe_tup (pa_cons pe_int pa_nil)) (pv 8)) pa_nil))))) pa_nil)))))))
        (pss_one (ps_for PassesOwn.never rfl (pi_list (pv 11)) (pg_name (i := 12) scLaw.nd rfl (.inl rfl))
          (pss_cons (ps_set (i := 13) scLaw.nd rfl (.inl rfl) (pe_call GI hr (by rfl) gI kI bI .nil pass0 (pa_cons (pv 3) (pa_cons (pv 12) pa_nil))))
          (pss_one (ps_if (PW.pt (pw_or (pt_not (pt_val (pe_callB call_isi (by rfl) mi (by decide +kernel)
              (pa_cons (pv 13) (pa_cons (pe_bltn (v := .ty "bool") (by rfl) mb (by decide +kernel) rfl) pa_nil)))))
            (pw_or1 (pt_cmpR op_ne (pv 13) (pe_call GG (hr.mono (by decide)) (by rfl) gG kG bG .nil pass0 (pa_cons (pv 3) (pa_cons (pv 12) pa_nil))) (nomark _)))))
            (pss_one (ps_ret pe_bl)) pss_nil)))))))))))))))))))
      (pss_one (ps_ret pe_bl)), ?_⟩
    refine ⟨.ref a, rfl, 15, rfl, a, _, rfl, hS, fun c1 nc1 => ?_⟩
    refine ⟨(show 1 ≤ sizeLine by decide), fun c2 nc2 => ?_⟩
    have sc := same_new (o := .lst [.int 3]) nc2
    have cl := cutV_length (ns.map V.int) none (some 15)
    rw [List.length_map] at cl
    refine ⟨c1, c2, _, _, rfl, rfl, sc _ _ upd_same, upd_same, small (show (cutV (ns.map V.int) none (some 15)).length + 1 ≤ 1000 by omega), fun c3 nc3 => ⟨c3, rfl, ⟨_, SqL.of upd_same⟩, ?_⟩⟩
    have sD := (same_new (o := .lst (cutV (ns.map V.int) none (some 15))) nc1).trans (sc.trans (same_new (o := .lst (cutV (ns.map V.int) none (some 15) ++ [.int 3])) nc3))
    have ec3 : upd (upd (upd H c1 (.lst (cutV (ns.map V.int) none (some 15)))) c2 (.lst [.int 3])) c3 (.lst (cutV (ns.map V.int) none (some 15) ++ [.int 3])) c3 = some (.lst (cutV (ns.map V.int) none (some 15) ++ [.int 3])) := upd_same
    have hGC := hG.same sD
    generalize upd (upd (upd H c1 (.lst (cutV (ns.map V.int) none (some 15)))) c2 (.lst [.int 3])) c3 (.lst (cutV (ns.map V.int) none (some 15) ++ [.int 3])) = HC at *
    have hint : ∀ x ∈ cutV (ns.map V.int) none (some 15) ++ [V.int 3], ∃ n, x = .int n := fun x hx => by
      rcases List.mem_append.mp hx with hx | hx
      · obtain ⟨n, _, e⟩ := List.mem_map.mp (mem_cutV hx)
        exact ⟨n, e.symm⟩
      · exact ⟨3, by simpa using hx⟩
    generalize cutV (ns.map V.int) none (some 15) ++ [V.int 3] = CL at *
    have nc3T := hGC.not ec3 fun q z => nomatch z
    refine for_list (K := K) (a := c3) (xs := CL) (fun i σ Hc => ∃ y1 y2 y3 y4 y5 y6 y7 y8 y9 y10 y11 y12 y13, σ = [some (.ref a), y1, y2, y3, y4, y5, y6, y7, y8, y9, y10, y11, y12, y13, none, none, none] ∧ FrA Ts HC Hc) ?_ ?_ ?_ ?_
    · exact ⟨_, _, _, _, _, _, _, _, _, _, _, _, _, rfl, .refl hGC⟩
    · intro i σ Hc _ hP
      obtain ⟨_, _, _, _, _, _, _, _, _, _, _, _, _, _, f⟩ := hP
      exact SqL.of (f.2 _ _ nc3T ec3)
    · intro i x σ Hc hx hP
      obtain ⟨y1, y2, y3, y4, y5, y6, y7, y8, y9, y10, y11, y12, y13, rfl, fC⟩ := hP
      obtain ⟨n, rfl⟩ := hint x (List.mem_of_getElem? hx)
      refine ⟨.int n, rfl, n, rfl, fun d E1 nd b1 k1 => ?_⟩
      have ndT : d ∉ Ts := fun z => by
        obtain ⟨ps, e, _⟩ := fC.1 d z
        rw [nd] at e
        cases e
      refine ⟨.ref d, rfl, d, 0, rfl, k1, by decide, fun p c sp R L U S E2 W4 ep ec es sb2 d2 => ?_⟩
      refine ⟨p, _, 0, .ref c, rfl, rfl, SqT.of ep, atI_nat (j := 0) rfl, ?_⟩
      have lr := W4.r3
      have lr1 := W4.r1
      have ll := W4.l4
      have lu := W4.u4
      refine ⟨.ref d, rfl, .ref c, rfl, d, c, 200, 5, R, L, U, rfl, d2, by decide, by decide, ec, by omega, ll, lu, fun st rows pl nu E3 k hst hrl hrk hk hpl hpk hnu sb3 d3 => ?_⟩
      have kc3 : KT E2 E3 := .deck d2 d3 sb3
      obtain ⟨cr, cl', cu, e0, er, el', eu⟩ := ec
      have good := W4.good.2
      have thc : Th E3 (.ref c) (.t [FF R, FF L, FF U]) := th_three (kc3.tup _ _ e0)
        (th_texts (kc3.tup _ _ er) (by omega) fun z hz => asc_low (good z (by simp [hz])).1)
        (th_texts (kc3.tup _ _ el') (by omega) fun z hz => asc_low (good z (by simp [hz])).1)
        (th_texts (kc3.tup _ _ eu) (by omega) fun z hz => asc_low (good z (by simp [hz])).1)
      have hcast := world_cast W4
      have sbA : SameBut d Hc E3 := b1.sb.trans (sb2.trans sb3)
      have hG3 : AllT Ts E3 := fC.1.but ndT sbA
      have f0 : FrL Ts d E3 E3 500 := .refl hG3 d3
      have hst0 := hst
      obtain ⟨r, l, u, rs, est, er3, hrs, hrr, el3, eu3⟩ := hst0
      -- rows, places, numbers
      refine gName_ok ?_
      refine ⟨.ref st, rfl, st, _, rfl, SqT.of est, rfl, _, _, rfl, _, _, rfl, _, _, rfl, rfl, ?_⟩
      obtain ⟨r0, rr, rfl⟩ : ∃ r0 rr, rs = r0 :: rr := by
        cases rs with
        | nil => simp at hrs; omega
        | cons r0 rr => exact ⟨r0, rr, rfl⟩
      obtain ⟨z0, zr, rfl⟩ : ∃ z0 zr, rows = z0 :: zr := by
        cases rows with
        | nil => simp at hrs
        | cons z0 zr => exact ⟨z0, zr, rfl⟩
      have hz0 : z0.length = k := hrk z0 List.mem_cons_self
      have e00 : E3 r0 = some (.tup (z0.map V.int)) := hrr 0 r0 z0 rfl rfl
      refine ⟨.ref r, rfl, r, _, 0, .ref r0, rfl, rfl, SqT.of er3, atI_nat (j := 0) rfl, r0, _, rfl, .inr (SqT.of e00), ?_⟩
      rw [List.length_map, hz0]
      -- behind
      refine ⟨.ref r, rfl, .int (k : Nat), rfl, (show 1 ≤ sizeLine by decide), fun t1 nt1 => ?_⟩
      have s1 := same_new (o := .tup [.int (k : Nat)]) nt1
      refine ⟨.ref l, rfl, l, _, rfl, .inr (SqT.of (s1 _ _ el3)), ?_⟩
      rw [List.length_map]
      refine rep_ok upd_same (by omega) fun t2 E4 s2 et2 => ?_
      refine ⟨.ref u, rfl, (show 3 ≤ sizeLine by decide), fun bh nbh => ?_⟩
      have s3 := same_new (o := .tup [.ref r, .ref t2, .ref u]) nbh
      have sB := s1.trans (s2.trans s3)
      have f5 := f0.same sB
      have ebh : upd E4 bh (.tup [.ref r, .ref t2, .ref u]) bh = some (.tup [.ref r, .ref t2, .ref u]) := upd_same
      have et5 := s3 _ _ et2
      generalize upd E4 bh (.tup [.ref r, .ref t2, .ref u]) = E5 at *
      have k5 := f5.kt hG3 d3
      have stb : StandAt E5 bh (z0 :: zr) (List.replicate pl.length (k : Int)) nu := ⟨r, t2, u, r0 :: rr, ebh, k5.tup _ _ er3, hrs, fun i a z h1 h2 => k5.tup _ _ (hrr i a z h1 h2), by rw [List.map_replicate]; exact et5, k5.tup _ _ eu3⟩
      clear s1 s2 s3 sB nt1 nbh et2
      -- wide
      refine gName_ok ?_
      dsimp only [tSeq, tAsg, tTup, tCB, tCons]
      refine drawT_ok (c := 0) (d := d) (n := 500) (G := fun y HH => ∃ a z, y = .ref a ∧ HH a = some (.tup (List.map V.int z)) ∧ z.length = 41 + k) (k5.tup _ _ er3) (by rw [List.length_map]; omega)
        (fun S s => ⟨.ref r, rfl, s⟩) f5.dk (fun y A1 A2 g kt => ?_) (fun x Hx mm dx hmm sx S s => ?_) fun D ys E6 nD eD hys gys sb6 d6 => ?_
      · obtain ⟨a, z, h1, h2, h3⟩ := g
        exact ⟨a, z, h1, kt _ _ h2, h3⟩
      · refine ⟨10, 35, rfl, rfl, ⟨by decide, by decide, by decide⟩, (show 1 ≤ sizeLine by decide), fun t nt => ⟨.int (k : Nat), rfl, _, _, rfl, rfl, ?_⟩⟩
        show TM.rRepA K (.ref t) (.int ((41 : Int) + ((k : Nat) : Int))) _ S
        rw [show (41 : Int) + ((k : Nat) : Int) = ((41 + k : Nat) : Int) by omega]
        refine rep_ok upd_same (by omega) fun t4 Hy sy ey => ?_
        have sA := (same_new (o := .tup [.int (10 ^ (35 : Int).toNat)]) nt).trans sy
        exact s _ _ ⟨t4, List.replicate (41 + k) (10 ^ (35 : Int).toNat), rfl, by rw [List.map_replicate]; exact ey, by rw [List.length_replicate]⟩ (same_sb sA) (dx.mono sA)
      · refine ⟨D, ys, rfl, .inl ⟨SqL.of eD, fun l1 nl1 => ?_⟩⟩
        have s7 := same_new (o := .tup ys) nl1
        have k7 : KTup E6 (upd E6 l1 (.tup ys)) := fun b xs e => s7 _ _ e
        obtain ⟨rs2, rows2, rfl, hrl2, hrr2, hrk2⟩ := rows_of ys fun y hy => by
          obtain ⟨a, z, h1, h2, h3⟩ := gys y hy
          exact ⟨a, z, h1, k7 _ _ h2, h3⟩
        rw [Nat.zero_mul, Nat.add_zero] at d6
        have f7 := (f5.sb sb6 d6).same s7
        have el1 : upd E6 l1 (.tup (rs2.map V.ref)) l1 = some (.tup (rs2.map V.ref)) := upd_same
        generalize upd E6 l1 (.tup (rs2.map V.ref)) = E7 at *
        refine ⟨.int (k : Nat), rfl, _, _, rfl, rfl, (show 1 ≤ sizeLine by decide), fun t3 nt3 => ?_⟩
        have s8 := same_new (o := .tup [.int (41 + (k : Nat))]) nt3
        have f8 := f7.same s8
        refine ⟨.ref l, rfl, l, _, rfl, .inr (SqT.of ((f8.kt hG3 d3).tup _ _ el3)), ?_⟩
        rw [List.length_map]
        refine rep_ok upd_same (by omega) fun t5 E9 s9 et5' => ?_
        refine ⟨.ref u, rfl, (show 3 ≤ sizeLine by decide), fun wd nwd => ?_⟩
        have s10 := same_new (o := .tup [.ref l1, .ref t5, .ref u]) nwd
        have sC := s8.trans (s9.trans s10)
        have f10 := f7.same sC
        have ewd : upd E9 wd (.tup [.ref l1, .ref t5, .ref u]) wd = some (.tup [.ref l1, .ref t5, .ref u]) := upd_same
        have et10 := s10 _ _ et5'
        generalize upd E9 wd (.tup [.ref l1, .ref t5, .ref u]) = E10 at *
        have k10 := f10.kt hG3 d3
        have hl2 : rs2.length = rr.length + 1 := by simpa using hys
        have hRl : rr.length + 1 = R.length := by
          have e1 : (r0 :: rr).length = (z0 :: zr).length := hrs
          rw [hrl] at e1
          exact e1
        have stw : StandAt E10 wd rows2 (List.replicate pl.length (41 + (k : Int))) nu := ⟨l1, t5, u, rs2, ewd, sC _ _ el1, hrl2, fun i a z h1 h2 => sC _ _ (hrr2 i a z h1 h2), by rw [List.map_replicate]; exact et10, k10.tup _ _ eu3⟩
        have thw := stand_th stw (by omega) (fun z hz => by have := hrk2 z hz; omega) (by rw [List.length_replicate]; omega) (by omega)
        have okw : standT R.length L.length U.length (stTr rows2 (List.replicate pl.length (41 + (k : Int))) nu) = true :=
          stand_ok (k := 41 + k) (by omega) hrk2 (fun x hx => by
            have := List.eq_of_mem_replicate hx
            omega) (by omega) (by rw [List.length_replicate]; exact hpl) hnu
        refine ⟨.ref c, rfl, .ref wd, rfl, c, R, L, U, .ref wd, _, rfl, thc.keep k10, hcast, lr1, thw, f10.all, fun E11 fr11 => ?_⟩
        rw [okw]
        refine ⟨true, true, rfl, rfl, false, rfl, ?_⟩
        have f11 := f10.fra fr11
        have k11 := f11.kt hG3 d3
        have hb5 : ∀ z ∈ z0 :: zr, z.length ≤ 100 := fun z hz => by
          have := hrk z hz
          omega
        have lrows : (z0 :: zr).length ≤ 100 := by omega
        have thst : ∀ HH, KT E3 HH → Th HH (.ref st) (stTr (z0 :: zr) pl nu) := fun HH kk => stand_th (hst.kt kk) (by omega) (fun z hz => by have := hb5 z hz; omega) (by omega) (by omega)
        have okst : standT R.length L.length U.length (stTr (z0 :: zr) pl nu) = true := stand_ok (k := k) (by omega) hrk hpk hrl hpl hnu
        dsimp only [tSeq, tIfS, tOr, tTest, tOp, tCall]
        refine ⟨.ref c, rfl, .ref st, rfl, c, R, L, U, .ref st, _, rfl, thc.keep k11, hcast, lr1, thst _ k11, f11.all, fun E12 fr12 => ?_⟩
        rw [okst]
        refine ⟨true, true, rfl, rfl, false, rfl, ?_⟩
        dsimp only
        rw [if_neg Bool.false_ne_true]
        have f12 := f11.fra fr12
        have k12 := f12.kt hG3 d3
        have k510 : KT E5 E10 := ((KT.deck f5.dk d6 sb6).trans (.of_same s7)).trans (.of_same sC)
        have k512 : KT E5 E12 := k510.trans ((fr11.kt f10.all).trans (fr12.kt f11.all))
        have thb : Th E12 (.ref bh) (stTr (z0 :: zr) (List.replicate pl.length (k : Int)) nu) := stand_th (stb.kt k512) (by omega) (fun z hz => by have := hb5 z hz; omega) (by rw [List.length_replicate]; omega) (by omega)
        have okb : standT R.length L.length U.length (stTr (z0 :: zr) (List.replicate pl.length (k : Int)) nu) = true :=
          stand_ok (k := k) (by omega) hrk (fun x hx => by
            have := List.eq_of_mem_replicate hx
            omega) hrl (by rw [List.length_replicate]; exact hpl) hnu
        refine ⟨.ref c, rfl, .ref bh, rfl, c, R, L, U, .ref bh, _, rfl, thc.keep k12, hcast, lr1, thb, f12.all, fun E13 fr13 => ?_⟩
        rw [okb]
        refine ⟨true, true, rfl, rfl, false, rfl, ?_⟩
        have f13 := f12.fra fr13
        clear thw okw okst okb thb stb stw k512 k510 k10 k11 k12 hrk2 hrr2 hrl2 hys gys et10 et5
        have k13 := f13.kt hG3 d3
        have anyL : ∀ HH, KT E3 HH → Any HH (.ref l) := fun HH kk => ⟨_, th_ints (kk.tup _ _ el3) (by omega)⟩
        have anyU : ∀ HH, KT E3 HH → Any HH (.ref u) := fun HH kk => ⟨_, th_ints (kk.tup _ _ eu3) (by omega)⟩
        have anyX : ∀ HH, KT E3 HH → ∀ x ∈ (r0 :: rr).map V.ref, Any HH x := fun HH kk x hx => by
          obtain ⟨i, hi, rfl⟩ := List.mem_iff_getElem.mp hx
          have hi1 : i < (r0 :: rr).length := by simpa using hi
          have hi2 : i < (z0 :: zr).length := by rw [← hrs]; exact hi1
          have e := hrr i _ _ (List.getElem?_eq_getElem hi1) (List.getElem?_eq_getElem hi2)
          rw [List.getElem_map]
          exact ⟨_, th_ints (kk.tup _ _ e) (by have := hb5 _ (List.getElem_mem hi2); omega)⟩
        have lrs : ((r0 :: rr).map V.ref).length ≤ 3 := by
          rw [List.length_map]
          show rr.length + 1 ≤ 3
          omega
        have cutl : ∀ lo hi, (cutV ((r0 :: rr).map V.ref) lo hi).length ≤ 3 := fun lo hi => by
          have := cutV_length ((r0 :: rr).map V.ref) lo hi
          omega
        have anyR : ∀ HH, KT E3 HH → Any HH (.ref r) := fun HH kk => any_tup (kk.tup _ _ er3) (by omega) (anyX HH kk)
        obtain ⟨il, rl, hil, hat⟩ := at_last ((r0 :: rr).map V.ref) (by simp)
        have hrl' := anyX _ (KT.of_same (Same.refl E3)) rl (List.mem_of_getElem? hil)
        obtain ⟨rl, rfl, zl, hzl, erl⟩ : ∃ a, rl = .ref a ∧ ∃ z : List Int, z.length ≤ 100 ∧ E3 a = some (.tup (z.map V.int)) := by
          rw [List.getElem?_map] at hil
          cases h1 : (r0 :: rr)[il]? with
          | none => rw [h1] at hil; cases hil
          | some ra =>
            rw [h1] at hil
            cases hil
            have hi1 : il < (z0 :: zr).length := by
              have := (List.getElem?_eq_some_iff.mp h1).1
              omega
            exact ⟨ra, rfl, _, hb5 _ (List.getElem_mem hi1), hrr il ra _ h1 (List.getElem?_eq_getElem hi1)⟩
        clear hrl'
        -- some: two
        refine ⟨.ref r, rfl, 1, rfl, -1, rfl, slice_ok (k13.tup _ _ er3) fun p1 A1 s1 e1 => ?_⟩
        have g1 := f13.same s1
        refine ⟨.ref r, rfl, 1, rfl, r, _, -1, .ref rl, rfl, rfl, SqT.of ((g1.kt hG3 d3).tup _ _ er3), hat, (show 1 ≤ sizeLine by decide), fun t1' nt1 => ?_⟩
        have s2 := same_new (o := .tup [.int 0]) nt1
        have g2 := g1.same s2
        refine cat_any ((g2.kt hG3 d3).tup _ _ erl) upd_same (by rw [List.length_map]; show _ + 1 ≤ 1000; omega) fun p2 A3 s3 e3 => ?_
        have g3 := g2.same s3
        refine ⟨(show 1 ≤ sizeLine by decide), fun t4 nt4 => ?_⟩
        have s4 := same_new (o := .tup [.ref p2]) nt4
        have g4 := g3.same s4
        have cu1 := cutl none (some (-1))
        refine cat_any (s4 _ _ (s3 _ _ (s2 _ _ e1))) upd_same (by show _ + 1 ≤ 1000; omega) fun p5 A5 s5 e5 => ?_
        have g5 := g4.same s5
        refine ⟨.ref l, rfl, .ref u, rfl, (show 3 ≤ sizeLine by decide), fun q1 nq1 => ?_⟩
        have s6 := same_new (o := .tup [.ref p5, .ref l, .ref u]) nq1
        have g6 := g5.same s6
        have any1 : Any (upd A5 q1 (.tup [.ref p5, .ref l, .ref u])) (.ref q1) := by
          have k6 := g6.kt hG3 d3
          refine any_trip upd_same (any_tup (s6 _ _ e5) (by rw [List.length_append]; show _ + 1 ≤ 300; omega) fun x hx => ?_) (anyL _ k6) (anyU _ k6)
          rcases List.mem_append.mp hx with hx | hx
          · exact anyX _ k6 x (mem_cutV hx)
          · have : x = .ref p2 := by simpa using hx
            rw [this]
            refine any_tup ((s4.trans (s5.trans s6)) _ _ e3) (by rw [List.length_append, List.length_map]; show _ + 1 ≤ 300; omega) fun y hy => ?_
            rcases List.mem_append.mp hy with hy | hy
            · obtain ⟨z, _, rfl⟩ := List.mem_map.mp hy
              exact ⟨_, .int z⟩
            · have : y = .int 0 := by simpa using hy
              rw [this]
              exact ⟨_, .int 0⟩
        clear g1 g2 g3 g4 g5 s1 s2 s3 s4 s5 nt1 nt4 e1 e3 e5
        generalize upd A5 q1 (.tup [.ref p5, .ref l, .ref u]) = A6 at *
        refine ⟨.ref r, rfl, .ref l, rfl, (show 1 ≤ sizeLine by decide), fun t7 nt7 => ?_⟩
        have s7' := same_new (o := .tup [.int 0]) nt7
        have g7 := g6.same s7'
        refine cat_any ((g7.kt hG3 d3).tup _ _ el3) upd_same (by rw [List.length_map]; show _ + 1 ≤ 1000; omega) fun p8 A8 s8' e8 => ?_
        have g8 := g7.same s8'
        refine ⟨.ref u, rfl, (show 3 ≤ sizeLine by decide), fun q2 nq2 => ?_⟩
        have s9' := same_new (o := .tup [.ref r, .ref p8, .ref u]) nq2
        have g9 := g8.same s9'
        have any2 : Any (upd A8 q2 (.tup [.ref r, .ref p8, .ref u])) (.ref q2) := by
          have k9 := g9.kt hG3 d3
          refine any_trip upd_same (anyR _ k9) (any_tup (s9' _ _ e8) (by rw [List.length_append, List.length_map]; show _ + 1 ≤ 300; omega) fun y hy => ?_) (anyU _ k9)
          rcases List.mem_append.mp hy with hy | hy
          · obtain ⟨z, _, rfl⟩ := List.mem_map.mp hy
            exact ⟨_, .int z⟩
          · have : y = .int 0 := by simpa using hy
            rw [this]
            exact ⟨_, .int 0⟩
        have any1 := any1.keep (.of_same (s7'.trans (s8'.trans s9')))
        clear g7 g8 g6 s7' s8' s9' nt7 e8
        generalize upd A8 q2 (.tup [.ref r, .ref p8, .ref u]) = A9 at *
        refine ⟨(show 2 ≤ sizeLine by decide), fun l10 nl10 => ?_⟩
        have s10' := same_new (o := .lst [.ref q1, .ref q2]) nl10
        have g10 := g9.same s10'
        have any1 := any1.keep (.of_same s10')
        have any2 := any2.keep (.of_same s10')
        have e10 : upd A9 l10 (.lst [.ref q1, .ref q2]) l10 = some (.lst [.ref q1, .ref q2]) := upd_same
        generalize upd A9 l10 (.lst [.ref q1, .ref q2]) = A10 at *
        clear g9 s10'
        refine gName_ok ?_
        have k10' := g10.kt hG3 d3
        -- some: five
        refine ⟨.ref l10, rfl, .ref r, rfl, .ref r, rfl, 1, rfl, slice_ok (k10'.tup _ _ er3) fun p1 B1 s1 e1 => ?_⟩
        have h1 := g10.same s1
        have cu2 := cutl none (some 1)
        refine cat_any ((h1.kt hG3 d3).tup _ _ er3) e1 (by omega) fun p2 B2 s2 e2 => ?_
        have h2 := h1.same s2
        refine ⟨.ref l, rfl, .ref u, rfl, (show 3 ≤ sizeLine by decide), fun q3 nq3 => ?_⟩
        have s3 := same_new (o := .tup [.ref p2, .ref l, .ref u]) nq3
        have h3 := h2.same s3
        have any3 : Any (upd B2 q3 (.tup [.ref p2, .ref l, .ref u])) (.ref q3) := by
          have k3 := h3.kt hG3 d3
          refine any_trip upd_same (any_tup (s3 _ _ e2) (by rw [List.length_append]; omega) fun x hx => ?_) (anyL _ k3) (anyU _ k3)
          rcases List.mem_append.mp hx with hx | hx
          · exact anyX _ k3 x hx
          · exact anyX _ k3 x (mem_cutV hx)
        have s13 := s1.trans (s2.trans s3)
        have any1 := any1.keep (.of_same s13)
        have any2 := any2.keep (.of_same s13)
        have e10 := s13 _ _ e10
        clear s1 s2 s3 s13 h1 h2 e1 e2
        generalize upd B2 q3 (.tup [.ref p2, .ref l, .ref u]) = B3 at *
        refine ⟨.ref r, rfl, 1, rfl, ?_⟩
        dsimp only [tNoPart]
        refine slice_ok ((h3.kt hG3 d3).tup _ _ er3) fun p4 B4 s4 e4 => ?_
        have h4 := h3.same s4
        refine ⟨.ref l, rfl, .ref u, rfl, (show 3 ≤ sizeLine by decide), fun q5 nq5 => ?_⟩
        have s5 := same_new (o := .tup [.ref p4, .ref l, .ref u]) nq5
        have h5 := h4.same s5
        have cu3 := cutl (some 1) none
        have any5 : Any (upd B4 q5 (.tup [.ref p4, .ref l, .ref u])) (.ref q5) := by
          have k5 := h5.kt hG3 d3
          exact any_trip upd_same (any_tup (s5 _ _ e4) (by omega) fun x hx => anyX _ k5 x (mem_cutV hx)) (anyL _ k5) (anyU _ k5)
        have s45 := s4.trans s5
        have any1 := any1.keep (.of_same s45)
        have any2 := any2.keep (.of_same s45)
        have any3 := any3.keep (.of_same s45)
        have e10 := s45 _ _ e10
        clear s4 s5 s45 h4 h3 e4
        generalize upd B4 q5 (.tup [.ref p4, .ref l, .ref u]) = B5 at *
        refine ⟨.ref r, rfl, .ref l, rfl, .ref u, rfl, (show 1 ≤ sizeLine by decide), fun t6 nt6 => ?_⟩
        have s6 := same_new (o := .tup [.int 0]) nt6
        have h6 := h5.same s6
        refine cat_any ((h6.kt hG3 d3).tup _ _ eu3) upd_same (by rw [List.length_map]; show _ + 1 ≤ 1000; omega) fun p7 B7 s7 e7 => ?_
        have h7 := h6.same s7
        refine ⟨(show 3 ≤ sizeLine by decide), fun q8 nq8 => ?_⟩
        have s8 := same_new (o := .tup [.ref r, .ref l, .ref p7]) nq8
        have h8 := h7.same s8
        have any8 : Any (upd B7 q8 (.tup [.ref r, .ref l, .ref p7])) (.ref q8) := by
          have k8 := h8.kt hG3 d3
          refine any_trip upd_same (anyR _ k8) (anyL _ k8) (any_tup (s8 _ _ e7) (by rw [List.length_append, List.length_map]; show _ + 1 ≤ 300; omega) fun y hy => ?_)
          rcases List.mem_append.mp hy with hy | hy
          · obtain ⟨z, _, rfl⟩ := List.mem_map.mp hy
            exact ⟨_, .int z⟩
          · have : y = .int 0 := by simpa using hy
            rw [this]
            exact ⟨_, .int 0⟩
        have s68 := s6.trans (s7.trans s8)
        have any1 := any1.keep (.of_same s68)
        have any2 := any2.keep (.of_same s68)
        have any3 := any3.keep (.of_same s68)
        have any5 := any5.keep (.of_same s68)
        have e10 := s68 _ _ e10
        clear s6 s7 s8 s68 h6 h7 h5 e7
        generalize upd B7 q8 (.tup [.ref r, .ref l, .ref p7]) = B8 at *
        refine ⟨(show 3 ≤ sizeLine by decide), fun l9 nl9 => ?_⟩
        have s9 := same_new (o := .lst [.ref q3, .ref q5, .ref q8]) nl9
        refine ⟨l10, l9, _, _, rfl, rfl, s9 _ _ e10, upd_same, small (show 2 + 3 ≤ 1000 by decide), fun ls nls => ?_⟩
        have s11 := same_new (o := .lst ([V.ref q1, .ref q2] ++ [V.ref q3, .ref q5, .ref q8])) nls
        have s911 := s9.trans s11
        have h11 := h8.same s911
        have nlsd : ls ≠ d := fun z => ((h8.same s9).dk.ne nls) z.symm
        have any11 : ∀ x ∈ [V.ref q1, .ref q2] ++ [V.ref q3, .ref q5, .ref q8], Any (upd (upd B8 l9 (.lst [.ref q3, .ref q5, .ref q8])) ls (.lst ([V.ref q1, .ref q2] ++ [V.ref q3, .ref q5, .ref q8]))) x := fun x hx => by
          simp only [List.cons_append, List.nil_append, List.mem_cons, List.not_mem_nil, or_false] at hx
          rcases hx with rfl | rfl | rfl | rfl | rfl
          · exact any1.keep (.of_same s911)
          · exact any2.keep (.of_same s911)
          · exact any3.keep (.of_same s911)
          · exact any5.keep (.of_same s911)
          · exact any8.keep (.of_same s911)
        have e11 : upd (upd B8 l9 (.lst [.ref q3, .ref q5, .ref q8])) ls (.lst ([V.ref q1, .ref q2] ++ [V.ref q3, .ref q5, .ref q8])) ls = some (.lst ([V.ref q1, .ref q2] ++ [V.ref q3, .ref q5, .ref q8])) := upd_same
        have lX : ([V.ref q1, .ref q2] ++ [V.ref q3, .ref q5, .ref q8]).length = 5 := rfl
        generalize upd (upd B8 l9 (.lst [.ref q3, .ref q5, .ref q8])) ls (.lst ([V.ref q1, .ref q2] ++ [V.ref q3, .ref q5, .ref q8])) = B11 at *
        generalize [V.ref q1, .ref q2] ++ [V.ref q3, .ref q5, .ref q8] = X5 at *
        clear s9 s11 s911 h8 any1 any2 any3 any5 any8 e10 g10 k10'
        have fin : ∀ {A : Hp}, FrL Ts d E3 A 740 → FrA Ts HC A := fun fA => by
          refine ⟨fA.all, fun b o hb e => ?_⟩
          have e1 := fC.2 b o hb e
          exact fA.kp _ _ hb (ne_of_none e1 nd) (sbA _ _ (ne_of_none e1 nd) e1)
        -- places != ()
        refine gName_ok ?_
        refine ⟨.ref l, rfl, Nat.zero_le _, fun t12 nt12 => ?_⟩
        have s12 := same_new (o := .tup []) nt12
        have h12 := h11.same s12
        have e12 := s12 _ _ e11
        have any12 : ∀ x ∈ X5, Any (upd B11 t12 (.tup [])) x := fun x hx => (any11 x hx).keep (.of_same s12)
        have et12 : upd B11 t12 (.tup []) t12 = some (.tup []) := upd_same
        generalize upd B11 t12 (.tup []) = B12 at *
        clear any11 e11 h11 s12
        have k12' := h12.kt hG3 d3
        obtain ⟨pds, p1, p2, p3, p4⟩ := dp_list (K := K) (H := B12) (k := 1) (pl.map V.int) fun x hx => by
          obtain ⟨z, _, rfl⟩ := List.mem_map.mp hx
          exact ⟨.int z, .int z, rfl, by simp [PyData.depth]⟩
        have shp : SeqAt.shaped (.tuple pds) = true := by
          unfold SeqAt.shaped
          rw [Bool.and_eq_true]
          refine ⟨p2, decide_eq_true ?_⟩
          show PyData.depthAll pds + 1 ≤ 64
          omega
        refine ⟨.tuple pds, .tuple [], .tup (SqT.of (k12'.tup _ _ el3)) p1, .tup (SqT.of et12) .nil, shp, rfl, _, rfl, ite2 (fun _ => ?_) (fun _ => ?_)⟩
        · refine ⟨.ref ls, rfl, ?_⟩
          refine tLc_ti (K := K) ?_
          refine ⟨1, rfl, .int (k : Nat), rfl, .int (k : Nat), rfl, _, _, rfl, rfl, (show 4 ≤ sizeLine by decide), fun tt ntt => ?_⟩
          have s13 := same_new (o := .tup [.int (-1), .int (k : Nat), .int ((k : Nat) + 1), .bl true]) ntt
          have h13 := h12.same s13
          refine drawT_any (c := 0) (d := d) upd_same (by show 4 ≤ 300; decide) (fun R h => h) h13.dk (fun x Hx mm hxm dx hmm sx S s => ?_) fun D2 ys B14 nD eD hys gys sb' d' => ?_
          · have kx : KT E3 Hx := (h13.kt hG3 d3).trans (.deck h13.dk dx sx)
            have fx := h13.sb sx dx
            have anyx : ∀ HH, Any HH x := fun HH => by
              simp only [List.mem_cons, List.not_mem_nil, or_false] at hxm
              rcases hxm with rfl | rfl | rfl | rfl
              · exact ⟨_, .int _⟩
              · exact ⟨_, .int _⟩
              · exact ⟨_, .int _⟩
              · exact ⟨_, .bl _⟩
            refine ⟨.ref r, rfl, .ref l, rfl, 1, rfl, -1, rfl, slice_ok (kx.tup _ _ el3) fun p1 C1 s1 e1 => ?_⟩
            refine ⟨x, rfl, (show 1 ≤ sizeLine by decide), fun t1 nt1 => ?_⟩
            have s2 := same_new (o := .tup [x]) nt1
            have cu4 := cutV_length (pl.map V.int) none (some (-1))
            rw [List.length_map] at cu4
            refine cat_any (s2 _ _ e1) upd_same (by show _ + 1 ≤ 1000; omega) fun p2 C2 s3 e3 => ?_
            refine ⟨.ref u, rfl, (show 3 ≤ sizeLine by decide), fun q6 nq6 => ?_⟩
            have s4 := same_new (o := .tup [.ref r, .ref p2, .ref u]) nq6
            have sA := s1.trans (s2.trans (s3.trans s4))
            have kA := kx.trans (.of_same sA)
            refine s _ _ (any_trip upd_same (anyR _ kA) (any_tup (s4 _ _ e3) (by rw [List.length_append]; show _ + 1 ≤ 300; omega) fun y hy => ?_) (anyU _ kA)) (same_sb sA) (dx.mono sA)
            rcases List.mem_append.mp hy with hy | hy
            · obtain ⟨z, _, rfl⟩ := List.mem_map.mp (mem_cutV hy)
              exact ⟨_, .int z⟩
            · have : y = x := by simpa using hy
              rw [this]
              exact anyx _
          · have hy4 : ys.length = 4 := hys
            have h14 := h13.sb sb' d'
            rw [Nat.zero_mul] at h14
            have kk := (KT.of_same s13).trans (.deck h13.dk d' sb')
            refine ⟨ls, D2, X5, ys, rfl, rfl, sb' _ _ nlsd (s13 _ _ e12), eD, small (by omega), fun l15 nl15 => ?_⟩
            have s15 := same_new (o := .lst (X5 ++ ys)) nl15
            have h15 := h14.same s15
            have n15 : l15 ≠ d := fun z => (h14.dk.ne nl15) z.symm
            refine rest_ok (K := K) (R := R) (L := L) (U := U) (t := stTr (z0 :: zr) pl nu) (r0 := r0) (X := X5 ++ ys) _ hG3 d3 h15 upd_same n15 (by rw [List.length_append]; omega) (fun x hx => ?_) thc hcast lr1 thst (stand_pur (by omega) hb5 (by omega) (by omega)) er3 (fun HH kk => anyX HH kk _ (by simp)) (by omega) fun y11 y12 y13 H' fH => ⟨_, _, _, _, _, _, _, _, _, _, _, _, _, rfl, fin fH⟩
            rcases List.mem_append.mp hx with hx | hx
            · exact ((any12 x hx).keep kk).keep (.of_same s15)
            · exact (gys x hx).keep (.of_same s15)
        · exact rest_ok (K := K) (R := R) (L := L) (U := U) (t := stTr (z0 :: zr) pl nu) (r0 := r0) (X := X5) _ hG3 d3 h12 e12 nlsd (by omega) any12 thc hcast lr1 thst (stand_pur (by omega) hb5 (by omega) (by omega)) er3 (fun HH kk => anyX HH kk _ (by simp)) (by omega) fun y11 y12 y13 H' fH => ⟨_, _, _, _, _, _, _, _, _, _, _, _, _, rfl, fin fH⟩
    · intro σ Hc hP
      exact q Hc
end
end My
namespace My
open PySem PySem.Spec PyProof.Rows L2
/-- every def of the view has an empty table -/
def Tabs (q : Program) (K : PySem.W.Frag) (mg : Str → Option Value) (h : Heap) : Prop :=
  ∀ (y : Str) (f : Addr), ((recsOf q).any fun e => e.name == y) = true → mg y = some (.ref f) → LamX.OwnTab K f h
theorem walk_tabs {l : PySem.W.OpenLaw} {n k : Nat} {q : Program} {loose : List Str}
    {XP : (Str → Option Value) → Heap → Prop} {YP : World → Heap → Prop} {d : DefRec}
    {K : Params → PySem.W.Frag} {CX : World → CXT} {x : Str}
    (hn : l.most = some n) (hn2 : n ≤ sizeLine) (hdf : d.params.defaults = []) (hr : Room k callerA)
    (hY : ∀ (w : World) (h : Heap), YP w h → (K w.params).In h)
    (F : ∀ (w : World) (mg : Str → Option Value) (fa : Addr) (h : Heap), YP w h →
      (K w.params).In h → h.Ns mainGlobals mg → mg d.name = some (.ref fa) →
      Tabs q (K w.params) mg h → LamX.LawAtS l w (K w.params) (CX w) k n x mg fa h)
    (hCX : ∀ (w : World) (H : Hp) (s : Shared) (e : Value) (s' : Shared),
      CX w [] H s (fun _ _ _ => False) e s' → False) :
    PySem.W.WalkO q loose XP YP l.row.toRowW d [] (fun f vs => PySem.call f vs) := by
  refine Att.attach_callB hn hdf
    fun w s₀ s₁ mg mb fa o pm cd doc a vs ns G Y ho hd hcd hmg hobj hints hlen hbits hg => ?_
  have kin := hY w _ Y
  have tabs : Tabs q (K w.params) mg s₁.heap := by
    intro y f hy hf c T o1 fd1 e dd vs1 sl k1 k2 k3 k4 k5
    obtain ⟨dl, hm, hq⟩ := List.any_eq_true.mp hy
    have hq2 : dl.name = y := beq_iff_eq.mp hq
    obtain ⟨a', o', fd', c', T', h1, h2, h3, h4, h5, h6⟩ := G.T.tab dl hm
    rw [hq2, hf] at h1
    cases h1
    have g1 := kin _ _ k1
    rw [g1] at h2
    cases h2
    rw [k2] at h3
    cases h3
    rw [k3] at h4
    cases h4
    obtain ⟨⟨oc, vc, u1, _, u3, u4⟩, hT⟩ := h6
    have g2 := kin _ _ k4
    rw [g2] at u1
    cases u1
    cases u3
    rw [k5] at u4
    cases u4
    exact hT
  obtain ⟨fd, cs, sp, hT, nT, C, hb, hsp, hF⟩ := F w mg fa _ Y kin G.T.g hmg tabs
  exact LamX.law_callTs kin G.T.g G.T.b G.T.builtins G.T.nolimit hg hT nT C
    G.T.bmain hobj hints (Nat.le_trans hlen hn2) hr hF hb
    (fun H hH hS => hsp H a ns hlen hbits hH hS) fun H e s' => hCX w H s₁ e s'

theorem all_mk {q : Program} {l : PySem.W.OpenLaw} {w : World} {K : PySem.W.Frag} {h : Heap} {mg : Str → Option Value}
    {fa tw fI fR fC fU fH fS fQ fP fZ fV fK fD fT fN fM fW fA fE fX fO fB fY fG fL cI TI cR TR cC TC cQ TQ cP TP cZ TZ : Addr}
    (X : K.In h) (G : h.Ns mainGlobals mg) (hfa : mg "law" = some (.ref fa)) (tabs : Tabs q K mg h)
    (hqI : ((recsOf q).any fun e => e.name == "is_name") = true)
    (hqR : ((recsOf q).any fun e => e.name == "are_rising_names") = true)
    (hqC : ((recsOf q).any fun e => e.name == "is_cast") = true)
    (hqQ : ((recsOf q).any fun e => e.name == "are_rows") = true)
    (hqP : ((recsOf q).any fun e => e.name == "are_places") = true)
    (hqZ : ((recsOf q).any fun e => e.name == "are_wholes") = true)
    {odI anI odR anR odC anC odU anU odH anH odS anS odQ anQ odP anP odZ anZ odV anV odK anK odD anD odT anT odN anN odM anM odW anW odA anA odE anE odX anX odO anO odB anB odY anY odG anG odL anL oeI oeR oeC oeQ oeP oeZ odX1 : Option Addr}
    {slI slR slC slU slH slS slQ slP slZ slV slK slD slT slN slM slW slA slE slX slO slB slY slG slL smI smR smC smQ smP smZ slX1 : Array (Option Value)}
    {ocI kVI dcI pmI ctI ocR kVR dcR pmR ctR ocC kVC dcC pmC ctC ocU kVU dcU pmU ctU ocH kVH dcH pmH ctH ocS kVS dcS pmS ctS ocQ kVQ dcQ pmQ ctQ ocP kVP dcP pmP ctP ocZ kVZ dcZ pmZ ctZ ocV kVV dcV pmV ctV ocK kVK dcK pmK ctK ocD kVD dcD pmD ctD ocT kVT dcT pmT ctT ocN kVN dcN pmN ctN ocM kVM dcM pmM ctM ocW kVW dcW pmW ctW ocA kVA dcA pmA ctA ocE kVE dcE pmE ctE ocX kVX dcX pmX ctX ocO kVO dcO pmO ctO ocB kVB dcB pmB ctB ocY kVY dcY pmY ctY ocG kVG dcG pmG ctG ocL kVL dcL pmL ctL cdU cdH cdS cdV cdK cdD cdT cdN cdM cdW cdA cdE cdX cdO cdB cdY cdG cdL : Value}
    {lt tfI tgI ttI tfR tgR ttR tfC tgC ttC tfQ tgQ ttQ tfP tgP ttP tfZ tgZ ttZ : Tok} {vsI vsR vsC vsQ vsP vsZ its : Array Value} {nX : Nat}
    {fileI fileR fileC fileQ fileP fileZ : Str} {flI txI flR txR flC txC flQ txQ flP txP flZ txZ : Int} {inFI inFR inFC inFQ inFP inFZ : Bool}
    (aI : PySem.W.nsIn K mainGlobals "is_name" = some (some (.ref fI)))
    (lI : K.lookup fI = some ⟨ocI, odI, .func (PySem.W.fnOf "is_name" "is_name" (defArgs sIsName) (defBody sIsName) (defScope sIsName) .none kVI dcI pmI anI (.ref cI) ctI), slI⟩)
    (jI : PySem.W.codeIn K (.ref cI) "is_name" = true) (kI : PySem.W.keepIn K (.ref fI) = true)
    (aR : PySem.W.nsIn K mainGlobals "are_rising_names" = some (some (.ref fR)))
    (lR : K.lookup fR = some ⟨ocR, odR, .func (PySem.W.fnOf "are_rising_names" "are_rising_names" (defArgs sRising) (defBody sRising) (defScope sRising) .none kVR dcR pmR anR (.ref cR) ctR), slR⟩)
    (jR : PySem.W.codeIn K (.ref cR) "are_rising_names" = true) (kR : PySem.W.keepIn K (.ref fR) = true)
    (aC : PySem.W.nsIn K mainGlobals "is_cast" = some (some (.ref fC)))
    (lC : K.lookup fC = some ⟨ocC, odC, .func (PySem.W.fnOf "is_cast" "is_cast" (defArgs sIsCast) (defBody sIsCast) (defScope sIsCast) .none kVC dcC pmC anC (.ref cC) ctC), slC⟩)
    (jC : PySem.W.codeIn K (.ref cC) "is_cast" = true) (kC : PySem.W.keepIn K (.ref fC) = true)
    (aU : PySem.W.nsIn K mainGlobals "are_unlike" = some (some (.ref fU)))
    (lU : K.lookup fU = some ⟨ocU, odU, .func (PySem.W.fnOf "are_unlike" "are_unlike" (defArgs sUnlike) (defBody sUnlike) (defScope sUnlike) .none kVU dcU pmU anU cdU ctU), slU⟩)
    (jU : PySem.W.codeIn K cdU "are_unlike" = true) (kU : PySem.W.keepIn K (.ref fU) = true)
    (aH : PySem.W.nsIn K mainGlobals "is_whole" = some (some (.ref fH)))
    (lH : K.lookup fH = some ⟨ocH, odH, .func (PySem.W.fnOf "is_whole" "is_whole" (defArgs sIsWhole) (defBody sIsWhole) (defScope sIsWhole) .none kVH dcH pmH anH cdH ctH), slH⟩)
    (jH : PySem.W.codeIn K cdH "is_whole" = true) (kH : PySem.W.keepIn K (.ref fH) = true)
    (aS : PySem.W.nsIn K mainGlobals "is_standing" = some (some (.ref fS)))
    (lS : K.lookup fS = some ⟨ocS, odS, .func (PySem.W.fnOf "is_standing" "is_standing" (defArgs sIsStanding) (defBody sIsStanding) (defScope sIsStanding) .none kVS dcS pmS anS cdS ctS), slS⟩)
    (jS : PySem.W.codeIn K cdS "is_standing" = true) (kS : PySem.W.keepIn K (.ref fS) = true)
    (aQ : PySem.W.nsIn K mainGlobals "are_rows" = some (some (.ref fQ)))
    (lQ : K.lookup fQ = some ⟨ocQ, odQ, .func (PySem.W.fnOf "are_rows" "are_rows" (defArgs sRows) (defBody sRows) (defScope sRows) .none kVQ dcQ pmQ anQ (.ref cQ) ctQ), slQ⟩)
    (jQ : PySem.W.codeIn K (.ref cQ) "are_rows" = true) (kQ : PySem.W.keepIn K (.ref fQ) = true)
    (aP : PySem.W.nsIn K mainGlobals "are_places" = some (some (.ref fP)))
    (lP : K.lookup fP = some ⟨ocP, odP, .func (PySem.W.fnOf "are_places" "are_places" (defArgs sPlaces) (defBody sPlaces) (defScope sPlaces) .none kVP dcP pmP anP (.ref cP) ctP), slP⟩)
    (jP : PySem.W.codeIn K (.ref cP) "are_places" = true) (kP : PySem.W.keepIn K (.ref fP) = true)
    (aZ : PySem.W.nsIn K mainGlobals "are_wholes" = some (some (.ref fZ)))
    (lZ : K.lookup fZ = some ⟨ocZ, odZ, .func (PySem.W.fnOf "are_wholes" "are_wholes" (defArgs sWholes) (defBody sWholes) (defScope sWholes) .none kVZ dcZ pmZ anZ (.ref cZ) ctZ), slZ⟩)
    (jZ : PySem.W.codeIn K (.ref cZ) "are_wholes" = true) (kZ : PySem.W.keepIn K (.ref fZ) = true)
    (aV : PySem.W.nsIn K mainGlobals "length_of" = some (some (.ref fV)))
    (lV : K.lookup fV = some ⟨ocV, odV, .func (PySem.W.fnOf "length_of" "length_of" (defArgs sLength) (defBody sLength) (defScope sLength) .none kVV dcV pmV anV cdV ctV), slV⟩)
    (jV : PySem.W.codeIn K cdV "length_of" = true) (kV : PySem.W.keepIn K (.ref fV) = true)
    (aK : PySem.W.nsIn K mainGlobals "_law_deck" = some (some (.ref fK)))
    (lK : K.lookup fK = some ⟨ocK, odK, .func (PySem.W.fnOf "_law_deck" "_law_deck" (defArgs sDeck) (defBody sDeck) (defScope sDeck) .none kVK dcK pmK anK cdK ctK), slK⟩)
    (jK : PySem.W.codeIn K cdK "_law_deck" = true) (kK : PySem.W.keepIn K (.ref fK) = true)
    (aD : PySem.W.nsIn K mainGlobals "_law_draw" = some (some (.ref fD)))
    (lD : K.lookup fD = some ⟨ocD, odD, .func (PySem.W.fnOf "_law_draw" "_law_draw" (defArgs sDraw) (defBody sDraw) (defScope sDraw) .none kVD dcD pmD anD cdD ctD), slD⟩)
    (jD : PySem.W.codeIn K cdD "_law_draw" = true) (kD : PySem.W.keepIn K (.ref fD) = true)
    (aT : PySem.W.nsIn K mainGlobals "_law_tongue" = some (some (.ref fT)))
    (lT : K.lookup fT = some ⟨ocT, odT, .func (PySem.W.fnOf "_law_tongue" "_law_tongue" (defArgs sTongue) (defBody sTongue) (defScope sTongue) .none kVT dcT pmT anT cdT ctT), slT⟩)
    (jT : PySem.W.codeIn K cdT "_law_tongue" = true) (kT : PySem.W.keepIn K (.ref fT) = true)
    (aN : PySem.W.nsIn K mainGlobals "_law_name" = some (some (.ref fN)))
    (lN : K.lookup fN = some ⟨ocN, odN, .func (PySem.W.fnOf "_law_name" "_law_name" (defArgs sName) (defBody sName) (defScope sName) .none kVN dcN pmN anN cdN ctN), slN⟩)
    (jN : PySem.W.codeIn K cdN "_law_name" = true) (kN : PySem.W.keepIn K (.ref fN) = true)
    (aM : PySem.W.nsIn K mainGlobals "_law_names" = some (some (.ref fM)))
    (lM : K.lookup fM = some ⟨ocM, odM, .func (PySem.W.fnOf "_law_names" "_law_names" (defArgs sNames) (defBody sNames) (defScope sNames) .none kVM dcM pmM anM cdM ctM), slM⟩)
    (jM : PySem.W.codeIn K cdM "_law_names" = true) (kM : PySem.W.keepIn K (.ref fM) = true)
    (aW : PySem.W.nsIn K mainGlobals "_law_world" = some (some (.ref fW)))
    (lW : K.lookup fW = some ⟨ocW, odW, .func (PySem.W.fnOf "_law_world" "_law_world" (defArgs sWorld) (defBody sWorld) (defScope sWorld) .none kVW dcW pmW anW cdW ctW), slW⟩)
    (jW : PySem.W.codeIn K cdW "_law_world" = true) (kW : PySem.W.keepIn K (.ref fW) = true)
    (aA : PySem.W.nsIn K mainGlobals "_law_number" = some (some (.ref fA)))
    (lA : K.lookup fA = some ⟨ocA, odA, .func (PySem.W.fnOf "_law_number" "_law_number" (defArgs sNumber) (defBody sNumber) (defScope sNumber) .none kVA dcA pmA anA cdA ctA), slA⟩)
    (jA : PySem.W.codeIn K cdA "_law_number" = true) (kA : PySem.W.keepIn K (.ref fA) = true)
    (aE : PySem.W.nsIn K mainGlobals "_law_standing" = some (some (.ref fE)))
    (lE : K.lookup fE = some ⟨ocE, odE, .func (PySem.W.fnOf "_law_standing" "_law_standing" (defArgs sStanding) (defBody sStanding) (defScope sStanding) .none kVE dcE pmE anE cdE ctE), slE⟩)
    (jE : PySem.W.codeIn K cdE "_law_standing" = true) (kE : PySem.W.keepIn K (.ref fE) = true)
    (aX : PySem.W.nsIn K mainGlobals "_law_whole" = some (some (.ref fX)))
    (lX : K.lookup fX = some ⟨ocX, odX, .func (PySem.W.fnOf "_law_whole" "_law_whole" (defArgs sLWhole) (defBody sLWhole) (defScope sLWhole) .none kVX dcX pmX anX cdX ctX), slX⟩)
    (jX : PySem.W.codeIn K cdX "_law_whole" = true) (kX : PySem.W.keepIn K (.ref fX) = true)
    (aO : PySem.W.nsIn K mainGlobals "_law_odd" = some (some (.ref fO)))
    (lO : K.lookup fO = some ⟨ocO, odO, .func (PySem.W.fnOf "_law_odd" "_law_odd" (defArgs sOdd) (defBody sOdd) (defScope sOdd) .none kVO dcO pmO anO cdO ctO), slO⟩)
    (jO : PySem.W.codeIn K cdO "_law_odd" = true) (kO : PySem.W.keepIn K (.ref fO) = true)
    (aB : PySem.W.nsIn K mainGlobals "_law_bent" = some (some (.ref fB)))
    (lB : K.lookup fB = some ⟨ocB, odB, .func (PySem.W.fnOf "_law_bent" "_law_bent" (defArgs sBent) (defBody sBent) (defScope sBent) .none kVB dcB pmB anB cdB ctB), slB⟩)
    (jB : PySem.W.codeIn K cdB "_law_bent" = true) (kB : PySem.W.keepIn K (.ref fB) = true)
    (aY : PySem.W.nsIn K mainGlobals "_law_wholes" = some (some (.ref fY)))
    (lY : K.lookup fY = some ⟨ocY, odY, .func (PySem.W.fnOf "_law_wholes" "_law_wholes" (defArgs sLWholes) (defBody sLWholes) (defScope sLWholes) .none kVY dcY pmY anY cdY ctY), slY⟩)
    (jY : PySem.W.codeIn K cdY "_law_wholes" = true) (kY : PySem.W.keepIn K (.ref fY) = true)
    (aG : PySem.W.nsIn K mainGlobals "_law_good" = some (some (.ref fG)))
    (lG : K.lookup fG = some ⟨ocG, odG, .func (PySem.W.fnOf "_law_good" "_law_good" (defArgs sGood) (defBody sGood) (defScope sGood) .none kVG dcG pmG anG cdG ctG), slG⟩)
    (jG : PySem.W.codeIn K cdG "_law_good" = true) (kG : PySem.W.keepIn K (.ref fG) = true)
    (aL : PySem.W.nsIn K mainGlobals "law" = some (some (.ref fL)))
    (lL : K.lookup fL = some ⟨ocL, odL, .func (PySem.W.fnOf "law" "law" (defArgs sLaw) (defBody sLaw) (defScope sLaw) .none kVL dcL pmL anL cdL ctL), slL⟩)
    (jL : PySem.W.codeIn K cdL "law" = true) (kL : PySem.W.keepIn K (.ref fL) = true)
    (vI : K.lookup cI = some ⟨.type "code", oeI, .fields vsI, smI⟩) (eaI : vsI[11]? = some (.ref TI)) (ebI : vsI.getD 18 .none = .str fileI tfI)
    (ecI : vsI.getD 7 .none = .int flI tgI) (edI : vsI.getD 9 .none = .bool inFI) (eeI : vsI.getD 10 .none = .int txI ttI) (neI : cI ≠ TI) (nTI : K.lookup TI = none)
    (vR : K.lookup cR = some ⟨.type "code", oeR, .fields vsR, smR⟩) (eaR : vsR[11]? = some (.ref TR)) (ebR : vsR.getD 18 .none = .str fileR tfR)
    (ecR : vsR.getD 7 .none = .int flR tgR) (edR : vsR.getD 9 .none = .bool inFR) (eeR : vsR.getD 10 .none = .int txR ttR) (neR : cR ≠ TR) (nTR : K.lookup TR = none)
    (vC : K.lookup cC = some ⟨.type "code", oeC, .fields vsC, smC⟩) (eaC : vsC[11]? = some (.ref TC)) (ebC : vsC.getD 18 .none = .str fileC tfC)
    (ecC : vsC.getD 7 .none = .int flC tgC) (edC : vsC.getD 9 .none = .bool inFC) (eeC : vsC.getD 10 .none = .int txC ttC) (neC : cC ≠ TC) (nTC : K.lookup TC = none)
    (vQ : K.lookup cQ = some ⟨.type "code", oeQ, .fields vsQ, smQ⟩) (eaQ : vsQ[11]? = some (.ref TQ)) (ebQ : vsQ.getD 18 .none = .str fileQ tfQ)
    (ecQ : vsQ.getD 7 .none = .int flQ tgQ) (edQ : vsQ.getD 9 .none = .bool inFQ) (eeQ : vsQ.getD 10 .none = .int txQ ttQ) (neQ : cQ ≠ TQ) (nTQ : K.lookup TQ = none)
    (vP : K.lookup cP = some ⟨.type "code", oeP, .fields vsP, smP⟩) (eaP : vsP[11]? = some (.ref TP)) (ebP : vsP.getD 18 .none = .str fileP tfP)
    (ecP : vsP.getD 7 .none = .int flP tgP) (edP : vsP.getD 9 .none = .bool inFP) (eeP : vsP.getD 10 .none = .int txP ttP) (neP : cP ≠ TP) (nTP : K.lookup TP = none)
    (vZ : K.lookup cZ = some ⟨.type "code", oeZ, .fields vsZ, smZ⟩) (eaZ : vsZ[11]? = some (.ref TZ)) (ebZ : vsZ.getD 18 .none = .str fileZ tfZ)
    (ecZ : vsZ.getD 7 .none = .int flZ tgZ) (edZ : vsZ.getD 9 .none = .bool inFZ) (eeZ : vsZ.getD 10 .none = .int txZ ttZ) (neZ : cZ ≠ TZ) (nTZ : K.lookup TZ = none)
    (aX1 : PySem.W.nsIn K mainGlobals "WORDS" = some (some (.ref tw))) (lX1 : K.lookup tw = some ⟨.type "tuple", odX1, .seq its nX, slX1⟩) (vX1 : Vals (W.map V.str) its.toList)
    (aY1 : PySem.W.nsIn K mainGlobals "LONGEST_NAME" = some (some (.int 8 lt)))
    (z_len : PySem.W.nsIn K mainGlobals "len" = some none)
    (z_isinstance : PySem.W.nsIn K mainGlobals "isinstance" = some none)
    (z_str : PySem.W.nsIn K mainGlobals "str" = some none)
    (z_all : PySem.W.nsIn K mainGlobals "all" = some none)
    (z_range : PySem.W.nsIn K mainGlobals "range" = some none)
    (z_bool : PySem.W.nsIn K mainGlobals "bool" = some none)
    (z_tuple : PySem.W.nsIn K mainGlobals "tuple" = some none)
    (z_sorted : PySem.W.nsIn K mainGlobals "sorted" = some none)
    (z_int : PySem.W.nsIn K mainGlobals "int" = some none)
    (z_list : PySem.W.nsIn K mainGlobals "list" = some none)
    (z_zip : PySem.W.nsIn K mainGlobals "zip" = some none)
    (z_set : PySem.W.nsIn K mainGlobals "set" = some none) :
    LamX.LawAtS l w K CX0 7 63 "_law_script" mg fa h := by
  have e := hfa.symm.trans (PySem.W.mg_of X G aL)
  cases e
  have FI := fun_mk (st := sIsName) lI jI kI
  have gI := PySem.W.mg_of X G aI
  have bI := FI.binds (ps := ["thing"]) fun _ _ _ _ _ _ us hl => match us, hl with | [_], _ => rfl
  have FR := fun_mk (st := sRising) lR jR kR
  have gR := PySem.W.mg_of X G aR
  have bR := FR.binds (ps := ["thing"]) fun _ _ _ _ _ _ us hl => match us, hl with | [_], _ => rfl
  have FC := fun_mk (st := sIsCast) lC jC kC
  have gC := PySem.W.mg_of X G aC
  have bC := FC.binds (ps := ["thing"]) fun _ _ _ _ _ _ us hl => match us, hl with | [_], _ => rfl
  have FU := fun_mk (st := sUnlike) lU jU kU
  have gU := PySem.W.mg_of X G aU
  have bU := FU.binds (ps := ["names"]) fun _ _ _ _ _ _ us hl => match us, hl with | [_], _ => rfl
  have FH := fun_mk (st := sIsWhole) lH jH kH
  have gH := PySem.W.mg_of X G aH
  have bH := FH.binds (ps := ["thing"]) fun _ _ _ _ _ _ us hl => match us, hl with | [_], _ => rfl
  have FS := fun_mk (st := sIsStanding) lS jS kS
  have gS := PySem.W.mg_of X G aS
  have bS := FS.binds (ps := ["cast", "thing"]) fun _ _ _ _ _ _ us hl => match us, hl with | [_, _], _ => rfl
  have FQ := fun_mk (st := sRows) lQ jQ kQ
  have gQ := PySem.W.mg_of X G aQ
  have bQ := FQ.binds (ps := ["thing", "many"]) fun _ _ _ _ _ _ us hl => match us, hl with | [_, _], _ => rfl
  have FP := fun_mk (st := sPlaces) lP jP kP
  have gP := PySem.W.mg_of X G aP
  have bP := FP.binds (ps := ["thing", "many", "length"]) fun _ _ _ _ _ _ us hl => match us, hl with | [_, _, _], _ => rfl
  have FZ := fun_mk (st := sWholes) lZ jZ kZ
  have gZ := PySem.W.mg_of X G aZ
  have bZ := FZ.binds (ps := ["thing", "many"]) fun _ _ _ _ _ _ us hl => match us, hl with | [_, _], _ => rfl
  have FV := fun_mk (st := sLength) lV jV kV
  have gV := PySem.W.mg_of X G aV
  have bV := FV.binds (ps := ["standing"]) fun _ _ _ _ _ _ us hl => match us, hl with | [_], _ => rfl
  have FK := fun_mk (st := sDeck) lK jK kK
  have gK := PySem.W.mg_of X G aK
  have bK := FK.binds (ps := ["_law_cell"]) fun _ _ _ _ _ _ us hl => match us, hl with | [_], _ => rfl
  have FD := fun_mk (st := sDraw) lD jD kD
  have gD := PySem.W.mg_of X G aD
  have bD := FD.binds (ps := ["_law_deck_here", "_law_most"]) fun _ _ _ _ _ _ us hl => match us, hl with | [_, _], _ => rfl
  have FT := fun_mk (st := sTongue) lT jT kT
  have gT := PySem.W.mg_of X G aT
  have bT := FT.binds (ps := []) fun _ _ _ _ _ _ us hl => match us, hl with | [], _ => rfl
  have FN := fun_mk (st := sName) lN jN kN
  have gN := PySem.W.mg_of X G aN
  have bN := FN.binds (ps := ["_law_deck_here"]) fun _ _ _ _ _ _ us hl => match us, hl with | [_], _ => rfl
  have FM := fun_mk (st := sNames) lM jM kM
  have gM := PySem.W.mg_of X G aM
  have bM := FM.binds (ps := ["_law_deck_here", "_law_many"]) fun _ _ _ _ _ _ us hl => match us, hl with | [_, _], _ => rfl
  have FW := fun_mk (st := sWorld) lW jW kW
  have gW := PySem.W.mg_of X G aW
  have bW := FW.binds (ps := ["_law_deck_here"]) fun _ _ _ _ _ _ us hl => match us, hl with | [_], _ => rfl
  have FA := fun_mk (st := sNumber) lA jA kA
  have gA := PySem.W.mg_of X G aA
  have bA := FA.binds (ps := ["_law_deck_here"]) fun _ _ _ _ _ _ us hl => match us, hl with | [_], _ => rfl
  have FE := fun_mk (st := sStanding) lE jE kE
  have gE := PySem.W.mg_of X G aE
  have bE := FE.binds (ps := ["_law_deck_here", "_law_cast", "_law_long"]) fun _ _ _ _ _ _ us hl => match us, hl with | [_, _, _], _ => rfl
  have FX := fun_mk (st := sLWhole) lX jX kX
  have gX := PySem.W.mg_of X G aX
  have bX := FX.binds (ps := ["_law_thing"]) fun _ _ _ _ _ _ us hl => match us, hl with | [_], _ => rfl
  have FO := fun_mk (st := sOdd) lO jO kO
  have gO := PySem.W.mg_of X G aO
  have bO := FO.binds (ps := ["_law_deck_here", "_law_some"]) fun _ _ _ _ _ _ us hl => match us, hl with | [_, _], _ => rfl
  have FB := fun_mk (st := sBent) lB jB kB
  have gB := PySem.W.mg_of X G aB
  have bB := FB.binds (ps := ["_law_deck_here", "_law_thing", "_law_some"]) fun _ _ _ _ _ _ us hl => match us, hl with | [_, _, _], _ => rfl
  have FY := fun_mk (st := sLWholes) lY jY kY
  have gY := PySem.W.mg_of X G aY
  have bY := FY.binds (ps := ["_law_thing", "_law_many"]) fun _ _ _ _ _ _ us hl => match us, hl with | [_, _], _ => rfl
  have FG := fun_mk (st := sGood) lG jG kG
  have gG := PySem.W.mg_of X G aG
  have bG := FG.binds (ps := ["_law_cast", "_law_thing"]) fun _ _ _ _ _ _ us hl => match us, hl with | [_, _], _ => rfl
  have FL := fun_mk (st := sLaw) lL jL kL
  have gL := PySem.W.mg_of X G aL
  have m_len := PySem.W.mg_none_of X G z_len
  have m_isinstance := PySem.W.mg_none_of X G z_isinstance
  have m_str := PySem.W.mg_none_of X G z_str
  have m_all := PySem.W.mg_none_of X G z_all
  have m_range := PySem.W.mg_none_of X G z_range
  have m_bool := PySem.W.mg_none_of X G z_bool
  have m_tuple := PySem.W.mg_none_of X G z_tuple
  have m_sorted := PySem.W.mg_none_of X G z_sorted
  have m_int := PySem.W.mg_none_of X G z_int
  have m_list := PySem.W.mg_none_of X G z_list
  have m_zip := PySem.W.mg_none_of X G z_zip
  have m_set := PySem.W.mg_none_of X G z_set
  have tabI := tabs "is_name" fI hqI gI cI TI _ _ _ _ _ _ lI rfl rfl vI eaI
  have hcI : PySem.W.CodeHd h cI TI := ⟨_, vsI, fileI, tfI, flI, tgI, inFI, txI, ttI, X _ _ vI, rfl, rfl, eaI,
    by rw [Array.getD_eq_getD_getElem?, eaI]; rfl, ebI, ecI, edI, eeI, neI⟩
  have tabR := tabs "are_rising_names" fR hqR gR cR TR _ _ _ _ _ _ lR rfl rfl vR eaR
  have hcR : PySem.W.CodeHd h cR TR := ⟨_, vsR, fileR, tfR, flR, tgR, inFR, txR, ttR, X _ _ vR, rfl, rfl, eaR,
    by rw [Array.getD_eq_getD_getElem?, eaR]; rfl, ebR, ecR, edR, eeR, neR⟩
  have tabC := tabs "is_cast" fC hqC gC cC TC _ _ _ _ _ _ lC rfl rfl vC eaC
  have hcC : PySem.W.CodeHd h cC TC := ⟨_, vsC, fileC, tfC, flC, tgC, inFC, txC, ttC, X _ _ vC, rfl, rfl, eaC,
    by rw [Array.getD_eq_getD_getElem?, eaC]; rfl, ebC, ecC, edC, eeC, neC⟩
  have tabQ := tabs "are_rows" fQ hqQ gQ cQ TQ _ _ _ _ _ _ lQ rfl rfl vQ eaQ
  have hcQ : PySem.W.CodeHd h cQ TQ := ⟨_, vsQ, fileQ, tfQ, flQ, tgQ, inFQ, txQ, ttQ, X _ _ vQ, rfl, rfl, eaQ,
    by rw [Array.getD_eq_getD_getElem?, eaQ]; rfl, ebQ, ecQ, edQ, eeQ, neQ⟩
  have tabP := tabs "are_places" fP hqP gP cP TP _ _ _ _ _ _ lP rfl rfl vP eaP
  have hcP : PySem.W.CodeHd h cP TP := ⟨_, vsP, fileP, tfP, flP, tgP, inFP, txP, ttP, X _ _ vP, rfl, rfl, eaP,
    by rw [Array.getD_eq_getD_getElem?, eaP]; rfl, ebP, ecP, edP, eeP, neP⟩
  have tabZ := tabs "are_wholes" fZ hqZ gZ cZ TZ _ _ _ _ _ _ lZ rfl rfl vZ eaZ
  have hcZ : PySem.W.CodeHd h cZ TZ := ⟨_, vsZ, fileZ, tfZ, flZ, tgZ, inFZ, txZ, ttZ, X _ _ vZ, rfl, rfl, eaZ,
    by rw [Array.getD_eq_getD_getElem?, eaZ]; rfl, ebZ, ecZ, edZ, eeZ, neZ⟩
  refine ⟨PySem.W.fnOf "law" "law" (defArgs sLaw) (defBody sLaw) (defScope sLaw) .none kVL dcL pmL anL cdL ctL, [(cI, TI), (cR, TR), (cC, TC), (cQ, TQ), (cP, TP), (cZ, TZ)], spLaw K [TI, TR, TC, TQ, TP, TZ], ?_, ?_, ?_, fun s v => .of_eq rfl, ?_, ?_⟩
  · intro p hp
    simp only [List.mem_cons, List.not_mem_nil, or_false] at hp
    rcases hp with rfl | rfl | rfl | rfl | rfl | rfl
    · exact tabI
    · exact tabR
    · exact tabC
    · exact tabQ
    · exact tabP
    · exact tabZ
  · intro p hp
    simp only [List.mem_cons, List.not_mem_nil, or_false] at hp
    rcases hp with rfl | rfl | rfl | rfl | rfl | rfl
    · exact nTI
    · exact nTR
    · exact nTC
    · exact nTQ
    · exact nTP
    · exact nTZ
  · intro p hp
    simp only [List.mem_cons, List.not_mem_nil, or_false] at hp
    rcases hp with rfl | rfl | rfl | rfl | rfl | rfl
    · exact hcI
    · exact hcR
    · exact hcC
    · exact hcQ
    · exact hcP
    · exact hcZ
  · intro H a ns hl _ hH hS
    refine ⟨a, ns, rfl, hS, hl, fun T hT => ?_, fun _ => rfl⟩
    simp only [List.mem_cons, List.not_mem_nil, or_false] at hT
    rcases hT with rfl | rfl | rfl | rfl | rfl | rfl
    · exact ⟨#[], hH (cI, T) (by simp), trivial⟩
    · exact ⟨#[], hH (cR, T) (by simp), trivial⟩
    · exact ⟨#[], hH (cC, T) (by simp), trivial⟩
    · exact ⟨#[], hH (cQ, T) (by simp), trivial⟩
    · exact ⟨#[], hH (cP, T) (by simp), trivial⟩
    · exact ⟨#[], hH (cZ, T) (by simp), trivial⟩
  · intro base _ _ hB
    have BI := hB (cI, TI) (by simp)
    have BR := hB (cR, TR) (by simp)
    have BC := hB (cC, TC) (by simp)
    have BQ := hB (cQ, TQ) (by simp)
    have BP := hB (cP, TP) (by simp)
    have BZ := hB (cZ, TZ) (by simp)
    have hTw : ∀ H : Hp, SqT K H tw (W.map V.str) := fun H => .inr ⟨_, its, nX, lX1, rfl, rfl, by
      have e := Vals.length vX1
      have e2 : its.toList.length = its.size := Array.length_toList
      have e3 : (W.map V.str).length = 34 := by decide +kernel
      have e4 : 34 ≤ sizeLine := by decide
      omega, vX1⟩
    exact ok_law FL (ok_isStanding FS (ok_isCast (by simp) lC jC ⟨BC.code, BC.bm, BC.gP⟩
        (ok_rising (k := 0) (by simp) lR jR ⟨BR.code, BR.bm, BR.gP⟩
          (ok_isName (k := 0) (by simp) lI jI ⟨BI.code, BI.bm, BI.gP⟩ (PySem.W.mg_of X G aY1) (PySem.W.mg_of X G aX1) hTw m_isinstance m_str m_len m_all)
          kI bI gI m_isinstance m_tuple m_all m_zip) kR bR gR (ok_unlike FU m_len m_set) kU bU gU m_isinstance m_tuple m_all m_len) kC bC gC
        (ok_rows (Ts := [TI, TR, TC, TQ, TP, TZ]) (k := 0) (by simp) lQ jQ ⟨BQ.code, BQ.bm, BQ.gP⟩ (ok_wholes (Ts := [TI, TR, TC, TQ, TP, TZ]) (k := 0) (by simp) lZ jZ ⟨BZ.code, BZ.bm, BZ.gP⟩ (ok_isWhole (k := 0) FH m_isinstance m_int m_bool) kH bH gH m_isinstance m_tuple m_all m_len) kZ bZ gZ m_isinstance m_tuple m_all m_len) kQ bQ gQ
        (ok_places (Ts := [TI, TR, TC, TQ, TP, TZ]) (k := 0) (by simp) lP jP ⟨BP.code, BP.bm, BP.gP⟩ (ok_wholes (Ts := [TI, TR, TC, TQ, TP, TZ]) (k := 0) (by simp) lZ jZ ⟨BZ.code, BZ.bm, BZ.gP⟩ (ok_isWhole (k := 0) FH m_isinstance m_int m_bool) kH bH gH m_isinstance m_tuple m_all m_len) kZ bZ gZ m_all) kP bP gP (ok_wholes (Ts := [TI, TR, TC, TQ, TP, TZ]) (k := 0) (by simp) lZ jZ ⟨BZ.code, BZ.bm, BZ.gP⟩ (ok_isWhole (k := 0) FH m_isinstance m_int m_bool) kH bH gH m_isinstance m_tuple m_all m_len) kZ bZ gZ (ok_length FV m_len) kV bV gV m_isinstance m_tuple m_len) kS bS gS
      (ok_deck FK) kK bK gK (ok_world FW FD bD gD
        (ok_names (k := 0) FM (ok_name FN FD bD gD m_range) kN bN gN (ok_tongue FT) kT bT gT m_range) kM bM gM m_int m_tuple m_sorted) kW bW gW
      (ok_standing FE FD bD gD (ok_number FA FD bD gD) kA bA gA m_range m_tuple) kE bE gE
      (ok_bent FB bB gB FD bD gD (ok_odd FO FD bD gD m_len) kO bO gO m_isinstance m_tuple m_len m_list 3) kB bB gB
      (ok_good FG (ok_lWholes FY (ok_lWhole FX m_isinstance m_int m_bool) kX bX gX m_isinstance m_tuple m_len) kY bY gY m_isinstance m_tuple m_len) kG bG gG
      m_isinstance m_bool m_tuple m_len m_range
end My
open PySem PySem.W PyProof.Rows
set_option maxHeartbeats 0 in
theorem PySem.Challenge.cw_eachplace_k03_what_is_a_standing_holds : PySem.Challenge.rw_eachplace_k03_what_is_a_standing.Holds := by
  w_on; o_law; k_head; (case hw => w_witness2)
  k_fill
  refine My.walk_tabs (l := PySem.Challenge.rw_eachplace_k03_what_is_a_standing) (n := 63) (k := 7) (x := "_law_script") (CX := fun _ => L2.CX0) rfl (by decide) rfl ⟨rfl, by decide, by decide⟩ (fun w h Y => PySem.W.kIn_of Y) ?F (fun _ _ _ _ _ h => h)
  case F =>
    intro w mg fa h Y KX G hmg tabs
    refine' My.all_mk KX G hmg tabs ?hqI ?hqR ?hqC ?hqQ ?hqP ?hqZ ?aI ?lI ?jI ?kI ?aR ?lR ?jR ?kR ?aC ?lC ?jC ?kC ?aU ?lU ?jU ?kU ?aH ?lH ?jH ?kH ?aS ?lS ?jS ?kS ?aQ ?lQ ?jQ ?kQ ?aP ?lP ?jP ?kP ?aZ ?lZ ?jZ ?kZ ?aV ?lV ?jV ?kV ?aK ?lK ?jK ?kK ?aD ?lD ?jD ?kD ?aT ?lT ?jT ?kT ?aN ?lN ?jN ?kN ?aM ?lM ?jM ?kM ?aW ?lW ?jW ?kW ?aA ?lA ?jA ?kA ?aE ?lE ?jE ?kE ?aX ?lX ?jX ?kX ?aO ?lO ?jO ?kO ?aB ?lB ?jB ?kB ?aY ?lY ?jY ?kY ?aG ?lG ?jG ?kG ?aL ?lL ?jL ?kL ?vI ?eaI ?ebI ?ecI ?edI ?eeI ?neI ?nTI ?vR ?eaR ?ebR ?ecR ?edR ?eeR ?neR ?nTR ?vC ?eaC ?ebC ?ecC ?edC ?eeC ?neC ?nTC ?vQ ?eaQ ?ebQ ?ecQ ?edQ ?eeQ ?neQ ?nTQ ?vP ?eaP ?ebP ?ecP ?edP ?eeP ?neP ?nTP ?vZ ?eaZ ?ebZ ?ecZ ?edZ ?eeZ ?neZ ?nTZ ?aX1 ?lX1 ?vX1 ?aY1 ?z_len ?z_isinstance ?z_str ?z_all ?z_range ?z_bool ?z_tuple ?z_sorted ?z_int ?z_list ?z_zip ?z_set
    (case hqI => decide +kernel)
    (case hqR => decide +kernel)
    (case hqC => decide +kernel)
    (case hqQ => decide +kernel)
    (case hqP => decide +kernel)
    (case hqZ => decide +kernel)
    (case aI => k_is)
    (case lI => k_is)
    (case jI => k_is)
    (case kI => k_is)
    (case aR => k_is)
    (case lR => k_is)
    (case jR => k_is)
    (case kR => k_is)
    (case aC => k_is)
    (case lC => k_is)
    (case jC => k_is)
    (case kC => k_is)
    (case aU => k_is)
    (case lU => k_is)
    (case jU => k_is)
    (case kU => k_is)
    (case aH => k_is)
    (case lH => k_is)
    (case jH => k_is)
    (case kH => k_is)
    (case aS => k_is)
    (case lS => k_is)
    (case jS => k_is)
    (case kS => k_is)
    (case aQ => k_is)
    (case lQ => k_is)
    (case jQ => k_is)
    (case kQ => k_is)
    (case aP => k_is)
    (case lP => k_is)
    (case jP => k_is)
    (case kP => k_is)
    (case aZ => k_is)
    (case lZ => k_is)
    (case jZ => k_is)
    (case kZ => k_is)
    (case aV => k_is)
    (case lV => k_is)
    (case jV => k_is)
    (case kV => k_is)
    (case aK => k_is)
    (case lK => k_is)
    (case jK => k_is)
    (case kK => k_is)
    (case aD => k_is)
    (case lD => k_is)
    (case jD => k_is)
    (case kD => k_is)
    (case aT => k_is)
    (case lT => k_is)
    (case jT => k_is)
    (case kT => k_is)
    (case aN => k_is)
    (case lN => k_is)
    (case jN => k_is)
    (case kN => k_is)
    (case aM => k_is)
    (case lM => k_is)
    (case jM => k_is)
    (case kM => k_is)
    (case aW => k_is)
    (case lW => k_is)
    (case jW => k_is)
    (case kW => k_is)
    (case aA => k_is)
    (case lA => k_is)
    (case jA => k_is)
    (case kA => k_is)
    (case aE => k_is)
    (case lE => k_is)
    (case jE => k_is)
    (case kE => k_is)
    (case aX => k_is)
    (case lX => k_is)
    (case jX => k_is)
    (case kX => k_is)
    (case aO => k_is)
    (case lO => k_is)
    (case jO => k_is)
    (case kO => k_is)
    (case aB => k_is)
    (case lB => k_is)
    (case jB => k_is)
    (case kB => k_is)
    (case aY => k_is)
    (case lY => k_is)
    (case jY => k_is)
    (case kY => k_is)
    (case aG => k_is)
    (case lG => k_is)
    (case jG => k_is)
    (case kG => k_is)
    (case aL => k_is)
    (case lL => k_is)
    (case jL => k_is)
    (case kL => k_is)
    (case vI => k_is)
    (case eaI => exact rfl)
    (case ebI => exact rfl)
    (case ecI => exact rfl)
    (case edI => exact rfl)
    (case eeI => exact rfl)
    (case neI => decide)
    (case nTI => exact rfl)
    (case vR => k_is)
    (case eaR => exact rfl)
    (case ebR => exact rfl)
    (case ecR => exact rfl)
    (case edR => exact rfl)
    (case eeR => exact rfl)
    (case neR => decide)
    (case nTR => exact rfl)
    (case vC => k_is)
    (case eaC => exact rfl)
    (case ebC => exact rfl)
    (case ecC => exact rfl)
    (case edC => exact rfl)
    (case eeC => exact rfl)
    (case neC => decide)
    (case nTC => exact rfl)
    (case vQ => k_is)
    (case eaQ => exact rfl)
    (case ebQ => exact rfl)
    (case ecQ => exact rfl)
    (case edQ => exact rfl)
    (case eeQ => exact rfl)
    (case neQ => decide)
    (case nTQ => exact rfl)
    (case vP => k_is)
    (case eaP => exact rfl)
    (case ebP => exact rfl)
    (case ecP => exact rfl)
    (case edP => exact rfl)
    (case eeP => exact rfl)
    (case neP => decide)
    (case nTP => exact rfl)
    (case vZ => k_is)
    (case eaZ => exact rfl)
    (case ebZ => exact rfl)
    (case ecZ => exact rfl)
    (case edZ => exact rfl)
    (case eeZ => exact rfl)
    (case neZ => decide)
    (case nTZ => exact rfl)
    (case aX1 => k_is)
    (case lX1 => k_is)
    (case vX1 => repeat (first | exact .nil | refine .cons ⟨_, rfl⟩ ?_))
    (case aY1 => k_is)
    (case z_len => k_is)
    (case z_isinstance => k_is)
    (case z_str => k_is)
    (case z_all => k_is)
    (case z_range => k_is)
    (case z_bool => k_is)
    (case z_tuple => k_is)
    (case z_sorted => k_is)
    (case z_int => k_is)
    (case z_list => k_is)
    (case z_zip => k_is)
    (case z_set => k_is)
