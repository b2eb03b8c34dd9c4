import PyProof.Rows.All
import Wide.All
import OpenK.AllK
import Wide.FinOn
import HandS.ForMost
import HandS.AnyAll
import HandS.EndOwn
import HandS.IsInst
import PySem.Challenge.RW_eachplace_k01_what_is_a_name
set_option Elab.async false
set_option linter.all false
set_option maxRecDepth 100000
namespace My
open PySem PySem.Spec PyProof.Rows L2
def tp (i : Nat) : Stmt :=
  PySem.Challenge.pw_eachplace_k01_what_is_a_name.main.body.getD i
    (.Pass ⟨0, 0, 0, 0⟩)
abbrev sDeck : Stmt := tp 5
abbrev sDraw : Stmt := tp 6
theorem scDeck : FnScope ["_law_cell"] ["_law_cell"] (defScope sDeck) :=
  ⟨rfl, rfl, rfl, by decide +kernel, rfl, by decide +kernel, by decide +kernel⟩
theorem scDraw : FnScope ["_law_deck_here", "_law_most", "_law_found", "_law_mixed"]
    ["_law_deck_here", "_law_most"] (defScope sDraw) :=
  ⟨rfl, rfl, rfl, by decide +kernel, rfl, by decide +kernel, by decide +kernel⟩

/-- a deck at d: digits left, draws made (at most n), the mixed start -/
def Deck (H : Hp) (d : Addr) (n : Nat) : Prop :=
  ∃ a b c : Int, H d = some (.lst [.int a, .int b, .int c]) ∧ 0 ≤ a ∧ 0 ≤ b ∧ b ≤ n ∧ 0 ≤ c ∧ c < 2147483647
/-- like H but at d -/
def But (d : Addr) (H H' : Hp) : Prop := ∀ b, b ≠ d → H' b = H b

theorem pM : (0 : Int) < 2147483647 := by decide
theorem pN : (0 : Int) < 2147483629 := by decide
theorem z3 : 3 ≤ sizeLine := by decide
section
variable {P : Program} {w : World} {K : PySem.W.Frag} {mg : Str → Option Value} {base : Heap}
def spDeck : Sp := fun vs H Q _ => ∃ n : Int, vs = [.int n] ∧
  ∀ d H', H d = none → But d H H' → Deck H' d 0 → Q (.ref d) H'
theorem ok_deck {f : Addr} {fd : FuncData} {k : Nat} (F : Fun K "_law_deck" "_law_deck" sDeck f fd) :
    FnOk P w K mg base CX0 (k + 1) f fd ["_law_cell"] spDeck := by
  refine F.ok scDeck (fun vs H Q E h => ?_) (fun cdv A outer s H vs Q E hr h => ?_)
  · obtain ⟨n, rfl, _⟩ := h
    rfl
  · obtain ⟨n, rfl, q⟩ := h
    refine ⟨_, pss_cons (ps_if (pt_cmpR op_lt (pv 0) (pe_op op_pow pe_int pe_int) (nomark _))
        (pss_one (ps_ret (pe_lst (pa_cons pe_int (pa_cons pe_int
          (pa_cons (pe_op op_mod (pv 0) pe_int) pa_nil)))))) pss_nil)
      (pss_one (ps_ret (pe_lst (pa_cons (pv 0) (pa_cons pe_int
        (pa_cons (pe_op op_mod (pv 0) pe_int) pa_nil)))))), ?_⟩
    have hm0 : 0 ≤ n % 2147483647 := Int.emod_nonneg n (by decide)
    have hm1 : n % 2147483647 < 2147483647 := Int.emod_lt_of_pos n (by decide)
    refine ⟨.int n, rfl, 10, 18, rfl, rfl, ⟨by decide, by decide, by decide⟩, n, _, rfl, rfl, _, rfl,
      ite2 (fun e => ?_) (fun e => ?_)⟩
    · refine ⟨.int n, rfl, n, 2147483647, rfl, rfl, pM, z3, fun d hd => ?_⟩
      exact q d _ hd (fun b hb => upd_ne hb)
        ⟨0, 0, _, upd_same, by decide, by decide, by decide, hm0, hm1⟩
    · have hn : 0 ≤ n := by
        have e2 : ¬ n < 10 ^ 18 := fun z => e (decide_eq_true z)
        omega
      refine ⟨.int n, rfl, .int n, rfl, n, 2147483647, rfl, rfl, pM, z3, fun d hd => ?_⟩
      exact q d _ hd (fun b hb => upd_ne hb)
        ⟨n, 0, _, upd_same, hn, by decide, by decide, hm0, hm1⟩

def spDraw : Sp := fun vs H Q _ => ∃ (d : Addr) (m : Int) (n : Nat), vs = [.ref d, .int m] ∧
  0 < m ∧ m < 1073741824 ∧ n < 1073741824 ∧ Deck H d n ∧
  ∀ r H', 0 ≤ r → r < m → But d H H' → Deck H' d (n + 1) → Q (.int r) H'
theorem ok_draw {f : Addr} {fd : FuncData} {k : Nat} (F : Fun K "_law_draw" "_law_draw" sDraw f fd) :
    FnOk P w K mg base CX0 (k + 1) f fd ["_law_deck_here", "_law_most"] spDraw := by
  refine F.ok scDraw (fun vs H Q E h => ?_) (fun cdv A outer s H vs Q E hr h => ?_)
  · obtain ⟨d, m, n, rfl, _⟩ := h
    rfl
  · obtain ⟨d, m, n, rfl, hm0, hm1, hn, ⟨a, b, c, hd, ha, hb0, hb1, hc0, hc1⟩, q⟩ := h
    refine ⟨_, pss_cons (ps_if (pt_cmpR op_gt (pe_ix ix_list (pv 0) pe_int (fun _ _ => rfl)) pe_int (nomark _))
        (pss_cons (ps_set (i := 2) scDraw.nd rfl (.inl rfl)
            (pe_op op_mod (pe_ix ix_list (pv 0) pe_int (fun _ _ => rfl)) (pv 1)))
          (pss_cons (ps_asg (pe_op op_fdiv (pe_ix ix_list (pv 0) pe_int (fun _ _ => rfl)) (pv 1))
              (pg_sub (pv 0) pe_int set_list))
            (pss_one (ps_ret (pv 2))))) pss_nil)
      (pss_cons (ps_asg (pe_op op_add (pe_ix ix_list (pv 0) pe_int (fun _ _ => rfl)) pe_int)
          (pg_sub (pv 0) pe_int set_list))
      (pss_cons (ps_set (i := 3) scDraw.nd rfl (.inl rfl)
          (pe_op op_mod (pe_op op_mul (pe_op op_add (pe_ix ix_list (pv 0) pe_int (fun _ _ => rfl))
            (pe_op op_mul (pe_op op_mul pe_int (pe_ix ix_list (pv 0) pe_int (fun _ _ => rfl)))
              (pe_ix ix_list (pv 0) pe_int (fun _ _ => rfl)))) pe_int) pe_int))
      (pss_one (ps_ret (pe_op op_mod (pe_op op_fdiv (pe_op op_mod (pe_op op_mul (pv 3)
          (pe_op op_add (pv 3) pe_int)) pe_int) pe_int) (pv 1)))))), ?_⟩
    refine ⟨.ref d, rfl, d, _, 0, .int a, rfl, rfl, SqL.of hd, atI_nat (j := 0) rfl, a, 0, rfl, rfl, _, rfl,
      ite2 (fun e => ?_) (fun e => ?_)⟩
    · have hm : 0 ≤ a % m := Int.emod_nonneg a (by omega)
      have hm2 : a % m < m := Int.emod_lt_of_pos a hm0
      refine ⟨.ref d, rfl, d, _, 0, .int a, rfl, rfl, SqL.of hd, atI_nat (j := 0) rfl, .int m, rfl, a, m, rfl, rfl, hm0, ?_⟩
      refine ⟨.ref d, rfl, d, _, 0, .int a, rfl, rfl, SqL.of hd, atI_nat (j := 0) rfl, .int m, rfl, a, m, rfl, rfl, ⟨hm0, hm1⟩, ?_⟩
      refine ⟨.ref d, rfl, d, _, 0, 0, rfl, rfl, hd, rfl, ?_⟩
      refine ⟨_, rfl, q _ _ hm hm2 (fun x hx => upd_ne hx) ⟨a / m, b, c, upd_same, ?_, hb0, ?_, hc0, hc1⟩⟩
      · exact Int.ediv_nonneg ha (by omega)
      · omega
    · refine ⟨.ref d, rfl, d, _, 1, .int b, rfl, rfl, SqL.of hd, atI_nat (j := 1) rfl, b, 1, rfl, rfl, ?_⟩
      refine ⟨.ref d, rfl, d, _, 1, 1, rfl, rfl, hd, rfl, ?_⟩
      have hd2 : upd H d (.lst [.int a, .int (b + 1), .int c]) d = some (.lst [.int a, .int (b + 1), .int c]) := upd_same
      refine ⟨.ref d, rfl, d, _, 2, .int c, rfl, rfl, SqL.of hd2, atI_nat (j := 2) rfl, ?_⟩
      refine ⟨.ref d, rfl, d, _, 1, .int (b + 1), rfl, rfl, SqL.of hd2, atI_nat (j := 1) rfl, _, _, rfl, rfl, .inl ⟨by decide, by decide⟩, ?_⟩
      refine ⟨.ref d, rfl, d, _, 1, .int (b + 1), rfl, rfl, SqL.of hd2, atI_nat (j := 1) rfl, _, _, rfl, rfl, .inr ⟨by omega, by omega⟩, ?_⟩
      refine ⟨_, _, rfl, rfl, _, _, rfl, rfl, .inr ⟨by decide, by decide⟩, _, _, rfl, rfl, pM, ?_⟩
      generalize (c + 7919 * (b + 1) * (b + 1)) * 48271 = z
      have y0 : 0 ≤ z % 2147483647 := Int.emod_nonneg z (by decide)
      have y1 : z % 2147483647 < 2147483647 := Int.emod_lt_of_pos z (by decide)
      refine ⟨_, rfl, _, rfl, _, _, rfl, rfl, _, _, rfl, rfl, .inl ⟨by omega, by omega⟩, _, _, rfl, rfl, pN, _, _, rfl, rfl, ⟨by decide, by decide⟩, .int m, rfl, _, _, rfl, rfl, hm0, ?_⟩
      refine q _ _ (Int.emod_nonneg _ (by omega)) (Int.emod_lt_of_pos _ hm0) (fun x hx => upd_ne hx) ⟨a, b + 1, c, upd_same, ha, by omega, by omega, hc0, hc1⟩
end
end My
namespace My
open PySem PySem.Spec PyProof.Rows L2
abbrev sIsName : Stmt := tp 3
abbrev sIsWord : Stmt := tp 7
abbrev sLawName : Stmt := tp 8
abbrev sWords : Stmt := tp 9
theorem scIsName : FnScope ["thing"] ["thing"] (defScope sIsName) :=
  ⟨rfl, rfl, rfl, by decide +kernel, rfl, by decide +kernel, by decide +kernel⟩
theorem scIsWord : FnScope ["_law_text_here", "_law_words_here"] ["_law_text_here"] (defScope sIsWord) :=
  ⟨rfl, rfl, rfl, by decide +kernel, rfl, by decide +kernel, by decide +kernel⟩
theorem scLawName : FnScope ["_law_text_here", "_law_sign"] ["_law_text_here"] (defScope sLawName) :=
  ⟨rfl, rfl, rfl, by decide +kernel, rfl, by decide +kernel, by decide +kernel⟩
theorem scWords : FnScope ["_law_words_here"] [] (defScope sWords) :=
  ⟨rfl, rfl, rfl, by decide +kernel, rfl, by decide +kernel, by decide +kernel⟩

def W : List Str := (["end", "most", "less", "same", "unlike", "ahead", "here", "next",
  "not", "and", "or", "if", "each", "pairs", "nexts", "least", "more", "row", "place",
  "number", "put", "swap", "set", "stand", "begin", "go", "while", "kept", "changed",
  "exchanged", "turned", "moved", "front", "back"] : List String).map Str.ofString
def w1 : Str := "end most less same unlike ahead here next not and or if each pairs nexts least"
def w2 : Str := " more row place number put swap set stand begin go while kept"
def w3 : Str := " changed exchanged turned moved front back"
theorem split_w : Txt.split (w1 ++ w2 ++ w3) " " = W := by decide +kernel
theorem len_w1 : w1.length + w2.length ≤ sizeLine := by decide +kernel
theorem len_w2 : (w1 ++ w2).length + w3.length ≤ sizeLine := by decide +kernel
theorem len_w3 : (w1 ++ w2 ++ w3).length + 2 ≤ sizeLine := by decide +kernel
def isW (z : Str) : Bool := inV (.str z) (W.map V.str)
theorem flatW : (W.map V.str).all flatV = true := by decide +kernel
def sg (c : Nat) : Bool :=
  (!decide ((⟨#[c]⟩ : Str).cps.toList < ("a" : Str).cps.toList)) && (!decide (("z" : Str).cps.toList < (⟨#[c]⟩ : Str).cps.toList))
def nameB (z : Str) : Bool :=
  decide ((1 : Int) ≤ z.length) && decide ((z.length : Int) ≤ 8) && z.cps.toList.all sg && !isW z
def nameV : V → Bool
  | .str z => nameB z
  | _ => false

/-- a thing that is no text -/
def NT (H : Hp) (v : V) : Prop := v = .non ∨ (∃ b, v = .bl b) ∨ (∃ i, v = .int i) ∨
  ∃ a, v = .ref a ∧ ((∃ xs, H a = some (.tup xs)) ∨ (∃ xs, H a = some (.lst xs)) ∨ ∃ kvs, H a = some (.dK kvs))
theorem NT.ty {K : PySem.W.Frag} {H : Hp} {v : V} (h : NT H v) :
    ∃ t, TyX K H v t ∧ PySem.W.kitOne K t (.type "str") = some false := by
  rcases h with rfl | ⟨b, rfl⟩ | ⟨i, rfl⟩ | ⟨a, rfl, ⟨xs, e⟩ | ⟨xs, e⟩ | ⟨xs, e⟩⟩
  · exact ⟨_, .base .non, kit_ty (by decide +kernel)⟩
  · exact ⟨_, .base (.bl b), kit_ty (by decide +kernel)⟩
  · exact ⟨_, .base (.int i), kit_ty (by decide +kernel)⟩
  · exact ⟨_, .base (.tup e), kit_ty (by decide +kernel)⟩
  · exact ⟨_, .base (.lst e), kit_ty (by decide +kernel)⟩
  · exact ⟨_, .base (.dK e), kit_ty (by decide +kernel)⟩
theorem NT.no {H : Hp} {v : V} (h : NT H v) : nameV v = false := by
  rcases h with rfl | ⟨b, rfl⟩ | ⟨i, rfl⟩ | ⟨a, rfl, _⟩ <;> rfl
/-- signs of the plain table alone -/
def Asc (z : Str) : Prop := ∀ c ∈ z.cps.toList, c < 128
def Fine (H : Hp) (v : V) : Prop := (∃ z, v = .str z ∧ z.length ≤ 1000 ∧ Asc z) ∨ NT H v
theorem kstr {K : PySem.W.Frag} : PySem.W.kitOne K (.type "str") (.type "str") = some true := kit_ty (by decide +kernel)
theorem small {n : Nat} (h : n ≤ 1000) : n ≤ sizeLine := Nat.le_of_lt (small1000 h)

section
variable {P : Program} {w : World} {K : PySem.W.Frag} {mg : Str → Option Value} {base : Heap}
theorem same_new {H : Hp} {p : Addr} {o : HO} (h : H p = none) : Same H (upd H p o) := fun b x e =>
  (upd_ne (ne_of_none e h)).trans e

def spIsWord : Sp := fun vs H Q _ => ∃ z : Str, vs = [.str z] ∧ ∀ H', Same H H' → Q (.bl (isW z)) H'
theorem ok_isWord {f : Addr} {fd : FuncData} {k : Nat} (F : Fun K "_law_is_word" "_law_is_word" sIsWord f fd) :
    FnOk P w K mg base CX0 (k + 1) f fd ["_law_text_here"] spIsWord := by
  refine F.ok scIsWord (fun vs H Q E h => ?_) (fun cdv A outer s H vs Q E hr h => ?_)
  · obtain ⟨n, rfl, _⟩ := h
    rfl
  · obtain ⟨z, rfl, q⟩ := h
    refine ⟨_, pss_cons (ps_set (i := 1) scIsWord.nd rfl (.inl rfl) pe_str)
      (pss_cons (ps_set (i := 1) scIsWord.nd rfl (.inl rfl) (pe_op op_add_str (pv 1) pe_str))
      (pss_cons (ps_set (i := 1) scIsWord.nd rfl (.inl rfl) (pe_op op_add_str (pv 1) pe_str))
      (pss_one (ps_ret (pe_cmpR op_in_seq (pv 0) (pe_split (pv 1) pe_str) (by rfl)))))), ?_⟩
    refine ⟨_, rfl, w1, w2, rfl, rfl, len_w1, ?_⟩
    refine ⟨_, rfl, w1 ++ w2, w3, rfl, rfl, len_w2, ?_⟩
    refine ⟨_, rfl, _, rfl, ⟨_, rfl⟩, w1 ++ w2 ++ w3, " ", rfl, rfl, by decide +kernel, len_w3, fun p hp => ?_⟩
    rw [split_w]
    exact ⟨p, W.map V.str, rfl, .inl (SqL.of upd_same), rfl, flatW, q _ (same_new hp)⟩

def spWords : Sp := fun vs H Q _ => vs = [] ∧ ∀ p, H p = none → Q (.ref p) (upd H p (.lst (W.map V.str)))
theorem ok_words {f : Addr} {fd : FuncData} {k : Nat} (F : Fun K "_law_words" "_law_words" sWords f fd) :
    FnOk P w K mg base CX0 (k + 1) f fd [] spWords := by
  refine F.ok scWords (fun vs H Q E h => ?_) (fun cdv A outer s H vs Q E hr h => ?_)
  · obtain ⟨rfl, _⟩ := h
    rfl
  · obtain ⟨rfl, q⟩ := h
    refine ⟨_, pss_cons (ps_set (i := 0) scWords.nd rfl (.inl rfl) pe_str)
      (pss_cons (ps_set (i := 0) scWords.nd rfl (.inl rfl) (pe_op op_add_str (pv 0) pe_str))
      (pss_cons (ps_set (i := 0) scWords.nd rfl (.inl rfl) (pe_op op_add_str (pv 0) pe_str))
      (pss_one (ps_ret (pe_split (pv 0) pe_str))))), ?_⟩
    refine ⟨_, rfl, w1, w2, rfl, rfl, len_w1, ?_⟩
    refine ⟨_, rfl, w1 ++ w2, w3, rfl, rfl, len_w2, ?_⟩
    refine ⟨_, rfl, ⟨_, rfl⟩, w1 ++ w2 ++ w3, " ", rfl, rfl, by decide +kernel, len_w3, fun p hp => ?_⟩
    rw [split_w]
    exact q p hp

/-! the law's own look at a name -/
def badL (z : Str) : List Nat := z.cps.toList.filter fun c => !sg c
theorem bad_nil (z : Str) : (badL z).isEmpty = z.cps.toList.all sg := by
  unfold badL
  induction z.cps.toList with
  | nil => rfl
  | cons c r ih =>
    cases hc : sg c with
    | true => simpa [List.filter, hc] using ih
    | false => simp [List.filter, hc]
theorem dp_strs {K : PySem.W.Frag} {H : Hp} : ∀ l : List Nat, DpAll K H (l.map fun c => V.str ⟨#[c]⟩) (l.map fun c => PyData.str ⟨#[c]⟩)
  | [] => .nil
  | c :: r => .cons (.str _) (dp_strs r)
theorem lay_strs : ∀ l : List Nat, (∀ c ∈ l, c < 128) → PyData.canLayAll0 (l.map fun c => PyData.str ⟨#[c]⟩) = true
  | [], _ => rfl
  | c :: r, h => by
    show (PyData.canLay0 (.str ⟨#[c]⟩) && PyData.canLayAll0 (r.map fun c => PyData.str ⟨#[c]⟩)) = true
    rw [lay_strs r fun x hx => h x (List.mem_cons_of_mem _ hx), Bool.and_true]
    have hc := h c List.mem_cons_self
    show (#[c] : Array Nat).all (· < 0x110000) = true
    simp
    omega
theorem dep_strs : ∀ l : List Nat, PyData.depthAll (l.map fun c => PyData.str ⟨#[c]⟩) ≤ 1
  | [] => by decide
  | c :: r => by
    show max (PyData.depth (.str ⟨#[c]⟩)) (PyData.depthAll (r.map fun c => PyData.str ⟨#[c]⟩)) ≤ 1
    have := dep_strs r
    exact Nat.max_le.mpr ⟨by simp [PyData.depth], this⟩
theorem shaped_strs (l : List Nat) (hl : ∀ c ∈ l, c < 128) : SeqAt.shaped (.list (l.map fun c => PyData.str ⟨#[c]⟩)) = true := by
  unfold SeqAt.shaped
  rw [Bool.and_eq_true]
  refine ⟨lay_strs l hl, decide_eq_true ?_⟩
  have h := dep_strs l
  show PyData.depthAll _ + 1 ≤ 64
  omega
theorem eqv_nil (l : List Nat) : PyData.eqv (.list (l.map fun c => PyData.str ⟨#[c]⟩)) (.list []) = l.isEmpty := by
  cases l <;> rfl
def flt (z : Str) (i : Nat) : List V := ((z.cps.toList.take i).filter fun c => !sg c).map fun c => V.str ⟨#[c]⟩
theorem flt_good {z : Str} {i c : Nat} (h : z.cps[i]? = some c) (hs : sg c = true) : flt z (i + 1) = flt z i := by
  have e : z.cps.toList[i]? = some c := by rw [Array.getElem?_toList]; exact h
  unfold flt
  rw [List.take_add_one, e]
  simp [hs]
theorem flt_bad {z : Str} {i c : Nat} (h : z.cps[i]? = some c) (hs : sg c = false) : flt z (i + 1) = flt z i ++ [V.str ⟨#[c]⟩] := by
  have e : z.cps.toList[i]? = some c := by rw [Array.getElem?_toList]; exact h
  unfold flt
  rw [List.take_add_one, e]
  simp [hs]
theorem flt_all (z : Str) (i : Nat) (h : z.cps.size ≤ i) : flt z i = (badL z).map fun c => V.str ⟨#[c]⟩ := by
  unfold flt badL
  rw [List.take_of_length_le (by simpa using h)]
theorem flt_le (z : Str) (i : Nat) : (flt z i).length ≤ z.length := by
  unfold flt
  rw [List.length_map]
  refine Nat.le_trans (List.length_filter_le _ _) ?_
  rw [List.length_take]
  exact Nat.le_trans (Nat.min_le_right _ _) (by simp [Str.length])
def spLawName : Sp := fun vs H Q _ => ∃ v : V, vs = [v] ∧ Fine H v ∧ ∀ H', Same H H' → Q (.bl (nameV v)) H'
theorem ok_lawName {f fW : Addr} {fd fdW : FuncData} {k : Nat} (F : Fun K "_law_is_name" "_law_is_name" sLawName f fd)
    (FW : Fun K "_law_is_word" "_law_is_word" sIsWord fW fdW) (bW : Binds K fdW ["_law_text_here"] [])
    (gW : mg "_law_is_word" = some (.ref fW)) (mi : mg "isinstance" = none) (ms : mg "str" = none) (ml : mg "len" = none) :
    FnOk P w K mg base CX0 (k + 2) f fd ["_law_text_here"] spLawName := by
  have GW : FnOk P w K mg base CX0 (k + 1) fW fdW ["_law_text_here"] spIsWord := ok_isWord FW
  refine F.ok scLawName (fun vs H Q E h => ?_) (fun cdv A outer s H vs Q E hr h => ?_)
  · obtain ⟨n, rfl, _⟩ := h
    rfl
  · obtain ⟨v, rfl, hv, q⟩ := h
    refine ⟨_, pss_cons (ps_if (PW.pt (pw_or (pt_not (pt_val (pe_callB call_isi (by rfl) mi (by decide +kernel)
          (pa_cons (pv 0) (pa_cons (pe_bltn (v := .ty "str") (by rfl) ms (by decide +kernel) rfl) pa_nil)))))
        (pw_or (pt_not (pt_chain op_le op_le pe_int (pe_callB call_len_str (by rfl) ml PySem.boot_len (pa_cons (pv 0) pa_nil)) pe_int))
        (pw_or1 (pt_val (pe_call GW hr (by rfl) gW FW.kp bW .nil pass0 (pa_cons (pv 0) pa_nil)))))))
        (pss_one (ps_ret pe_bl)) pss_nil)
      (pss_one (ps_ret (pe_cmpR (op_eqD hr.units) (pe_lc (own := [("_law_sign", 1)]) (g := gName 1) (by rfl) scLawName.nd (pi_str (pv 0))
        (blkOk_by (own := [("_law_sign", 1)]) (N := ["_law_text_here", "_law_sign"]) (sc := defScope sLawName) (by decide +kernel))
        (fun _ _ _ _ _ => pg_name (i := 1) scLawName.nd rfl (Or.inl rfl))
        (fun _ _ _ _ _ => pts_one (pt_not (pt_chain op_le_str op_le_str pe_str (pv 1) pe_str)))
        (fun _ _ _ _ _ => pv 1)) (pe_lst pa_nil) (nomark _)))), ?_⟩
    rcases hv with ⟨z, rfl, hz, hasc⟩ | hv
    · refine ⟨.str z, rfl, .str z, .ty "str", _, _, true, rfl, .ty _, .base (.str z), kstr, true, rfl, ?_⟩
      refine ⟨.str z, rfl, z, rfl, small hz, 1, z.length, rfl, rfl, _, rfl, ?_⟩
      have no : nameB z = false → Q (.bl false) H := fun e => by
        have e2 := q H (Same.refl H)
        rw [show nameV (.str z) = false from e] at e2
        exact e2
      refine ite2 (fun h1 => ?_) (fun h1 => ?_)
      · refine ⟨z.length, 8, rfl, rfl, _, rfl, ?_⟩
        by_cases h2 : (z.length : Int) ≤ 8
        · rw [decide_eq_true h2]
          refine ⟨.str z, rfl, z, rfl, fun H1 s1 => ⟨_, rfl, ?_⟩⟩
          cases h3 : isW z with
          | true =>
            have e2 := q H1 s1
            rw [show nameV (.str z) = false by
              show nameB z = false
              unfold nameB
              rw [h3]
              simp] at e2
            exact e2
          | false =>
            have hres : nameV (.str z) = (badL z).isEmpty := by
              show nameB z = _
              unfold nameB
              rw [h3, h1, decide_eq_true h2, bad_nil]
              simp
            refine ⟨.str z, rfl, z, rfl, fun D hD => ?_⟩
            refine ⟨fun i m Hc => i + m = z.cps.size ∧ Hc = upd H1 D (.lst (flt z i)), ⟨z.cps.size, by omega, rfl⟩, fun i m Hc hW => ?_⟩
            obtain ⟨him, rfl⟩ := hW
            by_cases hi : i < z.cps.size
            · refine .inr ⟨hi, fun H' => H' = upd H1 D (.lst (flt z (i + 1))), fun H' e => ⟨m - 1, by omega, by omega, e⟩, fun x H' hy => ?_⟩
              obtain ⟨rfl, c, hc, rfl⟩ := hy
              refine ⟨rfl, ?_⟩
              refine ⟨.str ⟨#[c]⟩, rfl, "a", ⟨#[c]⟩, rfl, rfl, _, rfl, ite2 (fun ea => ?_) (fun ea => ?_)⟩
              · refine ⟨⟨#[c]⟩, "z", rfl, rfl, _, rfl, ite2 (fun ez => ?_) (fun ez => ?_)⟩
                · have hs : sg c = false := by
                    unfold sg
                    rw [ea]
                    simpa using ez
                  refine ⟨.str ⟨#[c]⟩, rfl, _, upd_same, small1000 (Nat.le_trans (flt_le z i) hz), ?_⟩
                  rw [upd_upd, flt_bad hc hs]
                · have hs : sg c = true := by
                    unfold sg
                    rw [ea]
                    simpa using ez
                  rw [flt_good hc hs]
              · refine ⟨false, rfl, ?_⟩
                have hs : sg c = false := by
                  unfold sg
                  rw [Bool.eq_false_iff.mpr ea]
                  rfl
                refine ⟨.str ⟨#[c]⟩, rfl, _, upd_same, small1000 (Nat.le_trans (flt_le z i) hz), ?_⟩
                rw [upd_upd, flt_bad hc hs]
            · refine .inl ⟨Nat.le_of_not_lt hi, ?_⟩
              rw [flt_all z i (Nat.le_of_not_lt hi)]
              refine ⟨Nat.zero_le _, fun l hl => ?_⟩
              have nl : D ≠ l := ne_of_none upd_same hl
              refine ⟨.list _, .list [], .lst (SqL.of ((upd_ne nl).trans upd_same)) (dp_strs (badL z)),
                .lst (SqL.of upd_same) .nil, shaped_strs (badL z) (fun c hc => hasc c (List.mem_filter.mp hc).1), rfl, ?_⟩
              rw [eqv_nil (badL z), ← hres]
              exact q _ (s1.trans ((same_new hD).trans (same_new hl)))
        · rw [decide_eq_false h2]
          exact no (by unfold nameB; rw [decide_eq_false h2, Bool.and_false]; rfl)
      · refine ⟨false, rfl, no (by unfold nameB; rw [show decide ((1 : Int) ≤ z.length) = false from Bool.eq_false_iff.mpr h1]; rfl)⟩
    · obtain ⟨t, ht, hk⟩ := hv.ty (K := K)
      refine ⟨v, rfl, v, .ty "str", t, _, false, rfl, .ty _, ht, hk, false, rfl, ?_⟩
      have e := q H (Same.refl H)
      rw [hv.no] at e
      exact e

/-! the program's own look -/
theorem elt_sign {prog : Program} {w : World} {scope : Scope} {x : Str} {j j2 : Nat} {p1 p2 p3 p4 : Pos} (hk : scope.kind = .function)
    (hl : scope.names.lookup x = some .local) (hd : (x == ("__debug__" : Str)) = false := by decide) :
    GxR.EltP prog w scope x (.Compare (.Constant (.str "a") j p1) [.LtE, .LtE] [.Name x p2, .Constant (.str "z") j2 p3] p4) sg := by
  intro cenv A' E' c t s₂ m₂ hs hn hm
  refine Compare_chain (Calls.Constant_str (chain_link ?_)) (by with_unfolding_all rfl)
  refine wpAny_Name (wpAny_loadName_local (by rw [hs]; exact hk) (show cenv.scope.names.lookup x = some .local by rw [hs]; exact hl) hn hm ?_) hd
  refine PySem.P.le_str ?_
  refine wpAny_truthy_bool ?_
  cases ha : (!decide ((⟨#[c]⟩ : Str).cps.toList < ("a" : Str).cps.toList)) with
  | false => exact ite_ff ⟨by unfold sg; rw [ha]; rfl, GxR.keeps_tok _ _⟩
  | true =>
    refine ite_tt (chain_last (Calls.Constant_str (PySem.P.le_str ⟨?_, GxR.keeps_tok _ _⟩)))
    unfold sg
    rw [ha]
    rfl

theorem nf2 : ∀ y ∈ [((".0" : Str), NameKind.local), (("sign" : Str), NameKind.local)], y.2 ≠ NameKind.free := by decide +kernel
/-- like H but for what stands at P, a table -/
def Fr (P : Addr) (H H' : Hp) : Prop := GxR.TabG H' P ∧ ∀ b o, b ≠ P → H b = some o → H' b = some o
def spIsName (T : Addr) : Sp := fun vs H Q _ => ∃ v : V, vs = [v] ∧ Fine H v ∧ GxR.TabG H T ∧
  ∀ H', Fr T H H' → Q (.bl (nameV v)) H'
theorem ok_isName {f c T tw : Addr} {oc kV doc pm ct : Value} {od an : Option Addr} {osl : Array (Option Value)} {k : Nat} {lt : Tok}
    (lk : K.lookup f = some ⟨oc, od, .func (PySem.W.fnOf "is_name" "is_name" (defArgs sIsName) (defBody sIsName) (defScope sIsName) .none kV doc pm an (.ref c) ct), osl⟩)
    (hcd : PySem.W.codeIn K (.ref c) "is_name" = true) (TB : GxR.TabB base mg c T)
    (gL : mg "LONGEST_NAME" = some (.int 8 lt)) (gT : mg "WORDS" = some (.ref tw)) (hT : ∀ H, SqT K H tw (W.map V.str))
    (mi : mg "isinstance" = none) (ms : mg "str" = none) (ml : mg "len" = none) (ma : mg "all" = none) :
    FnOk P w K mg base CX0 (k + 1) f (PySem.W.fnOf "is_name" "is_name" (defArgs sIsName) (defBody sIsName) (defScope sIsName) .none kV doc pm an (.ref c) ct) ["thing"] (spIsName T) := by
  refine fn_of lk hcd scIsName (fun vs H Q E h => ?_) (fun A outer s H vs Q E hr h => ?_)
  · obtain ⟨n, rfl, _⟩ := h
    rfl
  · obtain ⟨v, rfl, hv, hG, q⟩ := h
    refine ⟨_, pss_one (ps_ret (pe_and (pe_callB call_isi (by rfl) mi (by decide +kernel)
          (pa_cons (pv 0) (pa_cons (pe_bltn (v := .ty "str") (by rfl) ms (by decide +kernel) rfl) pa_nil)))
        (pe_and (pe_chain op_le op_le pe_int (pe_callB call_len_str (by rfl) ml PySem.boot_len (pa_cons (pv 0) pa_nil)) (pe_glob (v := .int 8) (by rfl) gL ⟨_, rfl⟩))
        (pe_and (GxR.pe_allS (c := c) (P := T) hr (by rfl) ma (by decide +kernel) TB rfl ⟨rfl, rfl, by decide +kernel, rfl, rfl, fun y hy e => absurd e (nf2 y hy)⟩ (pv 0) (elt_sign rfl rfl) (fun _ => rfl))
        (pe_one (pe_cmpR op_notIn_seq (pv 0) (pe_glob (v := .ref tw) (by rfl) gT rfl) (by rfl))))))), ?_⟩
    have fr0 : Fr T H H := ⟨hG, fun b o _ e => e⟩
    rcases hv with ⟨z, rfl, hz, hasc⟩ | hv
    · refine ⟨.str z, rfl, .str z, .ty "str", _, _, true, rfl, .ty _, .base (.str z), kstr, true, rfl, ?_⟩
      have no : nameB z = false → Q (.bl false) H := fun e => by
        have e2 := q H fr0
        rw [show nameV (.str z) = false from e] at e2
        exact e2
      refine ⟨.str z, rfl, z, rfl, small hz, 1, z.length, rfl, rfl, _, rfl, ?_⟩
      refine ite2 (fun h1 => ?_) (fun h1 => ?_)
      · refine ⟨z.length, 8, rfl, rfl, _, rfl, ?_⟩
        by_cases h2 : (z.length : Int) ≤ 8
        · rw [decide_eq_true h2]
          refine ⟨.str z, rfl, z, rfl, hG, fun H2 hT2 => ⟨_, rfl, ?_⟩⟩
          have fr : Fr T H H2 := ⟨hT2.1, fun b o hb e => (hT2.2 b hb).trans e⟩
          have e2 := q H2 fr
          rw [show nameV (.str z) = (z.cps.toList.all sg && !isW z) by
            show nameB z = _
            unfold nameB
            rw [h1, decide_eq_true h2]
            rfl] at e2
          cases h3 : z.cps.toList.all sg with
          | false =>
            rw [h3] at e2
            exact e2
          | true =>
            rw [h3] at e2
            exact ⟨.str z, rfl, tw, W.map V.str, rfl, .inr (hT H2), rfl, flatW, e2⟩
        · rw [decide_eq_false h2]
          exact no (by unfold nameB; rw [decide_eq_false h2, Bool.and_false]; rfl)
      · refine ⟨false, rfl, no (by unfold nameB; rw [show decide ((1 : Int) ≤ z.length) = false from Bool.eq_false_iff.mpr h1]; rfl)⟩
    · obtain ⟨t, ht, hk⟩ := hv.ty (K := K)
      refine ⟨v, rfl, v, .ty "str", t, _, false, rfl, .ty _, ht, hk, false, rfl, ?_⟩
      have e := q H fr0
      rw [hv.no] at e
      exact e
end
end My
namespace My
open PySem PySem.Spec PyProof.Rows L2
abbrev sText : Stmt := tp 10
theorem scText : FnScope ["_law_deck_here", "_law_letters", "_law_text_here", "_law_at", "_law_sign", "_law_k"] ["_law_deck_here"] (defScope sText) :=
  ⟨rfl, rfl, rfl, by decide +kernel, rfl, by decide +kernel, by decide +kernel⟩
def abc : Str := "abcdefghijklmnopqrstuvwxyz"

theorem asc_app {x y : Str} (h : Asc x) (h' : Asc y) : Asc (x ++ y) := by
  intro c hc
  have e : (x ++ y).cps.toList = x.cps.toList ++ y.cps.toList := by
    show (x.cps ++ y.cps).toList = _
    simp
  rw [e] at hc
  rcases List.mem_append.mp hc with z | z
  · exact h c z
  · exact h' c z
theorem len_app (x y : Str) : (x ++ y).length = x.length + y.length := PySem.Str.length_append x y
theorem asc_cut {x : Str} (h : Asc x) (lo hi : Option Int) : Asc (cutS x lo hi) := by
  intro c hc
  have hc' : c ∈ ((x.cps.toList.drop (HT.sIx x.length 0 lo)).take (HT.sIx x.length x.length hi - HT.sIx x.length 0 lo)) := by
    simpa [cutS] using hc
  exact h c (List.mem_of_mem_drop (List.mem_of_mem_take hc'))
theorem join_ok : ∀ ys : List Str, (∀ y ∈ ys, y.length = 1 ∧ Asc y) → (Txt.join "" ys).length = ys.length ∧ Asc (Txt.join "" ys)
  | [], _ => ⟨rfl, fun c hc => by cases hc⟩
  | [x], h => h x List.mem_cons_self
  | x :: y :: r, h => by
    have ih := join_ok (y :: r) fun z hz => h z (List.mem_cons_of_mem _ hz)
    have hx := h x List.mem_cons_self
    have gl : ∀ l, Txt.join ("" : Str) l = Str.join "" l := fun l => PySem.StrLaws.glued_eq_join "" l
    have e : Txt.join "" (x :: y :: r) = x ++ "" ++ Txt.join "" (y :: r) := by
      rw [gl, gl]
      rfl
    rw [e]
    have a0 : Asc "" := fun c hc => by cases hc
    have l0 : ("" : Str).length = 0 := rfl
    refine ⟨?_, asc_app (asc_app hx.2 a0) ih.2⟩
    rw [len_app, len_app, l0, hx.1, ih.1]
    simp only [List.length_cons]
    omega
theorem abc_at {r : Int} (h0 : 0 ≤ r) (h1 : r < 26) : ∃ c, atI abc.cps.toList r = some c ∧ c < 128 := by
  obtain ⟨n, rfl⟩ := Int.eq_ofNat_of_zero_le h0
  have hl : abc.cps.toList.length = 26 := by decide +kernel
  have hn : n < abc.cps.toList.length := by omega
  have ha : ∀ c ∈ abc.cps.toList, c < 128 := by decide +kernel
  exact ⟨abc.cps.toList[n], atI_nat (List.getElem?_eq_getElem hn), ha _ (List.getElem_mem hn)⟩
/-- an item of a written list of things -/
theorem at_list {α : Type} (xs : List α) {r : Int} (h0 : 0 ≤ r) (h1 : r < xs.length) : ∃ v, atI xs r = some v ∧ v ∈ xs := by
  obtain ⟨n, rfl⟩ := Int.eq_ofNat_of_zero_le h0
  have hn : n < xs.length := by omega
  exact ⟨xs[n], atI_nat (List.getElem?_eq_getElem hn), List.getElem_mem hn⟩
/-- all but d stays -/
def SameBut (d : Addr) (H H' : Hp) : Prop := ∀ b o, b ≠ d → H b = some o → H' b = some o
theorem But.sb {d : Addr} {H H' : Hp} (h : But d H H') : SameBut d H H' := fun b o hb e => (h b hb).trans e
theorem SameBut.trans {d : Addr} {H H1 H2 : Hp} (a : SameBut d H H1) (b : SameBut d H1 H2) : SameBut d H H2 :=
  fun x o hx e => b x o hx (a x o hx e)
theorem same_sb {d : Addr} {H H' : Hp} (h : Same H H') : SameBut d H H' := fun b o _ e => h b o e
theorem Deck.mono {H H' : Hp} {d : Addr} {n : Nat} (h : Deck H d n) (s : Same H H') : Deck H' d n := by
  obtain ⟨a, b, c, e, r⟩ := h
  exact ⟨a, b, c, s _ _ e, r⟩
def signs : List Str := ["A", "Z", "0", " ", ".", "\n", "_", "-", "(", "`", "{"]
theorem signs_ok : ∀ z ∈ signs, z.length = 1 ∧ Asc z := by
  unfold Asc
  decide +kernel

section
variable {P : Program} {w : World} {K : PySem.W.Frag} {mg : Str → Option Value} {base : Heap}
def spText : Sp := fun vs H Q _ => ∃ d : Addr, vs = [.ref d] ∧ Deck H d 0 ∧
  ∀ z H', z.length ≤ 30 → Asc z → SameBut d H H' → Q (.str z) H'
theorem ok_text {f fD : Addr} {fd fdD : FuncData} {k : Nat} (F : Fun K "_law_text" "_law_text" sText f fd)
    (FD : Fun K "_law_draw" "_law_draw" sDraw fD fdD) (bD : Binds K fdD ["_law_deck_here", "_law_most"] [])
    (gD : mg "_law_draw" = some (.ref fD)) (mr : mg "range" = none) (ml : mg "len" = none) :
    FnOk P w K mg base CX0 (k + 2) f fd ["_law_deck_here"] spText := by
  have GD : FnOk P w K mg base CX0 (k + 1) fD fdD ["_law_deck_here", "_law_most"] spDraw := ok_draw FD
  refine F.ok scText (fun vs H Q E h => ?_) (fun cdv A outer s H vs Q E hr h => ?_)
  · obtain ⟨n, rfl, _⟩ := h
    rfl
  · obtain ⟨d, rfl, hd, q⟩ := h
    refine ⟨_, pss_cons (ps_set (i := 1) scText.nd rfl (.inr rfl) pe_str)
      (pss_cons (ps_set (i := 2) scText.nd rfl (.inl rfl) (pe_join pe_str
        (pe_lc (own := [("_law_k", 5)]) (g := gName 5) (by rfl) scText.nd
          (pi_range1 (by rfl) mr (pa_cons (pe_op op_add pe_int (pe_call GD hr (by rfl) gD FD.kp bD .nil pass0 (pa_cons (pv 0) (pa_cons pe_int pa_nil)))) pa_nil))
          (blkOk_by (own := [("_law_k", 5)]) (N := ["_law_deck_here", "_law_letters", "_law_text_here", "_law_at", "_law_sign", "_law_k"]) (sc := defScope sText) (by decide +kernel))
          (fun _ _ _ _ _ => pg_name (i := 5) scText.nd rfl (Or.inl rfl))
          (fun _ _ _ _ _ => pts_nil)
          (fun _ _ _ _ _ => pe_ix ix_str (pv 1) (pe_call GD hr (by rfl) gD FD.kp bD .nil pass0 (pa_cons (pv 0) (pa_cons pe_int pa_nil))) (fun _ _ => rfl)))))
      (pss_cons (ps_set (i := 3) scText.nd rfl (.inl rfl) (pe_call GD hr (by rfl) gD FD.kp bD .nil pass0
          (pa_cons (pv 0) (pa_cons (pe_op op_add (pe_callB call_len_str (by rfl) ml PySem.boot_len (pa_cons (pv 2) pa_nil)) pe_int) pa_nil))))
      (pss_cons (ps_set (i := 4) scText.nd rfl (.inl rfl) (pe_ix ix_list (pe_lst (pa_cons pe_str (pa_cons pe_str (pa_cons pe_str (pa_cons pe_str (pa_cons pe_str (pa_cons pe_str (pa_cons pe_str (pa_cons pe_str (pa_cons pe_str (pa_cons pe_str (pa_cons pe_str pa_nil))))))))))))
          (pe_call GD hr (by rfl) gD FD.kp bD .nil pass0 (pa_cons (pv 0) (pa_cons pe_int pa_nil))) (fun _ _ => rfl)))
      (pss_one (ps_ret (pe_ix ix_list (pe_lst (pa_cons (pv 2) (pa_cons (pv 2)
          (pa_cons (pe_op op_add_str (pe_op op_add_str (pe_slice sl_str (pv 2) po_none (po_some (pv 3))) (pv 4)) (pe_slice sl_str (pv 2) (po_some (pv 3)) po_none))
          (pa_cons (pe_op op_add_str (pe_op op_add_str (pe_slice sl_str (pv 2) po_none (po_some (pv 3))) (pv 4)) (pe_slice sl_str (pv 2) (po_some (pe_op op_add (pv 3) pe_int)) po_none)) pa_nil)))))
          (pe_call GD hr (by rfl) gD FD.kp bD .nil pass0 (pa_cons (pv 0) (pa_cons pe_int pa_nil))) (fun _ _ => rfl))))))), ?_⟩
    -- text = ''.join([..])
    refine ⟨⟨_, rfl⟩, .ref d, rfl, d, 9, 0, rfl, by decide, by decide, by decide, hd, fun r H1 r0 r1 b1 d1 => ?_⟩
    refine ⟨1, r, rfl, rfl, 1 + r, rfl, by omega, by omega, fun D hD => ?_⟩
    have nD : d ≠ D := by
      obtain ⟨_, _, _, e, _⟩ := d1
      exact ne_of_none e hD
    have hn9 : (1 + r).toNat ≤ 9 := by omega
    refine lc_range (lo := 0) (n := (1 + r).toNat) (fun i Hc => ∃ ys : List Str, ys.length = i ∧ (∀ y ∈ ys, y.length = 1 ∧ Asc y) ∧
      Hc D = some (.lst (ys.map V.str)) ∧ Deck Hc d (1 + i) ∧ SameBut d H Hc) ?_ ?_ ?_
    · exact ⟨[], rfl, fun y hy => (by cases hy), upd_same, d1.mono (same_new hD), b1.sb.trans (same_sb (same_new hD))⟩
    · intro i Hc hi hP
      obtain ⟨ys, hl, hy, eD, hdk, hsb⟩ := hP
      refine ⟨rfl, ?_⟩
      refine ⟨.str abc, rfl, .ref d, rfl, d, 26, 1 + i, rfl, by decide, by decide, by omega, hdk, fun r' H2 r0' r1' b2 d2 => ?_⟩
      obtain ⟨c, hc, hc2⟩ := abc_at r0' r1'
      refine ⟨abc, r', c, rfl, rfl, by decide +kernel, hc, ?_⟩
      have eD2 : H2 D = some (.lst (ys.map V.str)) := (b2 D nD.symm).trans eD
      refine ⟨_, eD2, by rw [List.length_map]; exact small1000 (by omega), ys ++ [⟨#[c]⟩], by simp [hl], ?_, ?_, ?_, ?_⟩
      · intro y hyy
        rcases List.mem_append.mp hyy with z | z
        · exact hy y z
        · have ez : y = ⟨#[c]⟩ := by simpa using z
          subst ez
          refine ⟨rfl, fun x hx => ?_⟩
          have ex : x = c := by simpa using hx
          rw [ex]
          exact hc2
      · rw [upd_same, List.map_append]
        rfl
      · obtain ⟨a, b, c', e, rest⟩ := d2
        exact ⟨a, b, c', (upd_ne nD).trans e, by rw [show 1 + (i + 1) = 1 + i + 1 by omega]; exact rest⟩
      · intro b o hb e
        by_cases hbD : b = D
        · subst hbD
          have e1 := b1.sb b o hb e
          rw [hD] at e1
          cases e1
        · rw [upd_ne hbD, b2 b hb]
          exact hsb b o hb e
    · intro Hc hP
      obtain ⟨ys, hl, hy, eD, hdk, hsb⟩ := hP
      obtain ⟨jl, ja⟩ := join_ok ys hy
      have bound : (ys.map (·.length)).sum + ys.length * ("" : Str).length ≤ 16777216 := by
        have : ∀ ys : List Str, (∀ y ∈ ys, y.length = 1 ∧ Asc y) → (ys.map (·.length)).sum = ys.length := by
          intro ys
          induction ys with
          | nil => intro _; rfl
          | cons y r ih =>
            intro h
            rw [List.map_cons, List.sum_cons, ih fun z hz => h z (List.mem_cons_of_mem _ hz), (h y List.mem_cons_self).1, List.length_cons]
            omega
        rw [this ys hy]
        have l0 : ("" : Str).length = 0 := rfl
        rw [l0]
        omega
      refine ⟨"", D, ys, rfl, rfl, .inl (SqL.of eD), bound, ?_⟩
      generalize Txt.join "" ys = z at *
      have hz : z.length ≤ 9 := by omega
      -- at
      refine ⟨.ref d, rfl, .str z, rfl, z, rfl, small (by omega), z.length, 1, rfl, rfl, d, _, _, rfl, by omega, by omega, by omega, hdk, fun r3 H3 r30 r31 b3 d3 => ?_⟩
      -- sign
      refine ⟨by decide, fun p3 hp3 => ?_⟩
      have d3' := d3.mono (same_new (o := .lst (signs.map V.str)) hp3)
      refine ⟨.ref d, rfl, d, 11, _, rfl, by decide, by decide, by omega, d3', fun r4 H4 r40 r41 b4 d4 => ?_⟩
      have np3 : p3 ≠ d := by
        intro e
        obtain ⟨_, _, _, e2, _⟩ := d3
        rw [← e, hp3] at e2
        cases e2
      have e4 : H4 p3 = some (.lst (signs.map V.str)) := (b4 p3 np3).trans upd_same
      obtain ⟨sv, hsv, hmem⟩ := at_list (signs.map V.str) r40 (show r4 < ((signs.map V.str).length : Int) by exact r41)
      obtain ⟨sn, hsn, rfl⟩ := List.mem_map.mp hmem
      obtain ⟨sl, sa⟩ := signs_ok sn hsn
      refine ⟨p3, _, r4, .str sn, rfl, rfl, SqL.of e4, hsv, ?_⟩
      -- the four texts
      have c1 := cutS_length z none (some r3)
      have c2 := cutS_length z (some r3) none
      have c3 := cutS_length z (some (r3 + 1)) none
      have a1 := asc_cut ja none (some r3)
      have a2 := asc_cut ja (some r3) none
      have a3 := asc_cut ja (some (r3 + 1)) none
      refine ⟨.str z, rfl, .str z, rfl, ?_⟩
      refine ⟨.str z, rfl, .int r3, rfl, r3, rfl, z, rfl, small (by omega), .str sn, rfl, _, _, rfl, rfl, small (by omega), ?_⟩
      refine ⟨.str z, rfl, .int r3, rfl, r3, rfl, z, rfl, small (by omega), _, _, rfl, rfl, small (by rw [len_app]; omega), ?_⟩
      refine ⟨.str z, rfl, .int r3, rfl, r3, rfl, z, rfl, small (by omega), .str sn, rfl, _, _, rfl, rfl, small (by omega), ?_⟩
      refine ⟨.str z, rfl, .int r3, rfl, r3, 1, rfl, rfl, r3 + 1, rfl, z, rfl, small (by omega), _, _, rfl, rfl, small (by rw [len_app]; omega), ?_⟩
      refine ⟨(show 4 ≤ sizeLine by decide), fun p5 hp5 => ?_⟩
      refine ⟨.ref d, rfl, d, 4, _, rfl, by decide, by decide, by omega, d4.mono (same_new hp5), fun r6 H6 r60 r61 b6 d6 => ?_⟩
      have np5 : p5 ≠ d := by
        intro e
        obtain ⟨_, _, _, e2, _⟩ := d4
        rw [← e, hp5] at e2
        cases e2
      have e6 := (b6 p5 np5).trans upd_same
      have fin : ∀ y : Str, y.length ≤ 30 → Asc y → Q (.str y) H6 := fun y hy ha => by
        refine q y H6 hy ha ?_
        refine hsb.trans (b3.sb.trans ((same_sb (same_new hp3)).trans (b4.sb.trans ((same_sb (same_new hp5)).trans b6.sb))))
      obtain ⟨tv, htv, hmem⟩ := at_list _ r60 (show r6 < (([V.str z, .str z, .str (cutS z none (some r3) ++ sn ++ cutS z (some r3) none), .str (cutS z none (some r3) ++ sn ++ cutS z (some (r3 + 1)) none)] : List V).length : Int) by exact r61)
      have l2 : (cutS z none (some r3) ++ sn ++ cutS z (some r3) none).length ≤ 30 := by
        rw [len_app, len_app]
        omega
      have l3 : (cutS z none (some r3) ++ sn ++ cutS z (some (r3 + 1)) none).length ≤ 30 := by
        rw [len_app, len_app]
        omega
      refine ⟨p5, _, r6, tv, rfl, rfl, SqL.of e6, htv, ?_⟩
      simp only [List.mem_cons, List.not_mem_nil, or_false] at hmem
      rcases hmem with rfl | rfl | rfl | rfl
      · exact fin _ (by omega) ja
      · exact fin _ (by omega) ja
      · exact fin _ l2 (asc_app (asc_app a1 sa) a2)
      · exact fin _ l3 (asc_app (asc_app a1 sa) a3)
end
end My
namespace My
open PySem PySem.Spec PyProof.Rows L2
abbrev sLaw : Stmt := tp 11
theorem scLaw : FnScope ["_law_script", "_law_some", "_law_word", "_law_thing", "_law_found", "_law_cell"] ["_law_script"] (defScope sLaw) :=
  ⟨rfl, rfl, rfl, by decide +kernel, rfl, by decide +kernel, by decide +kernel⟩
def ascB (z : Str) : Bool := z.cps.toList.all (fun c => decide (c < 128)) && decide (z.length ≤ 1000)
theorem fineB {H : Hp} {z : Str} (h : ascB z = true) : Fine H (.str z) := by
  unfold ascB at h
  rw [Bool.and_eq_true] at h
  refine .inl ⟨z, rfl, of_decide_eq_true h.2, fun c hc => ?_⟩
  exact of_decide_eq_true (List.all_eq_true.mp h.1 c hc)
theorem Fine.same {H H' : Hp} {v : V} (h : Fine H v) (s : Same H H') : Fine H' v := by
  rcases h with h | h | h | h | ⟨a, e, ⟨xs, h⟩ | ⟨xs, h⟩ | ⟨xs, h⟩⟩
  · exact .inl h
  · exact .inr (.inl h)
  · exact .inr (.inr (.inl h))
  · exact .inr (.inr (.inr (.inl h)))
  · exact .inr (.inr (.inr (.inr ⟨a, e, .inl ⟨xs, s _ _ h⟩⟩)))
  · exact .inr (.inr (.inr (.inr ⟨a, e, .inr (.inl ⟨xs, s _ _ h⟩)⟩)))
  · exact .inr (.inr (.inr (.inr ⟨a, e, .inr (.inr ⟨xs, s _ _ h⟩)⟩)))
theorem Fine.fr {T : Addr} {H H' : Hp} {v : V} (h : Fine H v) (g : GxR.TabG H T) (f : Fr T H H') : Fine H' v := by
  obtain ⟨ps, hT, _⟩ := g
  have at_ : ∀ a o, H a = some o → (∀ q, o ≠ .tbl q) → H' a = some o := fun a o e n => f.2 a o (fun z => by
    rw [z, hT] at e
    exact n ps (Option.some.inj e).symm) e
  rcases h with h | h | h | h | ⟨a, e, ⟨xs, h⟩ | ⟨xs, h⟩ | ⟨xs, h⟩⟩
  · exact .inl h
  · exact .inr (.inl h)
  · exact .inr (.inr (.inl h))
  · exact .inr (.inr (.inr (.inl h)))
  · exact .inr (.inr (.inr (.inr ⟨a, e, .inl ⟨xs, at_ _ _ h fun q z => nomatch z⟩⟩)))
  · exact .inr (.inr (.inr (.inr ⟨a, e, .inr (.inl ⟨xs, at_ _ _ h fun q z => nomatch z⟩)⟩)))
  · exact .inr (.inr (.inr (.inr ⟨a, e, .inr (.inr ⟨xs, at_ _ _ h fun q z => nomatch z⟩)⟩)))
def some5 (w : Str) : List Str := [w, cutS w none (some (-1)), w ++ "s", "s" ++ w, Txt.upper w]
theorem words_ok : (W.all fun w => (some5 w).all ascB && decide (w.length ≤ 100)) = true := by decide +kernel
theorem word_ok {w : Str} (h : w ∈ W) : (∀ z ∈ some5 w, ascB z = true) ∧ w.length ≤ 100 := by
  have e := List.all_eq_true.mp words_ok w h
  rw [Bool.and_eq_true] at e
  exact ⟨List.all_eq_true.mp e.1, of_decide_eq_true e.2⟩
def rep (z : Str) (n : Int) : Str := ⟨(List.replicate n.toNat z.cps).foldl (· ++ ·) #[]⟩
theorem op_repS {X : Cx} : OpR X (binaryOp .Mult) (fun x y H Q => ∃ z n, x = .str z ∧ y = .int n ∧ 1 < n ∧ n ≤ 1000 ∧
    0 < z.length ∧ z.length ≤ 1000 ∧ (rep z n).length ≤ 1000000 ∧ Q (.str (rep z n)) H) := by
  intro pins s σ H x y v u Q I rx ry h
  obtain ⟨z, n, rfl, rfl, h1, h2, h3, h4, h5, q⟩ := h
  obtain ⟨t, rfl⟩ := rx
  obtain ⟨t', rfl⟩ := ry
  have hb : ¬ n < 1 := by omega
  have hc : (n == 1 || z.length == 0) = false := by
    rw [Bool.or_eq_false_iff]
    exact ⟨beq_eq_false_iff_ne.mpr (by omega), beq_eq_false_iff_ne.mpr (by omega)⟩
  refine PySem.P.mul_str ?_ ?_ ?_ ?_
  · rw [Bool.or_eq_false_iff]
    exact ⟨decide_eq_false (by omega), decide_eq_false (by omega)⟩
  · intro _ _
    have : (1000 : Int) ≤ (2 ^ 63 - 1) / n := by
      refine Int.le_ediv_of_mul_le (by omega) ?_
      have : (1000 : Int) * n ≤ 1000 * 1000 := Int.mul_le_mul_of_nonneg_left h2 (by decide)
      omega
    omega
  · intro _ _
    have hm : z.length * n.toNat ≤ 1000 * 1000 := Nat.mul_le_mul h4 (by omega)
    have hs : sizeLine = 16777216 := rfl
    exact decide_eq_false (by omega)
  · rw [if_neg hb, if_neg (by rw [hc]; decide)]
    exact ⟨Nat.le_trans h5 (by decide), ⟨.str (rep z n), H, I.tok _, ⟨_, rfl⟩, q⟩⟩
theorem mem_cutV {x : V} {xs : List V} {lo hi : Option Int} (h : x ∈ cutV xs lo hi) : x ∈ xs :=
  List.mem_of_mem_drop (List.mem_of_mem_take h)
def Box (H : Hp) (p : Addr) (n : Nat) : Prop := ∃ xs, H p = some (.lst xs) ∧ xs.length ≤ n ∧ ∀ x ∈ xs, Fine H x
theorem Box.same {H H' : Hp} {p : Addr} {n : Nat} (h : Box H p n) (s : Same H H') : Box H' p n := by
  obtain ⟨xs, e, l, f⟩ := h
  exact ⟨xs, s _ _ e, l, fun x hx => (f x hx).same s⟩
section
variable {P : Program} {w : World} {K : PySem.W.Frag} {mg : Str → Option Value} {base : Heap}
def spLaw (K : PySem.W.Frag) (T : Addr) : Sp := fun vs H Q _ => ∃ (a : Addr) (ns : List Int), vs = [.ref a] ∧ SqL K H a (ns.map V.int) ∧
  ns.length ≤ 63 ∧ GxR.TabG H T ∧ ∀ H', Q (.bl true) H'
theorem ok_law {f fI fN fW fT fK T : Addr} {fd fdI fdN fdW fdT fdK : FuncData} (F : Fun K "law" "law" sLaw f fd)
    (GI : FnOk P w K mg base CX0 1 fI fdI ["thing"] (spIsName T)) (kI : PySem.W.keepIn K (.ref fI) = true) (bI : Binds K fdI ["thing"] []) (gI : mg "is_name" = some (.ref fI))
    (GN : FnOk P w K mg base CX0 2 fN fdN ["_law_text_here"] spLawName) (kN : PySem.W.keepIn K (.ref fN) = true) (bN : Binds K fdN ["_law_text_here"] []) (gN : mg "_law_is_name" = some (.ref fN))
    (GW : FnOk P w K mg base CX0 1 fW fdW [] spWords) (kW : PySem.W.keepIn K (.ref fW) = true) (bW : Binds K fdW [] []) (gW : mg "_law_words" = some (.ref fW))
    (GT : FnOk P w K mg base CX0 2 fT fdT ["_law_deck_here"] spText) (kT : PySem.W.keepIn K (.ref fT) = true) (bT : Binds K fdT ["_law_deck_here"] []) (gT : mg "_law_text" = some (.ref fT))
    (GK : FnOk P w K mg base CX0 1 fK fdK ["_law_cell"] spDeck) (kK : PySem.W.keepIn K (.ref fK) = true) (bK : Binds K fdK ["_law_cell"] []) (gK : mg "_law_deck" = some (.ref fK))
    (mi : mg "isinstance" = none) (mb : mg "bool" = none) :
    FnOk P w K mg base CX0 3 f fd ["_law_script"] (spLaw K T) := by
  refine F.ok scLaw (fun vs H Q E h => ?_) (fun cdv A outer s H vs Q E hr h => ?_)
  · obtain ⟨a, n, rfl, _⟩ := h
    rfl
  · obtain ⟨a, ns, rfl, hS, hlen, hG, q⟩ := h
    have hr1 := hr.mono (show 1 ≤ 2 by decide)
    refine ⟨_, pss_cons (ps_set (i := 1) scLaw.nd rfl (.inl rfl) (pe_lst (pa_cons pe_str (pa_cons pe_non (pa_cons pe_int (pa_cons pe_int (pa_cons pe_bl
          (pa_cons (pe_tup pa_nil) (pa_cons (pe_tup (pa_cons pe_str pa_nil)) (pa_cons (pe_lst (pa_cons pe_str pa_nil)) (pa_cons pe_dnewK
          (pa_cons (pe_disp (pps_cons pe_str pe_int pps_nil) (by rfl) (by rfl) (fun z => by cases z) (by decide))
          (pa_cons (pe_op op_repS pe_str pe_int) (pa_cons (pe_op op_repS pe_str pe_int) pa_nil))))))))))))))
      (pss_cons (ps_set (i := 1) scLaw.nd rfl (.inl rfl) (pe_op op_cat (pv 1) (pe_lst (pa_cons pe_str (pa_cons pe_str (pa_cons pe_str (pa_cons pe_str pa_nil)))))))
      (pss_cons (ps_for PassesOwn.never rfl (pi_list (pe_call0 GW hr1 (by rfl) gW kW bW .nil pass0)) (pg_name (i := 2) scLaw.nd rfl (.inl rfl))
        (pss_one (ps_set (i := 1) scLaw.nd rfl (.inl rfl) (pe_op op_cat (pv 1) (pe_lst (pa_cons (pv 2) (pa_cons (pe_slice sl_str (pv 2) po_none (po_some (pe_un un_neg pe_int)))
          (pa_cons (pe_op op_add_str (pv 2) pe_str) (pa_cons (pe_op op_add_str pe_str (pv 2)) (pa_cons (pe_upper (pv 2)) pa_nil))))))))))
      (pss_cons (ps_set (i := 1) scLaw.nd rfl (.inl rfl) (pe_op op_cat (pv 1)
        (pe_lc (own := [("_law_cell", 5)]) (g := gName 5) (by rfl) scLaw.nd
          (pi_list (pe_op op_cat (pe_slice sl_list (pv 0) po_none (po_some pe_int)) (pe_lst (pa_cons pe_int pa_nil))))
          (blkOk_by (own := [("_law_cell", 5)]) (N := ["_law_script", "_law_some", "_law_word", "_law_thing", "_law_found", "_law_cell"]) (sc := defScope sLaw) (by decide +kernel))
          (fun _ _ _ _ _ => pg_name (i := 5) scLaw.nd rfl (Or.inl rfl))
          (fun _ _ _ _ _ => pts_nil)
          (fun _ _ _ _ _ => pe_call GT hr (by rfl) gT kT bT .nil pass0 (pa_cons (pe_call GK hr1 (by rfl) gK kK bK .nil pass0 (pa_cons (pv 5) pa_nil)) pa_nil)))))
      (pss_cons (ps_for PassesOwn.never rfl (pi_list (pv 1)) (pg_name (i := 3) scLaw.nd rfl (.inl rfl))
        (pss_cons (ps_set (i := 4) scLaw.nd rfl (.inl rfl) (pe_call GI hr1 (by rfl) gI kI bI .nil pass0 (pa_cons (pv 3) pa_nil)))
        (pss_one (ps_if (PW.pt (pw_or (pt_not (pt_val (pe_callB call_isi (by rfl) mi (by decide +kernel)
            (pa_cons (pv 4) (pa_cons (pe_bltn (v := .ty "bool") (by rfl) mb (by decide +kernel) rfl) pa_nil)))))
          (pw_or1 (pt_cmpR op_ne (pv 4) (pe_call GN hr (by rfl) gN kN bN .nil pass0 (pa_cons (pv 3) pa_nil)) (nomark _)))))
          (pss_one (ps_ret pe_bl)) pss_nil))))
      (pss_one (ps_ret pe_bl)))))), ?_⟩
    -- the written things
    refine ⟨Nat.zero_le _, fun t1 n1 => ?_⟩
    refine ⟨(show 1 ≤ sizeLine by decide), fun t2 n2 => ?_⟩
    refine ⟨(show 1 ≤ sizeLine by decide), fun l3 n3 => ?_⟩
    refine fun d4 n4 => ?_
    refine fun d5 n5 => ?_
    refine ⟨upd_same, [(.inr "a", .int 1)], rfl, by decide, ?_⟩
    rw [upd_upd]
    refine ⟨"a", 8, rfl, rfl, by decide, by decide, by decide +kernel, by decide +kernel, by decide +kernel, ?_⟩
    refine ⟨"a", 9, rfl, rfl, by decide, by decide, by decide +kernel, by decide +kernel, by decide +kernel, ?_⟩
    refine ⟨(show 12 ≤ sizeLine by decide), fun p6 n6 => ?_⟩
    have s1 := same_new (o := .tup []) n1
    have s2 := same_new (o := .tup [.str "a"]) n2
    have s3 := same_new (o := .lst [.str "a"]) n3
    have s4 := same_new (o := .dK []) n4
    have s5 := same_new (o := .dK (mergeK [] [(.inr "a", .int 1)])) n5
    have s6 := same_new (o := .lst [.str "", .non, .int 0, .int 1, .bl true, .ref t1, .ref t2, .ref l3, .ref d4, .ref d5, .str (rep "a" 8), .str (rep "a" 9)]) n6
    have e1 := (s2.trans (s3.trans (s4.trans (s5.trans s6)))) t1 _ upd_same
    have e2 := (s3.trans (s4.trans (s5.trans s6))) t2 _ upd_same
    have e3 := (s4.trans (s5.trans s6)) l3 _ upd_same
    have e4 := (s5.trans s6) d4 _ upd_same
    have e5 := s6 d5 _ upd_same
    have box : Box (upd (upd (upd (upd (upd (upd H t1 (.tup [])) t2 (.tup [.str "a"])) l3 (.lst [.str "a"])) d4 (.dK [])) d5 (.dK (mergeK [] [(.inr "a", .int 1)]))) p6 (.lst [.str "", .non, .int 0, .int 1, .bl true, .ref t1, .ref t2, .ref l3, .ref d4, .ref d5, .str (rep "a" 8), .str (rep "a" 9)])) p6 12 := by
      refine ⟨_, upd_same, Nat.le_refl _, fun x hx => ?_⟩
      simp only [List.mem_cons, List.not_mem_nil, or_false] at hx
      rcases hx with rfl | rfl | rfl | rfl | rfl | rfl | rfl | rfl | rfl | rfl | rfl | rfl
      · exact fineB (by decide +kernel)
      · exact .inr (.inl rfl)
      · exact .inr (.inr (.inr (.inl ⟨_, rfl⟩)))
      · exact .inr (.inr (.inr (.inl ⟨_, rfl⟩)))
      · exact .inr (.inr (.inl ⟨_, rfl⟩))
      · exact .inr (.inr (.inr (.inr ⟨_, rfl, .inl ⟨_, e1⟩⟩)))
      · exact .inr (.inr (.inr (.inr ⟨_, rfl, .inl ⟨_, e2⟩⟩)))
      · exact .inr (.inr (.inr (.inr ⟨_, rfl, .inr (.inl ⟨_, e3⟩)⟩)))
      · exact .inr (.inr (.inr (.inr ⟨_, rfl, .inr (.inr ⟨_, e4⟩)⟩)))
      · exact .inr (.inr (.inr (.inr ⟨_, rfl, .inr (.inr ⟨_, e5⟩)⟩)))
      · exact fineB (by decide +kernel)
      · exact fineB (by decide +kernel)
    have sA := s1.trans (s2.trans (s3.trans (s4.trans (s5.trans s6))))
    generalize upd (upd (upd (upd (upd (upd H t1 (.tup [])) t2 (.tup [.str "a"])) l3 (.lst [.str "a"])) d4 (.dK [])) d5 (.dK (mergeK [] [(.inr "a", .int 1)]))) p6 (.lst [.str "", .non, .int 0, .int 1, .bl true, .ref t1, .ref t2, .ref l3, .ref d4, .ref d5, .str (rep "a" 8), .str (rep "a" 9)]) = HA at *
    clear e1 e2 e3 e4 e5 s1 s2 s3 s4 s5 s6 n1 n2 n3 n4 n5 n6
    -- some = some + [..]
    refine ⟨.ref p6, rfl, (show 4 ≤ sizeLine by decide), fun l7 n7 => ?_⟩
    obtain ⟨x6, h6, z6, f6⟩ := box.same (same_new (o := .lst [.str "holds", .str "behind", .str "cast", .str "first"]) n7)
    refine ⟨p6, l7, _, _, rfl, rfl, h6, upd_same, small (show x6.length + 4 ≤ 1000 by omega), fun p8 n8 => ?_⟩
    have sB := (same_new (o := .lst [.str "holds", .str "behind", .str "cast", .str "first"]) n7).trans (same_new (o := .lst (x6 ++ [.str "holds", .str "behind", .str "cast", .str "first"])) n8)
    have box8 : Box (upd (upd HA l7 (.lst [.str "holds", .str "behind", .str "cast", .str "first"])) p8 (.lst (x6 ++ [.str "holds", .str "behind", .str "cast", .str "first"]))) p8 16 := by
      refine ⟨_, upd_same, by rw [List.length_append]; exact Nat.add_le_add z6 (Nat.le_refl 4), fun x hx => ?_⟩
      rcases List.mem_append.mp hx with hx | hx
      · exact (f6 x hx).same (same_new n8)
      · simp only [List.mem_cons, List.not_mem_nil, or_false] at hx
        rcases hx with rfl | rfl | rfl | rfl <;> exact fineB (by decide +kernel)
    have sC := sA.trans sB
    generalize upd (upd HA l7 (.lst [.str "holds", .str "behind", .str "cast", .str "first"])) p8 (.lst (x6 ++ [.str "holds", .str "behind", .str "cast", .str "first"])) = HB at *
    -- for word in words()
    refine ⟨rfl, fun pw nw => ⟨pw, rfl, ⟨_, SqL.of upd_same⟩, ?_⟩⟩
    refine for_list (K := K) (a := pw) (xs := W.map V.str) (fun i σ Hc => ∃ p y2, σ = [some (.ref a), some (.ref p), y2, none, none, none] ∧
      Same H Hc ∧ Hc pw = some (.lst (W.map V.str)) ∧ Box Hc p (16 + 5 * i)) ?_ ?_ ?_ ?_
    · exact ⟨p8, none, rfl, sC.trans (same_new nw), upd_same, box8.same (same_new nw)⟩
    · intro i σ Hc _ hP
      obtain ⟨p, y2, _, _, e, _⟩ := hP
      exact SqL.of e
    · intro i x σ Hc hx hP
      obtain ⟨p, y2, rfl, sm, ew, bx⟩ := hP
      obtain ⟨w0, hw0, rfl⟩ := List.mem_map.mp (List.mem_of_getElem? hx)
      have hiW : i < 34 := by
        have h1 := (List.getElem?_eq_some_iff.mp hx).1
        have h2 : (W.map V.str).length = 34 := by decide +kernel
        omega
      obtain ⟨wk, wl⟩ := word_ok hw0
      refine ⟨.ref p, rfl, .str w0, rfl, ?_⟩
      refine ⟨.str w0, rfl, 1, rfl, -1, rfl, w0, rfl, small (by omega), ?_⟩
      refine ⟨.str w0, rfl, w0, "s", rfl, rfl, small (show w0.length + 1 ≤ 1000 by omega), ?_⟩
      refine ⟨.str w0, rfl, "s", w0, rfl, rfl, small (show 1 + w0.length ≤ 1000 by omega), ?_⟩
      refine ⟨.str w0, rfl, ⟨_, rfl⟩, w0, rfl, rfl, by omega, ?_⟩
      refine ⟨(show 5 ≤ sizeLine by decide), fun l nl => ?_⟩
      obtain ⟨xs, hp, zl, ff⟩ := bx.same (same_new (o := .lst ((some5 w0).map V.str)) nl)
      refine ⟨p, l, xs, (some5 w0).map V.str, rfl, rfl, hp, upd_same, small (show xs.length + 5 ≤ 1000 by omega), fun p' np' => ?_⟩
      have sT := (same_new (o := .lst ((some5 w0).map V.str)) nl).trans (same_new (o := .lst (xs ++ (some5 w0).map V.str)) np')
      refine ⟨p', some (.str w0), rfl, sm.trans sT, sT _ _ ew, _, upd_same, ?_, fun x hx => ?_⟩
      · rw [List.length_append]
        show xs.length + 5 ≤ _
        omega
      · rcases List.mem_append.mp hx with hx | hx
        · exact (ff x hx).same (same_new np')
        · obtain ⟨z, hz, rfl⟩ := List.mem_map.mp hx
          exact fineB (wk z hz)
    · intro σ Hc hP
      obtain ⟨p, y2, rfl, sm, _, bx⟩ := hP
      have hW : (W.map V.str).length = 34 := by decide +kernel
      rw [hW] at bx
      -- some = some + [text(deck(cell)) for cell in script[:40] + [5]]
      refine ⟨.ref p, rfl, .ref a, rfl, 40, rfl, a, _, rfl, sm.seq hS, fun c1 nc1 => ?_⟩
      refine ⟨(show 1 ≤ sizeLine by decide), fun c2 nc2 => ?_⟩
      have sc := same_new (o := .lst [.int 5]) nc2
      have cl := cutV_length (ns.map V.int) none (some 40)
      rw [List.length_map] at cl
      refine ⟨c1, c2, _, _, rfl, rfl, sc _ _ upd_same, upd_same, small (show (cutV (ns.map V.int) none (some 40)).length + 1 ≤ 1000 by omega), fun c3 nc3 => ⟨c3, rfl, ⟨_, SqL.of upd_same⟩, fun D nD => ?_⟩⟩
      have sD := (same_new (o := .lst (cutV (ns.map V.int) none (some 40))) nc1).trans (sc.trans (same_new (o := .lst (cutV (ns.map V.int) none (some 40) ++ [.int 5])) nc3))
      have ec3 : upd (upd (upd Hc c1 (.lst (cutV (ns.map V.int) none (some 40)))) c2 (.lst [.int 5])) c3 (.lst (cutV (ns.map V.int) none (some 40) ++ [.int 5])) c3 = some (.lst (cutV (ns.map V.int) none (some 40) ++ [.int 5])) := upd_same
      generalize upd (upd (upd Hc c1 (.lst (cutV (ns.map V.int) none (some 40)))) c2 (.lst [.int 5])) c3 (.lst (cutV (ns.map V.int) none (some 40) ++ [.int 5])) = HC at *
      have hint : ∀ x ∈ cutV (ns.map V.int) none (some 40) ++ [V.int 5], ∃ n, x = .int n := fun x hx => by
        rcases List.mem_append.mp hx with hx | hx
        · obtain ⟨n, _, e⟩ := List.mem_map.mp (mem_cutV hx)
          exact ⟨n, e.symm⟩
        · exact ⟨5, by simpa using hx⟩
      have hcl : (cutV (ns.map V.int) none (some 40) ++ [V.int 5]).length ≤ 64 := by
        rw [List.length_append]
        show _ + 1 ≤ 64
        omega
      generalize cutV (ns.map V.int) none (some 40) ++ [V.int 5] = CL at *
      refine lc_list (K := K) (a := c3) (xs := CL) (fun i Hx => ∃ zs : List Str, zs.length = i ∧ (∀ z ∈ zs, z.length ≤ 30 ∧ Asc z) ∧
        Hx D = some (.lst (zs.map V.str)) ∧ Same HC Hx) ?_ ?_ ?_ ?_
      · exact ⟨[], rfl, fun z hz => (by cases hz), upd_same, same_new nD⟩
      · intro i Hx _ hP
        obtain ⟨zs, _, _, _, sx⟩ := hP
        exact SqL.of (sx _ _ ec3)
      · intro i x Hx hx hP
        obtain ⟨zs, zl, zk, eD, sx⟩ := hP
        obtain ⟨n, rfl⟩ := hint x (List.mem_of_getElem? hx)
        have hi := (List.getElem?_eq_some_iff.mp hx).1
        refine ⟨rfl, ?_⟩
        refine ⟨.int n, rfl, n, rfl, fun d H1 nd b1 k1 => ?_⟩
        refine ⟨d, rfl, k1, fun z H2 lz az sb => ?_⟩
        have sm2 : Same Hx H2 := fun b o e => sb b o (ne_of_none e nd) ((b1 b (ne_of_none e nd)).trans e)
        refine ⟨_, sm2 _ _ eD, small1000 (by rw [List.length_map]; omega), zs ++ [z], by simp [zl], fun y hy => ?_, ?_, fun b o e => ?_⟩
        · rcases List.mem_append.mp hy with hy | hy
          · exact zk y hy
          · have ey : y = z := by simpa using hy
            rw [ey]
            exact ⟨lz, az⟩
        · rw [upd_same, List.map_append]
          rfl
        · rw [upd_ne (ne_of_none e nD)]
          exact sm2 _ _ (sx _ _ e)
      · intro Hx hP
        obtain ⟨zs, zl, zk, eD, sx⟩ := hP
        have sm3 := sm.trans (sD.trans sx)
        obtain ⟨xs, hp, xl, ff⟩ := bx.same (sD.trans sx)
        refine ⟨p, D, xs, zs.map V.str, rfl, rfl, hp, eD, small (by rw [List.length_map]; omega), fun p9 n9 => ?_⟩
        have s9 := same_new (o := .lst (xs ++ zs.map V.str)) n9
        have sm4 := sm3.trans s9
        have hG9 : GxR.TabG (upd Hx p9 (.lst (xs ++ zs.map V.str))) T := by
          obtain ⟨ps, e, tr⟩ := hG
          exact ⟨ps, sm4 _ _ e, tr⟩
        have hf9 : ∀ x ∈ xs ++ zs.map V.str, Fine (upd Hx p9 (.lst (xs ++ zs.map V.str))) x := fun x hx => by
          rcases List.mem_append.mp hx with hx | hx
          · exact (ff x hx).same s9
          · obtain ⟨z, hz, rfl⟩ := List.mem_map.mp hx
            exact .inl ⟨z, rfl, Nat.le_trans (zk z hz).1 (by decide), (zk z hz).2⟩
        have e9 : upd Hx p9 (.lst (xs ++ zs.map V.str)) p9 = some (.lst (xs ++ zs.map V.str)) := upd_same
        generalize upd Hx p9 (.lst (xs ++ zs.map V.str)) = H9 at *
        generalize xs ++ zs.map V.str = XS at *
        -- the last loop
        refine ⟨.ref p9, rfl, p9, rfl, ⟨_, SqL.of e9⟩, ?_⟩
        refine for_list (K := K) (a := p9) (xs := XS) (fun i σ Hy => ∃ y3 y4, σ = [some (.ref a), some (.ref p9), y2, y3, y4, none] ∧
          Hy p9 = some (.lst XS) ∧ GxR.TabG Hy T ∧ ∀ x ∈ XS, Fine Hy x) ?_ ?_ ?_ ?_
        · exact ⟨none, none, rfl, e9, hG9, hf9⟩
        · intro i σ Hy _ hP
          obtain ⟨_, _, _, e, _⟩ := hP
          exact SqL.of e
        · intro i x σ Hy hx hP
          obtain ⟨y3, y4, rfl, ey, gy, fy⟩ := hP
          have hxm := List.mem_of_getElem? hx
          refine ⟨x, rfl, x, rfl, fy x hxm, gy, fun H1 fr => ?_⟩
          refine ⟨.bl (nameV x), rfl, .bl (nameV x), .ty "bool", _, _, true, rfl, .ty _, .base (.bl _), kit_ty (by decide +kernel), true, rfl, ?_⟩
          refine ⟨.bl (nameV x), rfl, x, rfl, x, rfl, (fy x hxm).fr gy fr, fun H2 s2 => ?_⟩
          refine ⟨rfl, _, rfl, iteNS rfl ?_⟩
          have np : p9 ≠ T := by
            obtain ⟨ps, eT, _⟩ := gy
            exact ne_of ey eT (fun z => nomatch z)
          refine ⟨some x, some (.bl (nameV x)), rfl, s2 _ _ (fr.2 _ _ np ey), ?_, fun u hu => ((fy u hu).fr gy fr).same s2⟩
          obtain ⟨ps, eT, tr⟩ := fr.1
          exact ⟨ps, s2 _ _ eT, tr⟩
        · intro σ Hy hP
          exact q Hy
end
end My
namespace My
open PySem PySem.Spec PyProof.Rows L2
/-- every def of the view has an empty table -/
def Tabs (q : Program) (K : PySem.W.Frag) (mg : Str → Option Value) (h : Heap) : Prop :=
  ∀ (y : Str) (f : Addr), ((recsOf q).any fun e => e.name == y) = true → mg y = some (.ref f) → LamX.OwnTab K f h
theorem walk_tabs {l : PySem.W.OpenLaw} {n k : Nat} {q : Program} {loose : List Str}
    {XP : (Str → Option Value) → Heap → Prop} {YP : World → Heap → Prop} {d : DefRec}
    {K : Params → PySem.W.Frag} {CX : World → CXT} {x : Str}
    (hn : l.most = some n) (hn2 : n ≤ sizeLine) (hdf : d.params.defaults = []) (hr : Room k callerA)
    (hY : ∀ (w : World) (h : Heap), YP w h → (K w.params).In h)
    (F : ∀ (w : World) (mg : Str → Option Value) (fa : Addr) (h : Heap), YP w h →
      (K w.params).In h → h.Ns mainGlobals mg → mg d.name = some (.ref fa) →
      Tabs q (K w.params) mg h → LamX.LawAtS l w (K w.params) (CX w) k n x mg fa h)
    (hCX : ∀ (w : World) (H : Hp) (s : Shared) (e : Value) (s' : Shared),
      CX w [] H s (fun _ _ _ => False) e s' → False) :
    PySem.W.WalkO q loose XP YP l.row.toRowW d [] (fun f vs => PySem.call f vs) := by
  refine Att.attach_callB hn hdf
    fun w s₀ s₁ mg mb fa o pm cd doc a vs ns G Y ho hd hcd hmg hobj hints hlen hbits hg => ?_
  have kin := hY w _ Y
  have tabs : Tabs q (K w.params) mg s₁.heap := by
    intro y f hy hf c T o1 fd1 e dd vs1 sl k1 k2 k3 k4 k5
    obtain ⟨dl, hm, hq⟩ := List.any_eq_true.mp hy
    have hq2 : dl.name = y := beq_iff_eq.mp hq
    obtain ⟨a', o', fd', c', T', h1, h2, h3, h4, h5, h6⟩ := G.T.tab dl hm
    rw [hq2, hf] at h1
    cases h1
    have g1 := kin _ _ k1
    rw [g1] at h2
    cases h2
    rw [k2] at h3
    cases h3
    rw [k3] at h4
    cases h4
    obtain ⟨⟨oc, vc, u1, _, u3, u4⟩, hT⟩ := h6
    have g2 := kin _ _ k4
    rw [g2] at u1
    cases u1
    cases u3
    rw [k5] at u4
    cases u4
    exact hT
  obtain ⟨fd, cs, sp, hT, nT, C, hb, hsp, hF⟩ := F w mg fa _ Y kin G.T.g hmg tabs
  exact LamX.law_callTs kin G.T.g G.T.b G.T.builtins G.T.nolimit hg hT nT C
    G.T.bmain hobj hints (Nat.le_trans hlen hn2) hr hF hb
    (fun H hH hS => hsp H a ns hlen hbits hH hS) fun H e s' => hCX w H s₁ e s'

theorem all_mk {q : Program} {l : PySem.W.OpenLaw} {w : World} {K : PySem.W.Frag} {h : Heap} {mg : Str → Option Value}
    {fa fI fK fD fW fN fV fT fL c T tw : Addr} (X : K.In h) (G : h.Ns mainGlobals mg) (hfa : mg "law" = some (.ref fa)) (tabs : Tabs q K mg h)
    (hq : ((recsOf q).any fun e => e.name == "is_name") = true)
    {odI anI odK anK odD anD odW anW odN anN odV anV odT anT odL anL odC odX : Option Addr}
    {slI slK slD slW slN slV slT slL slC slX : Array (Option Value)}
    {ocI kVI dcI pmI ctI ocK kVK dcK pmK cdK ctK ocD kVD dcD pmD cdD ctD ocW kVW dcW pmW cdW ctW : Value}
    {ocN kVN dcN pmN cdN ctN ocV kVV dcV pmV cdV ctV ocT kVT dcT pmT cdT ctT ocL kVL dcL pmL cdL ctL : Value}
    {lt tf tg tt : Tok} {vs its : Array Value} {nX : Nat} {file : Str} {flags text : Int} {inF : Bool}
    (aI : PySem.W.nsIn K mainGlobals "is_name" = some (some (.ref fI))) (lI : K.lookup fI = some ⟨ocI, odI, .func (PySem.W.fnOf "is_name" "is_name" (defArgs sIsName) (defBody sIsName) (defScope sIsName) .none kVI dcI pmI anI (.ref c) ctI), slI⟩) (cI : PySem.W.codeIn K (.ref c) "is_name" = true) (kI : PySem.W.keepIn K (.ref fI) = true)
    (aK : PySem.W.nsIn K mainGlobals "_law_deck" = some (some (.ref fK))) (lK : K.lookup fK = some ⟨ocK, odK, .func (PySem.W.fnOf "_law_deck" "_law_deck" (defArgs sDeck) (defBody sDeck) (defScope sDeck) .none kVK dcK pmK anK cdK ctK), slK⟩) (cK : PySem.W.codeIn K cdK "_law_deck" = true) (kK : PySem.W.keepIn K (.ref fK) = true)
    (aD : PySem.W.nsIn K mainGlobals "_law_draw" = some (some (.ref fD))) (lD : K.lookup fD = some ⟨ocD, odD, .func (PySem.W.fnOf "_law_draw" "_law_draw" (defArgs sDraw) (defBody sDraw) (defScope sDraw) .none kVD dcD pmD anD cdD ctD), slD⟩) (cD : PySem.W.codeIn K cdD "_law_draw" = true) (kD : PySem.W.keepIn K (.ref fD) = true)
    (aW : PySem.W.nsIn K mainGlobals "_law_is_word" = some (some (.ref fW))) (lW : K.lookup fW = some ⟨ocW, odW, .func (PySem.W.fnOf "_law_is_word" "_law_is_word" (defArgs sIsWord) (defBody sIsWord) (defScope sIsWord) .none kVW dcW pmW anW cdW ctW), slW⟩) (cW : PySem.W.codeIn K cdW "_law_is_word" = true) (kW : PySem.W.keepIn K (.ref fW) = true)
    (aN : PySem.W.nsIn K mainGlobals "_law_is_name" = some (some (.ref fN))) (lN : K.lookup fN = some ⟨ocN, odN, .func (PySem.W.fnOf "_law_is_name" "_law_is_name" (defArgs sLawName) (defBody sLawName) (defScope sLawName) .none kVN dcN pmN anN cdN ctN), slN⟩) (cN : PySem.W.codeIn K cdN "_law_is_name" = true) (kN : PySem.W.keepIn K (.ref fN) = true)
    (aV : PySem.W.nsIn K mainGlobals "_law_words" = some (some (.ref fV))) (lV : K.lookup fV = some ⟨ocV, odV, .func (PySem.W.fnOf "_law_words" "_law_words" (defArgs sWords) (defBody sWords) (defScope sWords) .none kVV dcV pmV anV cdV ctV), slV⟩) (cV : PySem.W.codeIn K cdV "_law_words" = true) (kV : PySem.W.keepIn K (.ref fV) = true)
    (aT : PySem.W.nsIn K mainGlobals "_law_text" = some (some (.ref fT))) (lT : K.lookup fT = some ⟨ocT, odT, .func (PySem.W.fnOf "_law_text" "_law_text" (defArgs sText) (defBody sText) (defScope sText) .none kVT dcT pmT anT cdT ctT), slT⟩) (cT : PySem.W.codeIn K cdT "_law_text" = true) (kT : PySem.W.keepIn K (.ref fT) = true)
    (aL : PySem.W.nsIn K mainGlobals "law" = some (some (.ref fL))) (lL : K.lookup fL = some ⟨ocL, odL, .func (PySem.W.fnOf "law" "law" (defArgs sLaw) (defBody sLaw) (defScope sLaw) .none kVL dcL pmL anL cdL ctL), slL⟩) (cL : PySem.W.codeIn K cdL "law" = true) (kL : PySem.W.keepIn K (.ref fL) = true)
    (lC : K.lookup c = some ⟨.type "code", odC, .fields vs, slC⟩) (e11 : vs[11]? = some (.ref T)) (e18 : vs.getD 18 .none = .str file tf)
    (e7 : vs.getD 7 .none = .int flags tg) (e9 : vs.getD 9 .none = .bool inF) (e10 : vs.getD 10 .none = .int text tt) (ne : c ≠ T) (nT : K.lookup T = none)
    (aX : PySem.W.nsIn K mainGlobals "WORDS" = some (some (.ref tw))) (lX : K.lookup tw = some ⟨.type "tuple", odX, .seq its nX, slX⟩) (vX : Vals (W.map V.str) its.toList)
    (aY : PySem.W.nsIn K mainGlobals "LONGEST_NAME" = some (some (.int 8 lt)))
    (z1 : PySem.W.nsIn K mainGlobals "len" = some none) (z2 : PySem.W.nsIn K mainGlobals "isinstance" = some none)
    (z3 : PySem.W.nsIn K mainGlobals "str" = some none) (z4 : PySem.W.nsIn K mainGlobals "all" = some none)
    (z5 : PySem.W.nsIn K mainGlobals "range" = some none) (z6 : PySem.W.nsIn K mainGlobals "bool" = some none) :
    LamX.LawAtS l w K CX0 3 63 "_law_script" mg fa h := by
  have e := hfa.symm.trans (PySem.W.mg_of X G aL)
  cases e
  have FK := fun_mk (st := sDeck) lK cK kK
  have FD := fun_mk (st := sDraw) lD cD kD
  have FW := fun_mk (st := sIsWord) lW cW kW
  have FN := fun_mk (st := sLawName) lN cN kN
  have FV := fun_mk (st := sWords) lV cV kV
  have FT := fun_mk (st := sText) lT cT kT
  have FL := fun_mk (st := sLaw) lL cL kL
  have FI := fun_mk (st := sIsName) lI cI kI
  have bI := FI.binds (ps := ["thing"]) fun _ _ _ _ _ _ us hl => match us, hl with | [_], _ => rfl
  have bK := FK.binds (ps := ["_law_cell"]) fun _ _ _ _ _ _ us hl => match us, hl with | [_], _ => rfl
  have bD := FD.binds (ps := ["_law_deck_here", "_law_most"]) fun _ _ _ _ _ _ us hl => match us, hl with | [_, _], _ => rfl
  have bW := FW.binds (ps := ["_law_text_here"]) fun _ _ _ _ _ _ us hl => match us, hl with | [_], _ => rfl
  have bN := FN.binds (ps := ["_law_text_here"]) fun _ _ _ _ _ _ us hl => match us, hl with | [_], _ => rfl
  have bV := FV.binds (ps := []) fun _ _ _ _ _ _ us hl => match us, hl with | [], _ => rfl
  have bT := FT.binds (ps := ["_law_deck_here"]) fun _ _ _ _ _ _ us hl => match us, hl with | [_], _ => rfl
  have m1 := PySem.W.mg_none_of X G z1
  have m2 := PySem.W.mg_none_of X G z2
  have m3 := PySem.W.mg_none_of X G z3
  have m4 := PySem.W.mg_none_of X G z4
  have m5 := PySem.W.mg_none_of X G z5
  have m6 := PySem.W.mg_none_of X G z6
  have tab := tabs "is_name" fI hq (PySem.W.mg_of X G aI) c T _ _ _ _ _ _ lI rfl rfl lC e11
  have hc := X _ _ lC
  have hcode : PySem.W.CodeHd h c T := ⟨_, vs, file, tf, flags, tg, inF, text, tt, hc, rfl, rfl, e11,
    by rw [Array.getD_eq_getD_getElem?, e11]; rfl, e18, e7, e9, e10, ne⟩
  refine ⟨PySem.W.fnOf "law" "law" (defArgs sLaw) (defBody sLaw) (defScope sLaw) .none kVL dcL pmL anL cdL ctL, [(c, T)], spLaw K T, ?_, ?_, ?_, fun s v => .of_eq rfl, ?_, ?_⟩
  · intro p hp
    cases List.mem_singleton.mp hp
    exact tab
  · intro p hp
    cases List.mem_singleton.mp hp
    exact nT
  · intro p hp
    cases List.mem_singleton.mp hp
    exact hcode
  · intro H a ns hl _ hH hS
    exact ⟨a, ns, rfl, hS, hl, ⟨#[], hH (c, T) List.mem_cons_self, trivial⟩, fun _ => rfl⟩
  · intro base _ _ hB
    have TB := hB (c, T) List.mem_cons_self
    have hTw : ∀ H : Hp, SqT K H tw (W.map V.str) := fun H => .inr ⟨_, its, nX, lX, rfl, rfl, by
      have e := Vals.length vX
      have e2 : its.toList.length = its.size := Array.length_toList
      have e3 : (W.map V.str).length = 34 := by decide +kernel
      have e4 : 34 ≤ sizeLine := by decide
      omega, vX⟩
    exact ok_law FL (ok_isName lI cI ⟨TB.code, TB.bm, TB.gP⟩ (PySem.W.mg_of X G aY) (PySem.W.mg_of X G aX) hTw m2 m3 m1 m4) kI bI (PySem.W.mg_of X G aI)
      (ok_lawName FN FW bW (PySem.W.mg_of X G aW) m2 m3 m1) kN bN (PySem.W.mg_of X G aN)
      (ok_words FV) kV bV (PySem.W.mg_of X G aV) (ok_text FT FD bD (PySem.W.mg_of X G aD) m5 m1) kT bT (PySem.W.mg_of X G aT)
      (ok_deck FK) kK bK (PySem.W.mg_of X G aK) m2 m6
end My
open PySem PySem.W PyProof.Rows
set_option maxHeartbeats 0 in
theorem PySem.Challenge.cw_eachplace_k01_what_is_a_name_holds : PySem.Challenge.rw_eachplace_k01_what_is_a_name.Holds := by
  w_on; o_law; k_head; (case hw => w_witness2)
  k_fill
  refine My.walk_tabs (l := PySem.Challenge.rw_eachplace_k01_what_is_a_name) (n := 63) (k := 3) (x := "_law_script") (CX := fun _ => L2.CX0) rfl (by decide) rfl ⟨rfl, by decide, by decide⟩ (fun w h Y => PySem.W.kIn_of Y) ?F (fun _ _ _ _ _ h => h)
  case F =>
    intro w mg fa h Y KX G hmg tabs
    refine' My.all_mk KX G hmg tabs ?hq ?aI ?lI ?cI ?kI ?aK ?lK ?cK ?kK ?aD ?lD ?cD ?kD ?aW ?lW ?cW ?kW ?aN ?lN ?cN ?kN ?aV ?lV ?cV ?kV ?aT ?lT ?cT ?kT ?aL ?lL ?cL ?kL ?lC ?e11 ?e18 ?e7 ?e9 ?e10 ?ne ?nT ?aX ?lX ?vX ?aY ?z1 ?z2 ?z3 ?z4 ?z5 ?z6
    (case hq => decide +kernel)
    (case aI => k_is); (case lI => k_is); (case cI => k_is); (case kI => k_is)
    (case aK => k_is); (case lK => k_is); (case cK => k_is); (case kK => k_is)
    (case aD => k_is); (case lD => k_is); (case cD => k_is); (case kD => k_is)
    (case aW => k_is); (case lW => k_is); (case cW => k_is); (case kW => k_is)
    (case aN => k_is); (case lN => k_is); (case cN => k_is); (case kN => k_is)
    (case aV => k_is); (case lV => k_is); (case cV => k_is); (case kV => k_is)
    (case aT => k_is); (case lT => k_is); (case cT => k_is); (case kT => k_is)
    (case aL => k_is); (case lL => k_is); (case cL => k_is); (case kL => k_is)
    (case lC => k_is)
    (case e11 => exact rfl); (case e18 => exact rfl); (case e7 => exact rfl); (case e9 => exact rfl); (case e10 => exact rfl)
    (case ne => decide)
    (case nT => exact rfl)
    (case aX => k_is); (case lX => k_is)
    (case vX => repeat (first | exact .nil | refine .cons ⟨_, rfl⟩ ?_))
    (case aY => k_is); (case z1 => k_is); (case z2 => k_is); (case z3 => k_is); (case z4 => k_is); (case z5 => k_is); (case z6 => k_is)
