import PyProof.Rows.All
import Wide.All
import OpenK.AllK
import Wide.FinOn
import HandS.ForMost
import HandS.ForExc
import HandS.TupAny
import HandS.IsInst
import HandS.OwnEq
import HandS.ExcInit
import HandS.WordsExc
import KE.KExcIs
import HandS.ExcIs
import HandS.ExcField
import HandS.TupMul
import PySem.Challenge.RW_rateplan_k02_talks_cut_and_joined
set_option Elab.async false
set_option linter.all false
set_option maxRecDepth 100000
set_option maxHeartbeats 4000000
namespace Rp
open PySem PySem.Spec PyProof.Rows L2
abbrev topS (i : Nat) : Stmt := PySem.Challenge.pw_rateplan_k02_talks_cut_and_joined.main.body.getD i (.Pass ⟨0, 0, 0, 0⟩)
abbrev sTake : Stmt := topS 11
theorem scTake : FnScope ["_law_well_here", "_law_top", "_law_digit", "_law_number"] ["_law_well_here", "_law_top"] (defScope sTake) :=
  ⟨rfl, rfl, rfl, by decide +kernel, rfl, by decide +kernel, by decide +kernel⟩

/-- the well: three whole numbers in a list -/
def Well (H : Hp) (w : Addr) : Prop := ∃ c0 c1 c2 : Int, H w = some (.lst [.int c0, .int c1, .int c2])
/-- all but the object at w stands -/
def But (w : Addr) (H H' : Hp) : Prop := ∀ b o, b ≠ w → H b = some o → H' b = some o
theorem But.refl (w : Addr) (H : Hp) : But w H H := fun _ _ _ h => h
theorem But.trans {w : Addr} {H H1 H2 : Hp} (a : But w H H1) (b : But w H1 H2) : But w H H2 := fun c o n h => b c o n (a c o n h)
theorem But.upd {w : Addr} {H : Hp} {o : HO} : But w H (upd H w o) := fun b u n h => by rw [upd_ne n]; exact h

def spTake : Sp := fun vs H Q _ => ∃ (w : Addr) (c0 c1 c2 top : Int), vs = [.ref w, .int top] ∧ H w = some (.lst [.int c0, .int c1, .int c2]) ∧ 1 ≤ top ∧ top < 1000000 ∧
  ∀ d c0' c2' : Int, 0 ≤ d → d < top → Q (.int d) (upd H w (.lst [.int c0', .int c1, .int c2']))

section
variable {P : Program} {w : World} {K : PySem.W.Frag} {mg : Str → Option Value} {base : Heap}
theorem ok_take {f : Addr} {fd : FuncData} (F : Fun K "_law_take" "_law_take" sTake f fd) : FnOk P w K mg base CX0 1 f fd ["_law_well_here", "_law_top"] spTake := by
  refine F.ok scTake (fun vs H Q E h => ?_) (fun cdv A outer s H vs Q E hr h => ?_)
  · obtain ⟨_, _, _, _, _, rfl, _⟩ := h
    rfl
  · have nd := scTake.nd
    refine ⟨_, pss_cons (ps_if (pt_cmpR op_gt (pe_ix ix_list (pv 0) pe_int (fun _ _ => rfl)) pe_int (nomark _))
        (pss_cons (ps_set (i := 2) nd rfl (Or.inl rfl) (pe_op op_mod (pe_ix ix_list (pv 0) pe_int (fun _ _ => rfl)) (pv 1)))
          (pss_cons (ps_asg (pe_op op_fdiv (pe_ix ix_list (pv 0) pe_int (fun _ _ => rfl)) (pv 1)) (pg_sub (pv 0) pe_int set_list))
            (pss_one (ps_ret (pv 2))))) pss_nil)
      (pss_cons (ps_asg (pe_op op_add (pe_ix ix_list (pv 0) pe_int (fun _ _ => rfl)) pe_int) (pg_sub (pv 0) pe_int set_list))
      (pss_cons (ps_set (i := 3) nd rfl (Or.inl rfl) (pe_op op_mod (pe_op op_mul (pe_op op_add (pe_op op_add (pe_ix ix_list (pv 0) pe_int (fun _ _ => rfl)) (pe_op op_mul pe_int (pe_ix ix_list (pv 0) pe_int (fun _ _ => rfl)))) pe_int) pe_int) pe_int))
      (pss_cons (ps_set (i := 3) nd rfl (Or.inl rfl) (pe_op op_mod (pe_op op_add (pe_op op_mul (pv 3) (pv 3)) (pe_op op_mul pe_int (pe_ix ix_list (pv 0) pe_int (fun _ _ => rfl)))) pe_int))
      (pss_cons (ps_set (i := 3) nd rfl (Or.inl rfl) (pe_op op_add (pe_op op_mul (pe_op op_mod (pe_op op_mul (pv 3) (pe_op op_add (pv 3) pe_int)) pe_int) pe_int) (pv 3)))
      (pss_one (ps_ret (pe_op op_mod (pe_op op_fdiv (pe_op op_mod (pe_op op_mul (pv 3) pe_int) pe_int) pe_int) (pv 1)))))))), ?_⟩
    obtain ⟨a, c0, c1, c2, top, rfl, ha, h1, h2, k⟩ := h
    refine ⟨_, rfl, a, _, 0, _, rfl, rfl, SqL.of ha, rfl, _, _, rfl, rfl, _, rfl, ?_⟩
    refine ite2 (fun _ => ?_) (fun _ => ?_)
    · refine ⟨_, rfl, a, _, 0, _, rfl, rfl, SqL.of ha, rfl, _, rfl, _, _, rfl, rfl, by show (0 : Int) < top; omega, ?_⟩
      refine ⟨_, rfl, a, _, 0, _, rfl, rfl, SqL.of ha, rfl, _, rfl, _, _, rfl, rfl, ⟨by show (0 : Int) < top; omega, by show top < 1073741824; omega⟩, ?_⟩
      refine ⟨_, rfl, a, _, 0, 0, rfl, rfl, ha, rfl, ?_⟩
      refine ⟨_, rfl, ?_⟩
      exact k _ _ c2 (Int.emod_nonneg _ (by omega)) (Int.emod_lt_of_pos _ (by omega))
    · refine ⟨_, rfl, a, _, 2, _, rfl, rfl, SqL.of ha, rfl, _, _, rfl, rfl, ?_⟩
      refine ⟨_, rfl, a, _, 2, 2, rfl, rfl, ha, rfl, ?_⟩
      have hb : upd H a (.lst [.int c0, .int c1, .int (c2 + 1)]) a = some (.lst [.int c0, .int c1, .int (c2 + 1)]) := upd_same
      refine ⟨_, rfl, a, _, 1, _, rfl, rfl, SqL.of hb, rfl, ?_⟩
      refine ⟨_, rfl, a, _, 2, _, rfl, rfl, SqL.of hb, rfl, _, _, rfl, rfl, .inl ⟨by decide, by decide⟩, ?_⟩
      refine ⟨_, _, rfl, rfl, _, _, rfl, rfl, _, _, rfl, rfl, .inr ⟨by decide, by decide⟩, _, _, rfl, rfl, (by show (0 : Int) < 2147483647; decide), ?_⟩
      have n0 := Int.emod_nonneg ((c1 + 65537 * (c2 + 1) + 31) * 48271) (show (2147483647 : Int) ≠ 0 by decide)
      have n1 := Int.emod_lt_of_pos ((c1 + 65537 * (c2 + 1) + 31) * 48271) (show (0 : Int) < 2147483647 by decide)
      refine ⟨_, rfl, _, rfl, _, _, rfl, rfl, .inl ⟨Int.lt_of_lt_of_le (by decide) n0, Int.lt_trans n1 (by decide)⟩, _, rfl, a, _, 2, _, rfl, rfl, SqL.of hb, rfl, _, _, rfl, rfl, .inl ⟨by decide, by decide⟩, _, _, rfl, rfl, _, _, rfl, rfl, (by show (0 : Int) < 2147483587; decide), ?_⟩
      have m0 := fun z : Int => Int.emod_nonneg z (show (2147483587 : Int) ≠ 0 by decide)
      have m1 := fun z : Int => Int.emod_lt_of_pos z (show (0 : Int) < 2147483587 by decide)
      refine ⟨_, rfl, _, rfl, _, _, rfl, rfl, _, _, rfl, rfl, .inl ⟨Int.lt_of_lt_of_le (by decide) (m0 _), Int.lt_trans (m1 _) (by decide)⟩, _, _, rfl, rfl, (by show (0 : Int) < 2147483563; decide), _, _, rfl, rfl, .inr ⟨by decide, by decide⟩, _, rfl, _, _, rfl, rfl, ?_⟩
      refine ⟨_, rfl, _, _, rfl, rfl, .inr ⟨by decide, by decide⟩, _, _, rfl, rfl, (by show (0 : Int) < 2305843009213693951; decide), _, _, rfl, rfl, ⟨by decide, by decide⟩, _, rfl, _, _, rfl, rfl, (by show (0 : Int) < top; omega), ?_⟩
      exact k _ c0 (c2 + 1) (Int.emod_nonneg _ (by omega)) (Int.emod_lt_of_pos _ (by omega))
end
end Rp

namespace Rp
open PySem PySem.Spec PyProof.Rows L2
abbrev sWell : Stmt := topS 10
abbrev sTalk : Stmt := topS 12
theorem scWell : FnScope ["_law_script", "_law_k", "_law_cell"] ["_law_script", "_law_k"] (defScope sWell) :=
  ⟨rfl, rfl, rfl, by decide +kernel, rfl, by decide +kernel, by decide +kernel⟩
theorem scTalk : FnScope ["_law_well_here", "_law_great", "_law_way", "_law_many", "_law_rates", "_law_lengths", "_law_sizes", "_law_k", "_law_row", "_law_j"] ["_law_well_here"] (defScope sTalk) :=
  ⟨rfl, rfl, rfl, by decide +kernel, rfl, by decide +kernel, by decide +kernel⟩

def spWell (K : PySem.W.Frag) : Sp := fun vs H Q _ => ∃ (a : Addr) (ns : List Int) (k : Nat), vs = [.ref a, .int k] ∧ SqL K H a (ns.map V.int) ∧
  ∀ p (c0 c1 c2 : Int), H p = none → Q (.ref p) (upd H p (.lst [.int c0, .int c1, .int c2]))
/-- the built-in names are as they were -/
structure Bi (mg : Str → Option Value) : Prop where
  int : mg "int" = none
  len : mg "len" = none
  range : mg "range" = none
  tuple : mg "tuple" = none

theorem cut_mul {b : Bool} {c : Int} : CMul c (if b = true then 1 else 0) := by
  cases b
  · exact .inr ⟨by decide, by decide⟩
  · exact .inr ⟨by decide, by decide⟩
section
variable {P : Program} {w : World} {K : PySem.W.Frag} {mg : Str → Option Value} {base : Heap}
theorem ok_well {f : Addr} {fd : FuncData} (F : Fun K "_law_well" "_law_well" sWell f fd) (T : Bi mg) : FnOk P w K mg base CX0 1 f fd ["_law_script", "_law_k"] (spWell K) := by
  refine F.ok scWell (fun vs H Q E h => ?_) (fun cdv A outer s H vs Q E hr h => ?_)
  · obtain ⟨_, _, _, rfl, _⟩ := h
    rfl
  · have nd := scWell.nd
    refine ⟨_, pss_cons (ps_set (i := 2) nd rfl (Or.inl rfl) pe_int)
      (pss_cons (ps_if (pt_cmpR op_lt (pv 1) (pe_callB call_len_seq (by rfl) T.len PySem.boot_len (pa_cons (pv 0) pa_nil)) (nomark _))
        (pss_one (ps_set (i := 2) nd rfl (Or.inl rfl) (pe_ix ix_list (pv 0) (pv 1) (fun _ _ => rfl)))) pss_nil)
      (pss_one (ps_ret (pe_lst (pa_cons (pe_op op_mul (pv 2) (pe_callTy call_int1 (by rfl) T.int boot_int (pa_cons (pe_cmpR op_ge (pv 2) (pe_op op_pow pe_int pe_int) (nomark _)) pa_nil)))
        (pa_cons (pe_op op_add (pe_op op_mod (pv 2) pe_int) (pe_op op_mul pe_int (pv 1))) (pa_cons pe_int pa_nil))))))), ?_⟩
    obtain ⟨a, ns, k, rfl, ha, q⟩ := h
    have hk : decide ((k : Int) < ((ns.map V.int).length : Int)) = true → k < (ns.map V.int).length := fun c => by have := of_decide_eq_true c; omega
    refine ⟨_, rfl, _, rfl, a, _, rfl, .inl ha, _, _, rfl, rfl, _, rfl, ?_⟩
    refine ite2 (fun c => ⟨_, rfl, _, rfl, a, _, k, _, rfl, rfl, ha, atI_nat (List.getElem?_eq_getElem (hk c)), ?_⟩) (fun _ => ?_)
    · rw [List.getElem_map]
      refine ⟨_, rfl, _, rfl, _, _, rfl, rfl, ⟨by decide, by decide, by decide⟩, _, _, rfl, rfl, .inr ⟨_, rfl, _, _, rfl, rfl, cut_mul, _, rfl, _, _, rfl, rfl, (by show (0 : Int) < 2147483629; decide), _, rfl, _, _, rfl, rfl, .inl ⟨by decide, by decide⟩, _, _, rfl, rfl, by show 3 ≤ sizeLine; decide, fun p hp => ?_⟩⟩
      exact q p _ _ _ hp
    · refine ⟨_, rfl, _, rfl, _, _, rfl, rfl, ⟨by decide, by decide, by decide⟩, _, _, rfl, rfl, .inr ⟨_, rfl, _, _, rfl, rfl, cut_mul, _, rfl, _, _, rfl, rfl, (by show (0 : Int) < 2147483629; decide), _, rfl, _, _, rfl, rfl, .inl ⟨by decide, by decide⟩, _, _, rfl, rfl, by show 3 ≤ sizeLine; decide, fun p hp => ?_⟩⟩
      exact q p _ _ _ hp
end
end Rp

namespace Rp
open PySem PySem.Spec PyProof.Rows L2
theorem four_at (a b c d way : Int) (h0 : 0 ≤ way) (h4 : way < 4) : ∃ v, atI [V.int a, V.int b, V.int c, V.int d] way = some (.int v) ∧ (v = a ∨ v = b ∨ v = c ∨ v = d) := by
  have h : way = 0 ∨ way = 1 ∨ way = 2 ∨ way = 3 := by omega
  rcases h with rfl | rfl | rfl | rfl
  · exact ⟨a, rfl, .inl rfl⟩
  · exact ⟨b, rfl, .inr (.inl rfl)⟩
  · exact ⟨c, rfl, .inr (.inr (.inl rfl))⟩
  · exact ⟨d, rfl, .inr (.inr (.inr rfl))⟩
theorem two_at (a b i : Int) (h0 : 0 ≤ i) (h2 : i < 2) : ∃ v, atI [V.int a, V.int b] i = some (.int v) ∧ (v = a ∨ v = b) := by
  have h : i = 0 ∨ i = 1 := by omega
  rcases h with rfl | rfl
  · exact ⟨a, rfl, .inl rfl⟩
  · exact ⟨b, rfl, .inr rfl⟩
/-- tuples of numbers at the addresses qs -/
def RowsAt (H : Hp) (qs : List Addr) (bs : List (List Int)) : Prop := Paired (fun (q : Addr) (row : List Int) => H q = some (.tup (row.map V.int))) qs bs
theorem RowsAt.imp {H H' : Hp} (k : ∀ q xs, H q = some (.tup xs) → H' q = some (.tup xs)) : ∀ {qs : List Addr} {bs : List (List Int)}, RowsAt H qs bs → RowsAt H' qs bs
  | _, _, .nil => .nil
  | _, _, .cons h t => .cons (k _ _ h) (RowsAt.imp k t)
theorem RowsAt.snoc {H : Hp} {q : Addr} {row : List Int} (h : H q = some (.tup (row.map V.int))) : ∀ {qs : List Addr} {bs : List (List Int)}, RowsAt H qs bs → RowsAt H (qs ++ [q]) (bs ++ [row])
  | _, _, .nil => .cons h .nil
  | _, _, .cons a t => .cons a (RowsAt.snoc h t)
theorem RowsAt.length {H : Hp} {qs : List Addr} {bs : List (List Int)} (h : RowsAt H qs bs) : qs.length = bs.length := Paired.length h
def RowOk (r : Nat) (row : List Int) : Prop := row.length = r ∧ ∀ b ∈ row, 1 ≤ b ∧ b ≤ 1000
/-- a talk's numbers as they are drawn -/
structure Fine (ls : List Int) (bs : List (List Int)) : Prop where
  same : ls.length = bs.length
  pos : 1 ≤ ls.length
  most : ls.length ≤ 12
  ls : ∀ l ∈ ls, 1 ≤ l ∧ l ≤ 20
  bs : ∃ r, 1 ≤ r ∧ r ≤ 4 ∧ ∀ row ∈ bs, RowOk r row
/-- (lengths, sizes) at p -/
def TalkRow (H : Hp) (p : Addr) (ls : List Int) (bs : List (List Int)) : Prop := ∃ a b qs, H p = some (.tup [.ref a, .ref b]) ∧ H a = some (.tup (ls.map V.int)) ∧ H b = some (.tup (qs.map V.ref)) ∧ RowsAt H qs bs
theorem TalkRow.imp {H H' : Hp} (k : ∀ q xs, H q = some (.tup xs) → H' q = some (.tup xs)) {p : Addr} {ls : List Int} {bs : List (List Int)} (h : TalkRow H p ls bs) : TalkRow H' p ls bs :=
  let ⟨a, b, qs, h1, h2, h3, h4⟩ := h
  ⟨a, b, qs, k _ _ h1, k _ _ h2, k _ _ h3, h4.imp k⟩
theorem But.tup {w : Addr} {H H' : Hp} (b : But w H H') (hw : Well H w) (q : Addr) (xs : List V) (h : H q = some (.tup xs)) : H' q = some (.tup xs) := by
  obtain ⟨_, _, _, hw⟩ := hw
  exact b q _ (ne_of h hw (by intro z; cases z)) h
def spTalk : Sp := fun vs H Q _ => ∃ w, vs = [.ref w] ∧ Well H w ∧ ∀ H' p ls bs, But w H H' → Well H' w → TalkRow H' p ls bs → Fine ls bs → Q (.ref p) H'

structure OS (w L S : Addr) (H0 : Hp) (ls : List Int) (qs : List Addr) (bs : List (List Int)) (H : Hp) : Prop where
  but : But w H0 H
  nl : H0 L = none
  ns : H0 S = none
  wl : w ≠ L
  ws : w ≠ S
  lS : L ≠ S
  well : Well H w
  hL : H L = some (.lst (ls.map V.int))
  hS : H S = some (.lst (qs.map V.ref))
  rows : RowsAt H qs bs
section
variable {w L S R : Addr} {H0 H : Hp} {ls row : List Int} {qs : List Addr} {bs : List (List Int)} {p : Addr} {o : HO}
theorem OS.wellNe (x : OS w L S H0 ls qs bs H) (hp : H p = none) : w ≠ p := by
  obtain ⟨_, _, _, h⟩ := x.well
  exact ne_of_none h hp
theorem OS.new (x : OS w L S H0 ls qs bs H) (hp : H p = none) : OS w L S H0 ls qs bs (upd H p o) where
  but := fun b u n h => by
    have := x.but b u n h
    rw [upd_ne (ne_of_none this hp)]; exact this
  nl := x.nl
  ns := x.ns
  wl := x.wl
  ws := x.ws
  lS := x.lS
  well := by
    obtain ⟨a, b, c, h⟩ := x.well
    exact ⟨a, b, c, by rw [upd_ne (ne_of_none h hp)]; exact h⟩
  hL := by rw [upd_ne (ne_of_none x.hL hp)]; exact x.hL
  hS := by rw [upd_ne (ne_of_none x.hS hp)]; exact x.hS
  rows := x.rows.imp fun q xs h => by rw [upd_ne (ne_of_none h hp)]; exact h
theorem OS.upw (x : OS w L S H0 ls qs bs H) {c0 c1 c2 : Int} : OS w L S H0 ls qs bs (upd H w (.lst [.int c0, .int c1, .int c2])) where
  but := x.but.trans .upd
  nl := x.nl
  ns := x.ns
  wl := x.wl
  ws := x.ws
  lS := x.lS
  well := ⟨c0, c1, c2, upd_same⟩
  hL := by rw [upd_ne (Ne.symm x.wl)]; exact x.hL
  hS := by rw [upd_ne (Ne.symm x.ws)]; exact x.hS
  rows := by
    obtain ⟨_, _, _, hw⟩ := x.well
    exact x.rows.imp fun q xs h => by rw [upd_ne (ne_of h hw (by intro z; cases z))]; exact h
theorem OS.pushL (x : OS w L S H0 ls qs bs H) {v : Int} : OS w L S H0 (ls ++ [v]) qs bs (upd H L (.lst (ls.map V.int ++ [.int v]))) where
  but := fun b u n h => by
    rw [upd_ne (ne_of_none h x.nl)]; exact x.but b u n h
  nl := x.nl
  ns := x.ns
  wl := x.wl
  ws := x.ws
  lS := x.lS
  well := by
    obtain ⟨a, b, c, h⟩ := x.well
    exact ⟨a, b, c, by rw [upd_ne x.wl]; exact h⟩
  hL := by rw [upd_same, List.map_append]; rfl
  hS := by rw [upd_ne (Ne.symm x.lS)]; exact x.hS
  rows := x.rows.imp fun q xs h => by rw [upd_ne (ne_of h x.hL (by intro z; cases z))]; exact h
theorem OS.pushS (x : OS w L S H0 ls qs bs H) (hp : H p = some (.tup (row.map V.int))) : OS w L S H0 ls (qs ++ [p]) (bs ++ [row]) (upd H S (.lst (qs.map V.ref ++ [.ref p]))) where
  but := fun b u n h => by
    rw [upd_ne (ne_of_none h x.ns)]; exact x.but b u n h
  nl := x.nl
  ns := x.ns
  wl := x.wl
  ws := x.ws
  lS := x.lS
  well := by
    obtain ⟨a, b, c, h⟩ := x.well
    exact ⟨a, b, c, by rw [upd_ne x.ws]; exact h⟩
  hL := by rw [upd_ne x.lS]; exact x.hL
  hS := by rw [upd_same, List.map_append]; rfl
  rows := by
    have k : ∀ q xs, H q = some (.tup xs) → upd H S (.lst (qs.map V.ref ++ [.ref p])) q = some (.tup xs) := fun q xs h => by rw [upd_ne (ne_of h x.hS (by intro z; cases z))]; exact h
    exact (x.rows.imp k).snoc (k _ _ hp)
/-- .. and a row that grows at R -/
structure OR (w L S R : Addr) (H0 : Hp) (ls : List Int) (qs : List Addr) (bs : List (List Int)) (row : List Int) (H : Hp) : Prop where
  os : OS w L S H0 ls qs bs H
  nr : H0 R = none
  wr : w ≠ R
  lr : L ≠ R
  sr : S ≠ R
  hR : H R = some (.lst (row.map V.int))
theorem OR.new (x : OR w L S R H0 ls qs bs row H) (hp : H p = none) : OR w L S R H0 ls qs bs row (upd H p o) where
  os := x.os.new hp
  nr := x.nr
  wr := x.wr
  lr := x.lr
  sr := x.sr
  hR := by rw [upd_ne (ne_of_none x.hR hp)]; exact x.hR
theorem OR.upw (x : OR w L S R H0 ls qs bs row H) {c0 c1 c2 : Int} : OR w L S R H0 ls qs bs row (upd H w (.lst [.int c0, .int c1, .int c2])) where
  os := x.os.upw
  nr := x.nr
  wr := x.wr
  lr := x.lr
  sr := x.sr
  hR := by rw [upd_ne (Ne.symm x.wr)]; exact x.hR
theorem OR.push (x : OR w L S R H0 ls qs bs row H) {v : Int} : OR w L S R H0 ls qs bs (row ++ [v]) (upd H R (.lst (row.map V.int ++ [.int v]))) where
  os := {
    but := fun b u n h => by rw [upd_ne (ne_of_none h x.nr)]; exact x.os.but b u n h
    nl := x.os.nl
    ns := x.os.ns
    wl := x.os.wl
    ws := x.os.ws
    lS := x.os.lS
    well := by
      obtain ⟨a, b, c, h⟩ := x.os.well
      exact ⟨a, b, c, by rw [upd_ne x.wr]; exact h⟩
    hL := by rw [upd_ne x.lr]; exact x.os.hL
    hS := by rw [upd_ne x.sr]; exact x.os.hS
    rows := x.os.rows.imp fun q xs h => by rw [upd_ne (ne_of h x.hR (by intro z; cases z))]; exact h }
  nr := x.nr
  wr := x.wr
  lr := x.lr
  sr := x.sr
  hR := by rw [upd_same, List.map_append]; rfl
end
/-- a drawn number, and what the draw leaves -/
theorem take_by {w : Addr} {H : Hp} {top : Int} {Q : VK} {E : XK} (hw : Well H w) (h1 : 1 ≤ top) (h2 : top < 1000000) (k : ∀ d c0 c1 c2 : Int, 0 ≤ d → d < top → Q (.int d) (upd H w (.lst [.int c0, .int c1, .int c2]))) : spTake [.ref w, .int top] H Q E := by
  obtain ⟨c0, c1, c2, hw⟩ := hw
  exact ⟨w, c0, c1, c2, top, rfl, hw, h1, h2, fun d c0' c2' a b => k d c0' c1 c2' a b⟩
theorem Well.upw {w : Addr} {H : Hp} {c0 c1 c2 : Int} : Well (upd H w (.lst [.int c0, .int c1, .int c2])) w := ⟨c0, c1, c2, upd_same⟩
theorem Well.new {w p : Addr} {H : Hp} {o : HO} (h : Well H w) (hp : H p = none) : Well (upd H p o) w := by
  obtain ⟨a, b, c, h⟩ := h
  exact ⟨a, b, c, by rw [upd_ne (ne_of_none h hp)]; exact h⟩
theorem But.new {w p : Addr} {H0 H : Hp} {o : HO} (h : But w H0 H) (hp : H p = none) : But w H0 (L2.upd H p o) := fun b u n q => by
  have := h b u n q
  rw [upd_ne (ne_of_none this hp)]; exact this
theorem But.free {w p : Addr} {H0 H : Hp} (h : But w H0 H) (hw : Well H w) (hp : H p = none) : H0 p = none := by
  cases q : H0 p with
  | none => rfl
  | some o =>
    obtain ⟨_, _, _, hw⟩ := hw
    have := h p o (Ne.symm (ne_of_none hw hp)) q
    rw [hp] at this; cases this
end Rp

namespace Rp
open PySem PySem.Spec PyProof.Rows L2
section
variable {P : Program} {w : World} {K : PySem.W.Frag} {mg : Str → Option Value} {base : Heap}
theorem ok_talk {f fT : Addr} {fd fdT : FuncData} (F : Fun K "_law_talk" "_law_talk" sTalk f fd) (T : Bi mg) (FT : Fun K "_law_take" "_law_take" sTake fT fdT) (mT : mg "_law_take" = some (.ref fT)) (bT : Binds K fdT ["_law_well_here", "_law_top"] []) :
    FnOk P w K mg base CX0 2 f fd ["_law_well_here"] spTalk := by
  have G : FnOk P w K mg base CX0 1 fT fdT ["_law_well_here", "_law_top"] spTake := ok_take FT
  refine F.ok scTalk (fun vs H Q E h => ?_) (fun cdv A outer s H0 vs Q E hr h => ?_)
  · obtain ⟨_, rfl, _⟩ := h
    rfl
  · have nd := scTalk.nd
    refine ⟨_, pss_cons (ps_set (i := 1) nd rfl (Or.inl rfl) (pe_callTy call_int1 (by rfl) T.int boot_int (pa_cons (pe_cmpR op_eq (pe_call G hr (by rfl) mT FT.kp bT .nil pass0 (pa_cons (pv 0) (pa_cons (pe_int) pa_nil))) (pe_int) (nomark _)) pa_nil)))
    (pss_cons (ps_set (i := 2) nd rfl (Or.inl rfl) (pe_call G hr (by rfl) mT FT.kp bT .nil pass0 (pa_cons (pv 0) (pa_cons (pe_int) pa_nil))))
    (pss_cons (ps_set (i := 3) nd rfl (Or.inl rfl) (pe_ix ix_list (pe_lst (pa_cons (pe_op op_add (pe_int) (pe_call G hr (by rfl) mT FT.kp bT .nil pass0 (pa_cons (pv 0) (pa_cons (pe_int) pa_nil)))) (pa_cons (pe_int) pa_nil))) (pv 1) (fun _ _ => rfl)))
    (pss_cons (ps_set (i := 4) nd rfl (Or.inl rfl) (pe_ix ix_list (pe_lst (pa_cons (pe_op op_add (pe_int) (pe_call G hr (by rfl) mT FT.kp bT .nil pass0 (pa_cons (pv 0) (pa_cons (pe_int) pa_nil)))) (pa_cons (pe_int) pa_nil))) (pv 1) (fun _ _ => rfl)))
    (pss_cons (ps_set (i := 5) nd rfl (Or.inl rfl) (pe_lst (pa_nil)))
    (pss_cons (ps_set (i := 6) nd rfl (Or.inl rfl) (pe_lst (pa_nil)))
    (pss_cons (ps_for PassesOwn.never rfl (pi_range1 (by rfl) T.range (pa_cons (pv 3) pa_nil)) (pg_name (i := 7) nd rfl (Or.inl rfl)) (pss_cons (ps_expr (pe_bm PySem.F.plainAttrs_list PySem.F.slot_list_append PySem.F.type_list_append mt_append (pv 5) (pa_cons (pe_ix ix_list (pe_lst (pa_cons (pe_op op_add (pe_int) (pe_call G hr (by rfl) mT FT.kp bT .nil pass0 (pa_cons (pv 0) (pa_cons (pe_int) pa_nil)))) (pa_cons (pe_op op_add (pe_int) (pe_call G hr (by rfl) mT FT.kp bT .nil pass0 (pa_cons (pv 0) (pa_cons (pe_int) pa_nil)))) (pa_cons (pe_op op_sub (pe_int) (pe_call G hr (by rfl) mT FT.kp bT .nil pass0 (pa_cons (pv 0) (pa_cons (pe_int) pa_nil)))) (pa_cons (pe_int) pa_nil))))) (pv 2) (fun _ _ => rfl)) pa_nil)))
      (pss_cons (ps_set (i := 8) nd rfl (Or.inl rfl) (pe_lst (pa_nil)))
      (pss_cons (ps_for PassesOwn.never rfl (pi_range1 (by rfl) T.range (pa_cons (pv 4) pa_nil)) (pg_name (i := 9) nd rfl (Or.inl rfl)) (pss_one (ps_expr (pe_bm PySem.F.plainAttrs_list PySem.F.slot_list_append PySem.F.type_list_append mt_append (pv 8) (pa_cons (pe_ix ix_list (pe_lst (pa_cons (pe_op op_add (pe_int) (pe_call G hr (by rfl) mT FT.kp bT .nil pass0 (pa_cons (pv 0) (pa_cons (pe_int) pa_nil)))) (pa_cons (pe_op op_add (pe_int) (pe_call G hr (by rfl) mT FT.kp bT .nil pass0 (pa_cons (pv 0) (pa_cons (pe_int) pa_nil)))) (pa_cons (pe_op op_sub (pe_int) (pe_call G hr (by rfl) mT FT.kp bT .nil pass0 (pa_cons (pv 0) (pa_cons (pe_int) pa_nil)))) (pa_cons (pe_op op_add (pe_op op_mul (pe_int) (pv 9)) (pe_int)) pa_nil))))) (pv 2) (fun _ _ => rfl)) pa_nil)))))
      (pss_one (ps_expr (pe_bm PySem.F.plainAttrs_list PySem.F.slot_list_append PySem.F.type_list_append mt_append (pv 6) (pa_cons (pe_callTy call_tuple_of (by rfl) T.tuple boot_tuple (pa_cons (pv 8) pa_nil)) pa_nil))))))))
    (pss_one (ps_ret (pe_tup (pa_cons (pe_callTy call_tuple_of (by rfl) T.tuple boot_tuple (pa_cons (pv 5) pa_nil)) (pa_cons (pe_callTy call_tuple_of (by rfl) T.tuple boot_tuple (pa_cons (pv 6) pa_nil)) pa_nil))))))))))), ?_⟩
    obtain ⟨w, rfl, ⟨hw0, x1, hw2, hw⟩, k⟩ := h
    -- great, way
    refine ⟨_, rfl, w, hw0, x1, hw2, _, rfl, hw, (by decide), (by decide), fun d0 x0 x2 _ _ => ⟨rfl, .inr ⟨_, rfl, ?_⟩⟩⟩
    obtain ⟨g, hg, g0, g2⟩ : ∃ g : Int, (if decide (V.int d0 = V.int 5) = true then (1 : Int) else 0) = g ∧ 0 ≤ g ∧ g < 2 := by
      split
      · exact ⟨1, rfl, by decide, by decide⟩
      · exact ⟨0, rfl, by decide, by decide⟩
    rw [hg]
    have b1 : But w H0 (upd H0 w (.lst [.int x0, .int x1, .int x2])) := .upd
    have w1 : Well (upd H0 w (.lst [.int x0, .int x1, .int x2])) w := .upw
    generalize upd H0 w (.lst [.int x0, .int x1, .int x2]) = H1 at b1 w1 ⊢
    obtain ⟨z0, y1, z2, hz⟩ := w1
    refine ⟨_, rfl, w, z0, y1, z2, _, rfl, hz, (by decide), (by decide), fun way y0 y2 way0 way4 => ?_⟩
    have b2 : But w H0 (upd H1 w (.lst [.int y0, .int y1, .int y2])) := b1.trans .upd
    have w2 : Well (upd H1 w (.lst [.int y0, .int y1, .int y2])) w := .upw
    generalize upd H1 w (.lst [.int y0, .int y1, .int y2]) = H2 at b2 w2 ⊢
    -- many
    obtain ⟨z0, y1, z2, hz⟩ := w2
    refine ⟨_, rfl, w, z0, y1, z2, _, rfl, hz, (by decide), (by decide), fun m0 y0 y2 m00 m05 => ⟨_, _, rfl, rfl, by show 2 ≤ sizeLine; decide, fun p hp => ?_⟩⟩
    have b3 := (b2.trans (.upd (w := w) (H := H2) (o := .lst [.int y0, .int y1, .int y2]))).new (o := .lst [.int (1 + m0), .int 12]) hp
    have w3 := (Well.upw (w := w) (H := H2) (c0 := y0) (c1 := y1) (c2 := y2)).new (o := .lst [.int (1 + m0), .int 12]) hp
    have hp3 : upd (upd H2 w (.lst [.int y0, .int y1, .int y2])) p (.lst [.int (1 + m0), .int 12]) p = some (.lst [.int (1 + m0), .int 12]) := upd_same
    obtain ⟨many, hm, hmv⟩ := two_at (1 + m0) 12 g g0 g2
    refine ⟨_, rfl, p, _, g, _, rfl, rfl, SqL.of hp3, hm, ?_⟩
    clear hp3 hp
    generalize upd (upd H2 w (.lst [.int y0, .int y1, .int y2])) p (.lst [.int (1 + m0), .int 12]) = H3 at b3 w3 ⊢
    -- rates
    obtain ⟨z0, y1, z2, hz⟩ := w3
    refine ⟨_, rfl, w, z0, y1, z2, _, rfl, hz, (by decide), (by decide), fun r0 y0 y2 r00 r04 => ⟨_, _, rfl, rfl, by show 2 ≤ sizeLine; decide, fun p hp => ?_⟩⟩
    have b4 := (b3.trans (.upd (w := w) (H := H3) (o := .lst [.int y0, .int y1, .int y2]))).new (o := .lst [.int (1 + r0), .int 4]) hp
    have w4 := (Well.upw (w := w) (H := H3) (c0 := y0) (c1 := y1) (c2 := y2)).new (o := .lst [.int (1 + r0), .int 4]) hp
    have hp4 : upd (upd H3 w (.lst [.int y0, .int y1, .int y2])) p (.lst [.int (1 + r0), .int 4]) p = some (.lst [.int (1 + r0), .int 4]) := upd_same
    obtain ⟨rates, hr', hrv⟩ := two_at (1 + r0) 4 g g0 g2
    refine ⟨_, rfl, p, _, g, _, rfl, rfl, SqL.of hp4, hr', ?_⟩
    clear hp4 hp
    generalize upd (upd H3 w (.lst [.int y0, .int y1, .int y2])) p (.lst [.int (1 + r0), .int 4]) = H4 at b4 w4 ⊢
    -- lengths, sizes
    refine ⟨Nat.zero_le _, fun L hL => ⟨Nat.zero_le _, fun S hS => ?_⟩⟩
    have hL' : upd H4 L (.lst []) L = some (.lst []) := upd_same
    have lS : L ≠ S := ne_of_none hL' hS
    have os0 : OS w L S H0 [] [] [] (upd (upd H4 L (.lst [])) S (.lst [])) := {
      but := (b4.new hL).new hS
      nl := b4.free w4 hL
      ns := (b4.new hL).free (w4.new hL) hS
      wl := by obtain ⟨_, _, _, h⟩ := w4; exact ne_of_none h hL
      ws := by obtain ⟨_, _, _, h⟩ := w4.new (o := .lst []) hL; exact ne_of_none h hS
      lS := lS
      well := (w4.new hL).new hS
      hL := by rw [upd_ne lS, upd_same]; rfl
      hS := upd_same
      rows := .nil }
    generalize upd (upd H4 L (.lst [])) S (.lst []) = H5 at os0 ⊢
    obtain ⟨m, rfl, hm1, hm2⟩ : ∃ m : Nat, many = (m : Int) ∧ 1 ≤ m ∧ m ≤ 12 := ⟨many.toNat, by omega, by omega, by omega⟩
    obtain ⟨r, rfl, hr1, hr2⟩ : ∃ r : Nat, rates = (r : Int) ∧ 1 ≤ r ∧ r ≤ 4 := ⟨rates.toNat, by omega, by omega, by omega⟩
    refine ⟨_, rfl, _, rfl, (by omega), (by omega), for_range (lo := 0) (n := m) (fun i σ H => ∃ v7 v8 v9, σ = [some (.ref w), some (.int g), some (.int way), some (.int m), some (.int r), some (.ref L), some (.ref S), v7, v8, v9] ∧
      ∃ ls qs bs, OS w L S H0 ls qs bs H ∧ ls.length = i ∧ bs.length = i ∧ (∀ l ∈ ls, 1 ≤ l ∧ l ≤ 20) ∧ ∀ row ∈ bs, RowOk r row) ⟨none, none, none, rfl, [], [], [], os0, rfl, rfl, (fun _ z => nomatch z), fun _ z => nomatch z⟩ ?_ ?_⟩
    · rintro i σ H hi ⟨v7, v8, v9, rfl, ls, qs, bs, os, e1, e2, ok1, ok2⟩
      obtain ⟨z0, z1, z2, hz⟩ := os.well
      refine ⟨_, rfl, .inl ⟨rfl, _, SqL.of os.hL⟩, _, rfl, w, z0, z1, z2, _, rfl, hz, (by decide), (by decide), fun d1 a0 a2 l1 u1 => ⟨_, _, rfl, rfl, ?_⟩⟩
      have os1 := os.upw (c0 := a0) (c1 := z1) (c2 := a2)
      generalize upd H w (.lst [.int a0, .int z1, .int a2]) = Ha at os1 ⊢
      obtain ⟨z0, z1, z2, hz⟩ := os1.well
      refine ⟨_, rfl, w, z0, z1, z2, _, rfl, hz, (by decide), (by decide), fun d2 a0 a2 l2 u2 => ⟨_, _, rfl, rfl, ?_⟩⟩
      have os2 := os1.upw (c0 := a0) (c1 := z1) (c2 := a2)
      generalize upd Ha w (.lst [.int a0, .int z1, .int a2]) = Hb at os2 ⊢
      obtain ⟨z0, z1, z2, hz⟩ := os2.well
      refine ⟨_, rfl, w, z0, z1, z2, _, rfl, hz, (by decide), (by decide), fun d3 a0 a2 l3 u3 => ⟨_, _, rfl, rfl, by show 4 ≤ sizeLine; decide, fun p hp => ?_⟩⟩
      have os3 := (os2.upw (c0 := a0) (c1 := z1) (c2 := a2)).new (o := .lst [.int (1 + d1), .int (1 + d2), .int (20 - d3), .int 4]) hp
      obtain ⟨v, hv, hvv⟩ := four_at (1 + d1) (1 + d2) (20 - d3) 4 way way0 way4
      have hv1 : 1 ≤ v ∧ v ≤ 20 := by omega
      refine ⟨_, rfl, p, _, way, _, rfl, rfl, SqL.of upd_same, hv, ?_⟩
      generalize upd (upd Hb w (.lst [.int a0, .int z1, .int a2])) p (.lst [.int (1 + d1), .int (1 + d2), .int (20 - d3), .int 4]) = Hc at os3 ⊢
      refine ⟨L, _, _, rfl, rfl, os3.hL, by rw [List.length_map]; exact small1000 (by omega), ?_⟩
      have os4 := os3.pushL (v := v)
      generalize upd Hc L (.lst (ls.map V.int ++ [.int v])) = Hd at os4 ⊢
      -- row
      refine ⟨Nat.zero_le _, fun R hR => ?_⟩
      have or0 : OR w L S R H0 (ls ++ [v]) qs bs [] (upd Hd R (.lst [])) := ⟨os4.new hR, os4.but.free os4.well hR, os4.wellNe hR, ne_of_none os4.hL hR, ne_of_none os4.hS hR, upd_same⟩
      generalize upd Hd R (.lst []) = He at or0 ⊢
      refine ⟨_, rfl, _, rfl, (by omega), (by omega), for_range (lo := 0) (n := r) (fun j σ H => ∃ v9, σ = [some (.ref w), some (.int g), some (.int way), some (.int m), some (.int r), some (.ref L), some (.ref S), some (.int (0 + (i : Int))), some (.ref R), v9] ∧
        ∃ row, OR w L S R H0 (ls ++ [v]) qs bs row H ∧ row.length = j ∧ ∀ b ∈ row, 1 ≤ b ∧ b ≤ 1000) ⟨v9, rfl, [], or0, rfl, fun _ z => nomatch z⟩ ?_ ?_⟩
      · rintro j σ H hj ⟨v9, rfl, row, os, e3, ok3⟩
        obtain ⟨z0, z1, z2, hz⟩ := os.os.well
        refine ⟨_, rfl, .inl ⟨rfl, _, SqL.of os.hR⟩, _, rfl, w, z0, z1, z2, _, rfl, hz, (by decide), (by decide), fun d1 a0 a2 l1 u1 => ⟨_, _, rfl, rfl, ?_⟩⟩
        have os1 := os.upw (c0 := a0) (c1 := z1) (c2 := a2)
        generalize upd H w (.lst [.int a0, .int z1, .int a2]) = Ha at os1 ⊢
        obtain ⟨z0, z1, z2, hz⟩ := os1.os.well
        refine ⟨_, rfl, w, z0, z1, z2, _, rfl, hz, (by decide), (by decide), fun d2 a0 a2 l2 u2 => ⟨_, _, rfl, rfl, ?_⟩⟩
        have os2 := os1.upw (c0 := a0) (c1 := z1) (c2 := a2)
        generalize upd Ha w (.lst [.int a0, .int z1, .int a2]) = Hb at os2 ⊢
        obtain ⟨z0, z1, z2, hz⟩ := os2.os.well
        refine ⟨_, rfl, w, z0, z1, z2, _, rfl, hz, (by decide), (by decide), fun d3 a0 a2 l3 u3 => ⟨_, _, rfl, rfl, _, rfl, _, _, rfl, rfl, .inl ⟨by decide, by decide⟩, _, _, rfl, rfl, by show 4 ≤ sizeLine; decide, fun p hp => ?_⟩⟩
        have os3 := (os2.upw (c0 := a0) (c1 := z1) (c2 := a2)).new (o := .lst [.int (1 + d1), .int (1 + d2), .int (1000 - d3), .int (10 * (0 + (j : Int)) + 9)]) hp
        obtain ⟨v, hv, hvv⟩ := four_at (1 + d1) (1 + d2) (1000 - d3) (10 * (0 + (j : Int)) + 9) way way0 way4
        have hv1 : 1 ≤ v ∧ v ≤ 1000 := by omega
        refine ⟨_, rfl, p, _, way, _, rfl, rfl, SqL.of upd_same, hv, ?_⟩
        generalize upd (upd Hb w (.lst [.int a0, .int z1, .int a2])) p (.lst [.int (1 + d1), .int (1 + d2), .int (1000 - d3), .int (10 * (0 + (j : Int)) + 9)]) = Hc at os3 ⊢
        refine ⟨R, _, _, rfl, rfl, os3.hR, by rw [List.length_map]; exact small1000 (by omega), ?_⟩
        refine ⟨some (.int (0 + (j : Int))), rfl, row ++ [v], os3.push, by rw [List.length_append, e3]; rfl, fun b hb => ?_⟩
        rcases List.mem_append.mp hb with q | q
        · exact ok3 b q
        · rw [List.mem_singleton.mp q]; exact hv1
      · rintro σ H ⟨v9, rfl, row, os, e3, ok3⟩
        refine ⟨_, rfl, .inl ⟨rfl, _, SqL.of os.os.hS⟩, _, rfl, R, _, rfl, .inl ⟨SqL.of os.hR, fun q hq => ?_⟩⟩
        have os1 := os.os.new (o := .tup (row.map V.int)) hq
        refine ⟨S, _, _, rfl, rfl, os1.hS, by rw [List.length_map, os1.rows.length]; exact small1000 (by omega), ?_⟩
        refine ⟨_, _, _, rfl, ls ++ [v], qs ++ [q], bs ++ [row], os1.pushS upd_same, by rw [List.length_append, e1]; rfl, by rw [List.length_append, e2]; rfl, fun l hl => ?_, fun l hl => ?_⟩
        · rcases List.mem_append.mp hl with q | q
          · exact ok1 l q
          · rw [List.mem_singleton.mp q]; exact hv1
        · rcases List.mem_append.mp hl with q | q
          · exact ok2 l q
          · rw [List.mem_singleton.mp q]; exact ⟨e3, ok3⟩
    · rintro σ H ⟨v7, v8, v9, rfl, ls, qs, bs, os, e1, e2, ok1, ok2⟩
      refine ⟨_, rfl, L, _, rfl, .inl ⟨SqL.of os.hL, fun a ha => ⟨_, rfl, S, _, rfl, .inl ⟨SqL.of (os.new (o := .tup (ls.map V.int)) ha).hS, fun b hb => ⟨by show 2 ≤ sizeLine; decide, fun p hp => ?_⟩⟩⟩⟩⟩
      have o1 := os.new (o := .tup (ls.map V.int)) ha
      have o2 := o1.new (o := .tup (qs.map V.ref)) hb
      have o3 := o2.new (o := .tup [.ref a, .ref b]) hp
      have ab : a ≠ b := ne_of_none (upd_same (H := H) (a := a) (o := .tup (ls.map V.int))) hb
      have bp : b ≠ p := ne_of_none (upd_same (a := b) (o := .tup (qs.map V.ref))) hp
      have ap : a ≠ p := ne_of_none (show upd (upd H a (.tup (ls.map V.int))) b (.tup (qs.map V.ref)) a = some (.tup (ls.map V.int)) by rw [upd_ne ab, upd_same]) hp
      refine k _ p ls bs o3.but o3.well ⟨a, b, qs, upd_same, ?_, ?_, o3.rows⟩ ⟨by omega, by omega, by omega, ok1, r, by omega, by omega, ok2⟩
      · rw [upd_ne ap, upd_ne ab, upd_same]
      · rw [upd_ne bp, upd_same]
end
end Rp

namespace Rp
open PySem PySem.Spec PyProof.Rows L2
/-! ### a def whose promise wants that nothing is being shown (repr) around it -/
structure FnG (P : Program) (w : World) (K : PySem.W.Frag) (mg : Str → Option Value) (base : Heap) (CX : CXT) (k : Nat) (f : Addr) (fd : FuncData) (ps : List Str) (sp : Sp) : Prop where
  len : ∀ vs H Q E, sp vs H Q E → vs.length = ps.length
  go : ∀ (A : Around) (outer : List Env) (s : Shared) (H : Hp) (args : Args) (us : List Value) (vs : List V) (Q : VK) (E : XK), A.guards = some [] → Room k A → Env0 P w K mg base A outer s H →
    BindsTo s fd args (ps.zip us) → Vals vs us → sp vs H Q E → codeAny (model P w) A (.call (.ref f) args) (CR CX outer P w H s Q E) s
theorem FnG.of {P : Program} {w : World} {K : PySem.W.Frag} {mg : Str → Option Value} {base : Heap} {CX : CXT} {k : Nat} {f : Addr} {fd : FuncData} {ps : List Str} {sp : Sp} (F : FnOk P w K mg base CX k f fd ps sp) : FnG P w K mg base CX k f fd ps sp :=
  ⟨F.len, fun A outer s H args us vs Q E _ => F.run A outer s H args us vs Q E⟩
theorem deeper_guards {A : Around} {env : Env} (h : A.guards = some []) : (A.deeper env).guards = some [] := h
section
variable {P : Program} {w : World} {K : PySem.W.Frag} {mg : Str → Option Value} {base : Heap} {CX : CXT}
/-- a def by its body, the guards known -/
theorem fnG_of {x qual : Str} {st : Stmt} {f : Addr} {fd : FuncData} {N ps : List Str} {k : Nat} {sp : Sp} (F : Fun K x qual st f fd) (S : FnScope N ps (defScope st)) (len : ∀ vs H Q E, sp vs H Q E → vs.length = ps.length)
    (hb : ∀ (cdv : Value) (A : Around) (outer : List Env) (s : Shared) (H : Hp) (vs : List V) (Q : VK) (E : XK), (A.deeper (envOfC qual (defScope st) s.heap.objs.size f cdv)).guards = some [] → Room k (A.deeper (envOfC qual (defScope st) s.heap.objs.size f cdv)) → sp vs H Q E →
      ∃ t, PSs (cxOf CX P w K mg base N qual (defScope st) f cdv A outer s H E) (defBody st) t ∧ t { nx := fun _ H' => Q .non H', rt := Q } (start N vs) H) : FnG P w K mg base CX (k + 1) f fd ps sp := by
  obtain ⟨oc, od, kV, doc, pm, an, cdv, ct, osl, rfl, lk, hcd⟩ := F.ex
  refine ⟨len, fun A outer s H args us vs Q E gA room en bi rel want => ?_⟩
  have kept : ∀ b o, base.get? b = some o → s.heap.get? b = some o := fun b o e => (en.bs b o e).1
  have inK : K.In s.heap := en.mod.kin.keeps kept
  refine codeAny_call_function room.depth (inK _ _ lk) rfl S.co S.gen rfl (PySem.W.codeRec_of inK hcd) (bi _ _ _ _ ?_)
  refine wpAny_newFunctionEnv_cells S.kind (fun y hy => ?_) fun env he s1 made => ?_
  · rcases S.par y.1 (List.of_mem_zip (show (y.1, y.2) ∈ ps.zip us from hy)).1 with q | q
    · exact .inl q
    · exact .inr ⟨q, PySem.W.cellsFrom_some _ _ _ (.inl q)⟩
  subst he
  refine ⟨(en.mod.nolimit.keeps kept).keeps made.toInCall.keep, codeAny_func ?_⟩
  obtain ⟨t, body, reads⟩ := hb cdv A outer s H vs Q E (deeper_guards gA) (room.deeper _) want
  refine wpAny_mono (body.run [] s1 (start N vs) H _ (inv_start S room.hd en (len _ _ _ _ want) rel made) reads) (fun fl s' hs => ?_) fun e s' hs => hs
  cases fl with
  | ret u =>
    obtain ⟨v, σ', H', J, rv, q⟩ := hs
    exact ⟨v, H', J.os, J.bare, J.base, J.hok, rv, q⟩
  | next =>
    obtain ⟨σ', H', J, q⟩ := hs
    exact ⟨V.non, H', J.os, J.bare, J.base, J.hok, rfl, q⟩
  | brk => exact absurd hs (fun ⟨_, _, _, z⟩ => (z : False))
  | cont => exact absurd hs (fun ⟨_, _, _, z⟩ => (z : False))
/-- .. that lets no error out -/
theorem okG {x qual : Str} {st : Stmt} {f : Addr} {fd : FuncData} {N ps : List Str} {k : Nat} {sp : Sp} (F : Fun K x qual st f fd) (S : FnScope N ps (defScope st)) (len : ∀ vs H Q E, sp vs H Q E → vs.length = ps.length)
    (hb : ∀ (cdv : Value) (A : Around) (outer : List Env) (s : Shared) (H : Hp) (vs : List V) (Q : VK) (E : XK), (A.deeper (envOfC qual (defScope st) s.heap.objs.size f cdv)).guards = some [] → Room k (A.deeper (envOfC qual (defScope st) s.heap.objs.size f cdv)) → sp vs H Q E →
      ∃ t, PSs (cxOf CX P w K mg base N qual (defScope st) f cdv A outer s H E).nox (defBody st) t ∧ t { nx := fun _ H' => Q .non H', rt := Q } (start N vs) H) : FnG P w K mg base CX (k + 1) f fd ps sp :=
  fnG_of F S len fun cdv A outer s H vs Q E gA room want => let ⟨t, body, reads⟩ := hb cdv A outer s H vs Q E gA room want; ⟨t, body.nox, reads⟩
end
section
variable {X : Cx} {CX : CXT} {k : Nat} {f C : Addr} {fd : FuncData} {ps : List Str} {sp : Sp} {E : XK} {x m : Str} {p pos apos : Pos} {e o : Expr} {es : List Expr} {ta : TE} {t : TA}
theorem runG {pins : List (Addr × Obj)} {σ : L2.St} {H : Hp} {s : Shared} {Q : VK} {us : List Value} {vs : List V} (F : FnG X.prog X.w X.K X.mg X.base CX k f fd ps sp) (gA : X.A.guards = some []) (room : Room k X.A) (hb : L2.Binds X.K fd ps [])
    (hx : Passes CX X E) (I : Inv X pins σ H s) (r : Vals vs us) (h : sp vs H Q E) : wpAny (model X.prog X.w) X.A (call (.ref f) us) (EP X pins σ Q) X.xe s := by
  have hl : (us ++ []).length = ps.length := by rw [List.append_nil, ← r.length]; exact F.len _ _ _ _ h
  have bi := hb s us I.kIn hl
  rw [List.append_nil] at bi
  refine wpAny_call (codeAny_mono (F.go X.A X.stack s H ⟨us, []⟩ us vs Q E gA room I.env0 bi r h) fun res s' hq => ?_)
  cases res with
  | error e => exact hx pins σ H s e s' I hq
  | ok fl =>
    cases fl with
    | ret u => exact I.after hq
    | next => exact hq.elim
    | brk => exact hq.elim
    | cont => exact hq.elim
def tCallG (sp : Sp) (E : XK) (t : TA) : TE := fun σ H Q => t σ H fun vs H1 => sp vs H1 Q E
theorem pe_callG (F : FnG X.prog X.w X.K X.mg X.base CX k f fd ps sp) (gA : X.A.guards = some []) (room : Room k X.A) (hg : Gl X x) (hm : X.mg x = some (.ref f)) (hk : PySem.W.keepIn X.K (.ref f) = true) (hb : L2.Binds X.K fd ps [])
    (hx : Passes CX X E) (ha : PA X (e :: es) t) (hdb : (x == ("__debug__" : Str)) = false := by decide) (hst : starEach (e :: es) X.env = (false, eval e X.env) :: starEach es X.env := by rfl)
    (hpl : (backTo pos (starEach es X.env)).any (·.1) = false := by rfl) : PE X (.Call (.Name x p) (e :: es) [] pos) (tCallG sp E t) :=
  ⟨fun pins s σ H Q I h => wpAny_Call_Name_kw (ld_glob I hg hm (PySem.W.callWith_K (h₀ := X.base) I.ok.mod.kin hk (thn (ha.run pos pins s σ H _ I h) fun us s1 ⟨vs, H1, I1, r, q⟩ => ⟨I1.kIn, runG F gA room hb hx I1 r q⟩) hst hpl) hdb)⟩
end
/-! ### repr of data -/
/-- what may be shown -/
structure Shw (d : PyData) : Prop where
  sh : d.showable = true
  nd : d.hasDict = false
  dp : d.depth ≤ 16
  sz : d.shown.length ≤ sizeLine
section
variable {X : Cx}
theorem call_reprD (gA : X.A.guards = some []) (hu : X.A.units + 64 < cLine) : CallR X (.builtin "repr") (fun xs H Q => ∃ x d, xs = [x] ∧ Dp X.K H x d ∧ Shw d ∧ Q (.str d.shown) H) := by
  intro pins s σ H xs us Q I r h
  obtain ⟨x, d, rfl, hd, hw, q⟩ := h
  cases r with
  | cons rx rn =>
    cases rn
    have dp := hw.dp
    cases hd with
    | non => cases rx; exact PySem.P.repr_of_none ⟨.str _, H, I.tok _, ⟨_, rfl⟩, q⟩
    | bl b => cases rx; exact PySem.P.repr_of_bool ⟨.str _, H, I.tok _, ⟨_, rfl⟩, q⟩
    | int i =>
      obtain ⟨t, rfl⟩ := rx
      exact PySem.P.repr_of_int (by have := hw.sh; simpa [PyData.showable] using this) ⟨.str _, H, I.tok _, ⟨_, rfl⟩, q⟩
    | str z =>
      obtain ⟨t, rfl⟩ := rx
      exact PySem.P.repr_of_str ⟨.str _, H, I.tok _, ⟨_, rfl⟩, q⟩ hw.sz
    | @lst a xs ds h1 h2 =>
      obtain ⟨as, rd⟩ := Dp.reads I (.list ds) (.ref a) _ (.lst h1 h2) rx
      cases rx
      exact repr_of_reads' rd hw.sh (PyData.noDict_hsm hw.nd) gA (by omega) (fun _ _ z => z) (fun h' u tk kp => ⟨.str _, H, I.kept kp, ⟨_, rfl⟩, q⟩) hw.sz
    | @tup a xs ds h1 h2 =>
      obtain ⟨as, rd⟩ := Dp.reads I (.tuple ds) (.ref a) _ (.tup h1 h2) rx
      cases rx
      exact repr_of_reads' rd hw.sh (PyData.noDict_hsm hw.nd) gA (by omega) (fun _ _ z => z) (fun h' u tk kp => ⟨.str _, H, I.kept kp, ⟨_, rfl⟩, q⟩) hw.sz
end
end Rp

namespace Rp
open PySem PySem.Spec PyProof.Rows L2
/-! ### the law's call, the guards known -/
section
variable {P : Program} {w : World} {K : PySem.W.Frag} {mg mb : Str → Option Value} {CX : CXT} {k : Nat} {fa a : Addr} {fd : FuncData} {x : Str} {sp : Sp} {s : Shared} {vs : List Value} {ns : List Int}
/-- from one abstract heap that holds the script at most -/
theorem law_coreG {H : Hp} (inK : K.In s.heap) (gl : s.heap.Ns mainGlobals mg) (bn : s.heap.Ns builtinsNs mb) (boot : ∀ y : Str, y ≠ "__name__" → mb y = bootBuiltins y) (lim : s.heap.NoLimit) (gens : s.gens = #[])
    (at_ : s.heap.get? a = some { cls := .type "list", data := .seq vs.toArray }) (room : Room k callerA)
    (F : ∀ base : Heap, K.In base → base.Ns mainGlobals mg → FnG P w K mg base CX k fa fd [x] sp) (bind : ∀ (s : Shared) (u : Value), BindsTo s fd ⟨[u], []⟩ [(x, u)])
    (one : ∀ b, H b = none ∨ ∃ o xs, H b = some (.frz o (.lst xs))) (ok : HOk P w H s.heap) (alone : ∀ b, H b ≠ none → b = a) (apart : H a ≠ none → K.lookup a = none)
    (keeps : sp [.ref a] H (fun v _ => v = .bl true) fun _ _ _ => False) (noX : ∀ e s', CX [] H s (fun _ _ _ => False) e s' → False) :
    codeAny (model P w) callerA (.call (.ref fa) ⟨[.ref a], []⟩) (fun r s' => r = .ok (.ret (.bool true)) ∧ OldK s.heap s'.heap ∧ s'.os = s.os ∧ AllBare s'.gens) s := by
  have noDict : ∀ {b : Addr} {o : Obj} {es : Array DictEntry} {ep : Nat}, s.heap.get? b = some o → o.data = .dict es ep → H b = none := fun {b o es ep} e d => by
    by_cases q : H b = none
    · exact q
    · have z := alone b q
      subst z
      rw [at_] at e
      cases e
      cases d
  have ns' : ∀ {b : Addr} {m : Str → Option Value}, s.heap.Ns b m → (hidT s.heap H).Ns b m := fun {b m} ⟨o, es, ep, e, d, r⟩ => ⟨o, es, ep, hidT_get e (noDict e d), d, r⟩
  have inB : K.In (hidT s.heap H) := fun b o e => hidT_get (inK b o e) (by
    by_cases q : H b = none
    · exact q
    · have z := alone b q
      subst z
      rw [apart q] at e
      cases e)
  obtain ⟨mc, lim1, lim2⟩ := lim
  have md : Mod K mg (hidT s.heap H) := ⟨inB, ns' gl, ⟨mb, ns' bn, boot⟩, ⟨mc, ns' lim1, lim2⟩⟩
  have en : Env0 P w K mg (hidT s.heap H) callerA [] s H := ⟨rfl, md, fun b o e => of_hidT e, Nat.le_of_eq (hidT_size _ _), trivial, fun b z => absurd z List.not_mem_nil, ok, .of_eq gens⟩
  refine codeAny_mono ((F _ inB (ns' gl)).go callerA [] s H ⟨[.ref a], []⟩ [.ref a] [.ref a] _ _ rfl room en (bind s (.ref a)) (.cons rfl .nil) keeps) fun r s' hr => ?_
  rcases r with e | fl
  · exact (noX e s' hr).elim
  · cases fl with
    | ret u =>
      obtain ⟨v, H', os, bare, un, ok', rv, rfl⟩ := hr
      cases rv
      refine ⟨rfl, OldK.of_keep fun b o e => ?_, os, bare⟩
      rcases one b with q | ⟨ob, xs, q⟩
      · exact un.keep b o e q (fun z => by cases z) (fun z => by cases z)
      · have e1 := (ok b _ q).1
        have e2 := (ok' b _ (un.frzs b ob _ q)).1
        rw [e] at e1
        cases e1
        exact e2
    | next => exact hr.elim
    | brk => exact hr.elim
    | cont => exact hr.elim
theorem law_callG (inK : K.In s.heap) (gl : s.heap.Ns mainGlobals mg) (bn : s.heap.Ns builtinsNs mb) (boot : ∀ y : Str, y ≠ "__name__" → mb y = bootBuiltins y) (lim : s.heap.NoLimit) (gens : s.gens = #[])
    (at_ : s.heap.get? a = some { cls := .type "list", data := .seq vs.toArray }) (hin : IntsAre vs ns) (few : ns.length ≤ sizeLine) (room : Room k callerA)
    (F : ∀ base : Heap, K.In base → base.Ns mainGlobals mg → FnG P w K mg base CX k fa fd [x] sp) (bind : ∀ (s : Shared) (u : Value), BindsTo s fd ⟨[u], []⟩ [(x, u)])
    (keeps : ∀ H : Hp, Only H → SqL K H a (ns.map V.int) → sp [.ref a] H (fun v _ => v = .bl true) fun _ _ _ => False) (noX : ∀ H e s', CX [] H s (fun _ _ _ => False) e s' → False) :
    codeAny (model P w) callerA (.call (.ref fa) ⟨[.ref a], []⟩) (fun r s' => r = .ok (.ret (.bool true)) ∧ OldK s.heap s'.heap ∧ s'.os = s.os ∧ AllBare s'.gens) s := by
  have rel := vals_ints hin
  cases lk : K.lookup a with
  | some o =>
    have e := inK a o lk
    rw [at_] at e
    cases e
    refine law_coreG (H := fun _ => none) inK gl bn boot lim gens at_ room F bind (fun _ => .inl rfl) (fun b u z => by cases z) (fun b z => (z rfl).elim) (fun z => (z rfl).elim) (keeps _ (fun _ => .inl rfl) ?_) (noX _)
    exact .inr ⟨_, vs.toArray, _, lk, rfl, rfl, rfl, by rw [List.size_toArray, hin.length]; exact few, by simpa using rel⟩
  | none =>
    have here : (fun b => if b = a then some (HO.frz { cls := .type "list", data := .seq vs.toArray } (.lst (ns.map V.int))) else none) a = some (HO.frz { cls := .type "list", data := .seq vs.toArray } (.lst (ns.map V.int))) := if_pos rfl
    have only : ∀ b, (fun b => if b = a then some (HO.frz { cls := .type "list", data := .seq vs.toArray } (.lst (ns.map V.int))) else none) b = none ∨ ∃ o xs, (fun b => if b = a then some (HO.frz { cls := .type "list", data := .seq vs.toArray } (.lst (ns.map V.int))) else none) b = some (.frz o (.lst xs)) := fun b => by
      by_cases q : b = a
      · exact .inr ⟨_, _, if_pos q⟩
      · exact .inl (if_neg q)
    refine law_coreG inK gl bn boot lim gens at_ room F bind only (fun b u z => ?_) (fun b z => ?_) (fun _ => lk) (keeps _ only (.inl (.inr ⟨_, here⟩))) (noX _)
    · by_cases q : b = a
      · subst q
        have z' := here.symm.trans z
        cases z'
        exact ⟨at_, by rw [List.length_map]; exact few, vs, 0, rel, at_⟩
      · rw [if_neg q] at z
        cases z
    · by_cases q : b = a
      · exact q
      · exact (z (if_neg q)).elim
end
/-- the end of a row: the written part's facts, the law's def, its promise -/
theorem walkG {l : PySem.W.OpenLaw} {n k : Nat} {q : Program} {loose : List Str} {XP : (Str → Option Value) → Heap → Prop} {YP : World → Heap → Prop} {d : DefRec} {K : Params → PySem.W.Frag} {CX : World → CXT} {sp : PySem.W.Frag → Sp} {x : Str}
    (hn : l.most = some n) (hn2 : n ≤ sizeLine) (hdf : d.params.defaults = []) (room : Room k callerA) (hY : ∀ (w : World) (h : Heap), YP w h → (K w.params).In h)
    (F : ∀ (w : World) (mg : Str → Option Value) (fa : Addr) (h : Heap), (K w.params).In h → h.Ns mainGlobals mg → mg d.name = some (.ref fa) →
      ∃ fd : FuncData, (∀ (s : Shared) (u : Value), BindsTo s fd ⟨[u], []⟩ [(x, u)]) ∧ ∀ base : Heap, (K w.params).In base → base.Ns mainGlobals mg → FnG l.prog w (K w.params) mg base (CX w) k fa fd [x] (sp (K w.params)))
    (keeps : ∀ (K : PySem.W.Frag) (H : Hp) (a : Addr) (ns : List Int), ns.length ≤ n → Only H → SqL K H a (ns.map V.int) → sp K [.ref a] H (fun v _ => v = .bl true) fun _ _ _ => False)
    (noX : ∀ (w : World) (H : Hp) (s : Shared) (e : Value) (s' : Shared), CX w [] H s (fun _ _ _ => False) e s' → False) : PySem.W.WalkO q loose XP YP l.row.toRowW d [] (fun f vs => PySem.call f vs) := by
  refine Att.attach_call hn hdf fun w s0 s1 mg mb fa o pm cd doc a vs ns G Y _ _ _ hmg hobj hints hlen hg => ?_
  obtain ⟨fd, hb, hF⟩ := F w mg fa _ (hY w _ Y) G.T.g hmg
  exact law_callG (hY w _ Y) G.T.g G.T.b G.T.builtins G.T.nolimit hg hobj hints (Nat.le_trans hlen hn2) room hF hb (fun H only sq => keeps (K w.params) H a ns hlen only sq) fun H e s' => noX w H s1 e s'
/-! ### small data may be shown -/
structure Sm (n : Nat) (d : PyData) : Prop where
  ls : d.leavesShort 40 = true
  sh : d.showable = true
  nd : d.hasDict = false
  dp : d.depth ≤ n
  wt : d.weight ≤ 4 ^ n * 64
theorem Sm.shw {n : Nat} {d : PyData} (h : Sm n d) (hn : n ≤ 6) : Shw d := by
  refine ⟨h.sh, h.nd, by have := h.dp; omega, ?_⟩
  have q := PyData.shown_le 40 (by decide) d h.ls
  have w := h.wt
  have m : (4 : Nat) ^ n ≤ 4 ^ 6 := Nat.pow_le_pow_right (by decide) hn
  have e : sizeLine = 16777216 := rfl
  rw [e]
  have : (4 : Nat) ^ 6 = 4096 := by decide
  omega
end Rp

namespace Rp
open PySem PySem.Spec PyProof.Rows L2
/-- small plain data: how deep at most, how heavy at most -/
structure Sml (m n : Nat) (d : PyData) : Prop where
  cl : d.canLay0 = true
  dp : d.depth ≤ m
  wt : d.weight ≤ n
  ls : d.leavesShort 40 = true
  sh : d.showable = true
theorem Sml.shw {m n : Nat} {d : PyData} (h : Sml m n d) (hm : m ≤ 16) (hn : n ≤ 300000) : Shw d := by
  refine ⟨h.sh, PyData.hasDict_of_canLay d h.cl, Nat.le_trans h.dp hm, ?_⟩
  have q := PyData.shown_le 40 (by decide) d h.ls
  have w := h.wt
  have e : sizeLine = 16777216 := rfl
  rw [e]
  omega
theorem Sml.shaped {m n : Nat} {d : PyData} (h : Sml m n d) (hm : m ≤ 64) : SeqAt.shaped d = true := by
  unfold SeqAt.shaped
  rw [h.cl, decide_eq_true (Nat.le_trans h.dp hm)]
  rfl
theorem Sml.refl {m n : Nat} {d : PyData} (h : Sml m n d) : PyData.eqv d d = true := SeqAt.eqv_refl d h.cl
theorem Sml.mono {m m' n n' : Nat} {d : PyData} (h : Sml m n d) (hm : m ≤ m') (hn : n ≤ n') : Sml m' n' d := ⟨h.cl, Nat.le_trans h.dp hm, Nat.le_trans h.wt hn, h.ls, h.sh⟩
theorem log_lt {n k : Nat} (hk : 0 < k) (h : n < 2 ^ k) : n.log2 < k := by
  by_cases z : n = 0
  · rw [z]
    exact hk
  · exact (Nat.log2_lt z).mpr h
theorem Sml.int {i : Int} (h : i.natAbs < 2 ^ 30) : Sml 0 40 (.int i) := by
  have l := log_lt (by decide) h
  refine ⟨by simp only [PyData.canLay0], by simp only [PyData.depth]; exact Nat.le_refl _, ?_, ?_, by simpa only [PyData.showable] using decide_eq_true (Nat.lt_trans l (by decide))⟩
  · simp only [PyData.weight]
    split
    · exact Nat.zero_le _
    · omega
  · simp only [PyData.leavesShort, PyData.shown, decide_eq_true_eq, PySem.ofString_length]
    have q := int_text_length_le (a := i) (k := 30) (by decide) l
    omega
theorem Sml.bool {b : Bool} : Sml 0 0 (.bool b) := ⟨rfl, Nat.le_refl _, Nat.le_refl _, rfl, rfl⟩
theorem Sml.none : Sml 0 0 .none := ⟨rfl, Nat.le_refl _, Nat.le_refl _, rfl, rfl⟩
theorem Sml.str {x : Str} {n : Nat} (h : PyData.strOk x = true) (hn : x.cps.size ≤ n) : Sml 0 n (.str x) := by
  have c : (PyData.str x).canLay0 = true := by simpa only [PyData.canLay0] using h
  exact ⟨c, by simp only [PyData.depth]; exact Nat.le_refl _, by simpa only [PyData.weight] using hn, PyData.leavesShort_of_canLay0 40 _ c (by simp only [PyData.intsShort]), by simp only [PyData.showable]⟩
theorem sml_all {m n : Nat} : ∀ {xs : List PyData}, (∀ x ∈ xs, Sml m n x) → PyData.canLayAll0 xs = true ∧ PyData.depthAll xs ≤ m ∧ PyData.weightAll xs ≤ xs.length * (n + 1) ∧ PyData.leavesShortAll 40 xs = true ∧ PyData.showableAll xs = true
  | [], _ => ⟨rfl, Nat.zero_le _, by simp [PyData.weightAll], rfl, rfl⟩
  | x :: xs, h => by
    obtain ⟨a, b, c, d, e⟩ := sml_all (xs := xs) fun y hy => h y (List.mem_cons_of_mem _ hy)
    obtain ⟨a', b', c', d', e'⟩ := h x List.mem_cons_self
    refine ⟨by simp only [PyData.canLayAll0, a, a', Bool.and_self], by simp only [PyData.depthAll]; omega, ?_, by simp only [PyData.leavesShortAll, d, d', Bool.and_self], by simp only [PyData.showableAll, e, e', Bool.and_self]⟩
    simp only [PyData.weightAll, List.length_cons]
    have : (xs.length + 1) * (n + 1) = xs.length * (n + 1) + (n + 1) := Nat.succ_mul _ _
    omega
theorem Sml.tup {m n k : Nat} {xs : List PyData} (h : ∀ x ∈ xs, Sml m n x) (hk : xs.length ≤ k) : Sml (m + 1) (k * (n + 1)) (.tuple xs) := by
  obtain ⟨a, b, c, d, e⟩ := sml_all h
  refine ⟨by simpa only [PyData.canLay0] using a, by simp only [PyData.depth]; omega, ?_, by simpa only [PyData.leavesShort] using d, by simpa only [PyData.showable] using e⟩
  simp only [PyData.weight]
  exact Nat.le_trans c (Nat.mul_le_mul_right _ hk)
theorem Sml.lst {m n k : Nat} {xs : List PyData} (h : ∀ x ∈ xs, Sml m n x) (hk : xs.length ≤ k) : Sml (m + 1) (k * (n + 1)) (.list xs) := by
  obtain ⟨a, b, c, d, e⟩ := sml_all h
  refine ⟨by simpa only [PyData.canLay0] using a, by simp only [PyData.depth]; omega, ?_, by simpa only [PyData.leavesShort] using d, by simpa only [PyData.showable] using e⟩
  simp only [PyData.weight]
  exact Nat.le_trans c (Nat.mul_le_mul_right _ hk)
/-! ### a talk's numbers as data -/
def dInts (ns : List Int) : PyData := .tuple (ns.map .int)
def dRows (bs : List (List Int)) : PyData := .tuple (bs.map dInts)
def dTalk (ls : List Int) (bs : List (List Int)) : PyData := .tuple [dInts ls, dRows bs]
/-- small numbers -/
def Low (ns : List Int) : Prop := ns.length ≤ 60 ∧ ∀ n ∈ ns, n.natAbs < 2 ^ 30
theorem Low.sml {ns : List Int} (h : Low ns) : Sml 1 2460 (dInts ns) :=
  (Sml.tup (k := 60) (fun x hx => by obtain ⟨n, hn, rfl⟩ := List.mem_map.mp hx; exact Sml.int (h.2 n hn)) (by rw [List.length_map]; exact h.1)).mono (Nat.le_refl _) (by decide)
def LowRows (bs : List (List Int)) : Prop := bs.length ≤ 60 ∧ ∀ row ∈ bs, Low row
theorem LowRows.sml {bs : List (List Int)} (h : LowRows bs) : Sml 2 147660 (dRows bs) :=
  (Sml.tup (k := 60) (fun x hx => by obtain ⟨n, hn, rfl⟩ := List.mem_map.mp hx; exact (h.2 n hn).sml) (by rw [List.length_map]; exact h.1)).mono (Nat.le_refl _) (by decide)
theorem talk_sml {ls : List Int} {bs : List (List Int)} (h1 : Low ls) (h2 : LowRows bs) : Sml 3 295322 (dTalk ls bs) :=
  (Sml.tup (k := 2) (m := 2) (n := 147660) (fun x hx => by
    rcases List.mem_cons.mp hx with rfl | hx
    · exact h1.sml.mono (by decide) (by decide)
    · rw [List.mem_singleton.mp hx]; exact h2.sml) (Nat.le_refl _)).mono (Nat.le_refl _) (by decide)
end Rp

namespace Rp
open PySem PySem.Spec PyProof.Rows L2
/-! ### data at an address -/
theorem dp_ints_all {K : PySem.W.Frag} {H : Hp} : ∀ ns : List Int, DpAll K H (ns.map V.int) (ns.map PyData.int)
  | [] => .nil
  | n :: ns => .cons (.int n) (dp_ints_all ns)
theorem dp_ints {K : PySem.W.Frag} {H : Hp} {a : Addr} {ns : List Int} (h : H a = some (.tup (ns.map V.int))) : Dp K H (.ref a) (dInts ns) := .tup (SqT.of h) (dp_ints_all ns)
theorem dp_rows_all {K : PySem.W.Frag} {H : Hp} : ∀ {qs : List Addr} {bs : List (List Int)}, RowsAt H qs bs → DpAll K H (qs.map V.ref) (bs.map dInts)
  | _, _, .nil => .nil
  | _, _, .cons h t => .cons (dp_ints h) (dp_rows_all t)
theorem dp_rows {K : PySem.W.Frag} {H : Hp} {b : Addr} {qs : List Addr} {bs : List (List Int)} (h : H b = some (.tup (qs.map V.ref))) (r : RowsAt H qs bs) : Dp K H (.ref b) (dRows bs) := .tup (SqT.of h) (dp_rows_all r)
theorem TalkRow.dp {K : PySem.W.Frag} {H : Hp} {p : Addr} {ls : List Int} {bs : List (List Int)} (h : TalkRow H p ls bs) : Dp K H (.ref p) (dTalk ls bs) :=
  let ⟨_, _, _, h1, h2, h3, h4⟩ := h
  .tup (SqT.of h1) (.cons (dp_ints h2) (.cons (dp_rows h3 h4) .nil))
/-! ### parts -/
def part {α : Type} (i j : Nat) (l : List α) : List α := (l.drop i).take (j + 1 - i)
theorem RowsAt.drop {H : Hp} : ∀ (n : Nat) {qs : List Addr} {bs : List (List Int)}, RowsAt H qs bs → RowsAt H (qs.drop n) (bs.drop n)
  | 0, _, _, h => h
  | _ + 1, _, _, .nil => .nil
  | n + 1, _, _, .cons _ t => RowsAt.drop n t
theorem RowsAt.take {H : Hp} : ∀ (n : Nat) {qs : List Addr} {bs : List (List Int)}, RowsAt H qs bs → RowsAt H (qs.take n) (bs.take n)
  | 0, _, _, _ => .nil
  | _ + 1, _, _, .nil => .nil
  | n + 1, _, _, .cons h t => .cons h (RowsAt.take n t)
theorem RowsAt.part {H : Hp} {i j : Nat} {qs : List Addr} {bs : List (List Int)} (h : RowsAt H qs bs) : RowsAt H (Rp.part i j qs) (Rp.part i j bs) := (h.drop i).take _
theorem RowsAt.append {H : Hp} : ∀ {qs qs' : List Addr} {bs bs' : List (List Int)}, RowsAt H qs bs → RowsAt H qs' bs' → RowsAt H (qs ++ qs') (bs ++ bs')
  | _, _, _, _, .nil, h => h
  | _, _, _, _, .cons a t, h => .cons a (RowsAt.append t h)
theorem cut_map {α : Type} (f : α → V) (l : List α) (i j : Nat) (hj : j < l.length) (hi : i ≤ j) : cutV (l.map f) (some (i : Int)) (some ((j : Int) + 1)) = (part i j l).map f := by
  have e : ((j : Int) + 1) = ((j + 1 : Nat) : Int) := by omega
  unfold cutV part
  rw [e, HT.sIx_nat, HT.sIx_nat, List.length_map, ← List.map_drop, ← List.map_take, show min i l.length = i by omega, show min (j + 1) l.length = j + 1 by omega]
theorem Same.upd {H : Hp} {p : Addr} {o : HO} (h : H p = none) : Same H (upd H p o) := fun b u e => by rw [upd_ne (ne_of_none e h)]; exact e
/-- a slice of a tuple that is tracked: some tuple of these items -/
theorem sl_by {K : PySem.W.Frag} {H : Hp} {a : Addr} {xs : List V} {lo hi : Option Int} {Q : VK} (h : H a = some (.tup xs)) (k : ∀ p H', Same H H' → H' p = some (.tup (cutV xs lo hi)) → Q (.ref p) H') : rSlA K (.ref a) lo hi H Q := by
  refine ⟨a, xs, rfl, SqT.of h, fun w => k a H (Same.refl H) ?_, fun _ p hp => k p _ (Same.upd hp) upd_same⟩
  have e : cutV xs lo hi = xs := by
    unfold cutV
    rw [w.1, w.2, Nat.sub_zero, List.drop_zero, List.take_length]
  rw [e]
  exact h
/-- both, one behind the other -/
theorem cat_by {K : PySem.W.Frag} {H : Hp} {a b : Addr} {xs ys : List V} {Q : VK} (h : H a = some (.tup xs)) (h' : H b = some (.tup ys)) (hz : xs.length + ys.length ≤ sizeLine) (k : ∀ p H', Same H H' → H' p = some (.tup (xs ++ ys)) → Q (.ref p) H') : rCatA K (.ref a) (.ref b) H Q := by
  refine ⟨a, b, xs, ys, rfl, rfl, SqT.of h, SqT.of h', hz, fun e => k b H (Same.refl H) ?_, fun _ e => k a H (Same.refl H) ?_, fun _ _ p hp => k p _ (Same.upd hp) upd_same⟩
  · rw [e]; exact h'
  · rw [e, List.append_nil]; exact h
theorem TalkRow.same {H H' : Hp} {p : Addr} {ls : List Int} {bs : List (List Int)} (h : TalkRow H p ls bs) (s : Same H H') : TalkRow H' p ls bs := h.imp fun _ _ e => s _ _ e

/-! ### the class -/
/-- a Talk of these numbers at x -/
def TalkAt (C : Addr) (H : Hp) (x : Addr) (ls : List Int) (bs : List (List Int)) : Prop :=
  ∃ dx a b qs, H x = some (.ins C dx [("lengths", .ref a), ("sizes", .ref b)]) ∧ H a = some (.tup (ls.map V.int)) ∧ H b = some (.tup (qs.map V.ref)) ∧ RowsAt H qs bs
theorem TalkAt.same {C : Addr} {H H' : Hp} {x : Addr} {ls : List Int} {bs : List (List Int)} (h : TalkAt C H x ls bs) (s : Same H H') : TalkAt C H' x ls bs :=
  let ⟨dx, a, b, qs, h1, h2, h3, h4⟩ := h
  ⟨dx, a, b, qs, s _ _ h1, s _ _ h2, s _ _ h3, h4.imp fun _ _ e => s _ _ e⟩
structure TkC (K : PySem.W.Frag) (C fI fE fM fC fJ : Addr) : Prop where
  cl : Cls K C
  make : Mk K C fI
  nl : NoAttr K C "lengths"
  ns : NoAttr K C "sizes"
  eq : PySem.W.findIn K (.ref C) "__eq__" = some (some (.ref fE))
  eqf : PySem.W.isFn K (.ref fE) = true
  mM : Meth K C "many_rates" fM
  mC : Meth K C "cut" fC
  mJ : Meth K C "joined" fJ
  ca : PySem.W.findIn K (.ref C) "__class__" = some (some (.builtin "object.__class__"))
  cn : PySem.W.specialIn K (.builtin "object.__class__") "__get__" = some (some (.builtin "getset_descriptor.__get__"))
  ct : PySem.W.takesIn K (.builtin "object.__class__") = some true
  cm : PySem.W.mroIn K C (.type "object") = some true
theorem TkC.ty {K : PySem.W.Frag} {C fI fE fM fC fJ : Addr} (T : TkC K C fI fE fM fC fJ) {H : Hp} {x dx : Addr} {fs : List (Str × V)} (h : H x = some (.ins C dx fs)) : TyX K H (.ref x) (.ref C) := .base (.ins h T.cl T.ca T.cn T.ct T.cm)
theorem kit_self {K : PySem.W.Frag} {C : Addr} : PySem.W.kitOne K (.ref C) (.ref C) = some true := by
  unfold PySem.W.kitOne
  rw [if_pos (beq_self_eq_true _)]
abbrev sInit : Stmt := inClass (topS 8) 0
abbrev sEq : Stmt := inClass (topS 8) 2
abbrev sMany : Stmt := inClass (topS 8) 5
abbrev sCut : Stmt := inClass (topS 8) 6
abbrev sJoin : Stmt := inClass (topS 8) 7
theorem scInit : FnScope ["self", "lengths", "sizes"] ["self", "lengths", "sizes"] (defScope sInit) := ⟨rfl, rfl, rfl, by decide +kernel, rfl, by decide +kernel, by decide +kernel⟩
theorem scEq : FnScope ["self", "other"] ["self", "other"] (defScope sEq) := ⟨rfl, rfl, rfl, by decide +kernel, rfl, by decide +kernel, by decide +kernel⟩
theorem scMany : FnScope ["self"] ["self"] (defScope sMany) := ⟨rfl, rfl, rfl, by decide +kernel, rfl, by decide +kernel, by decide +kernel⟩
theorem scCut : FnScope ["self", "first", "last", "behind"] ["self", "first", "last"] (defScope sCut) := ⟨rfl, rfl, rfl, by decide +kernel, rfl, by decide +kernel, by decide +kernel⟩
/-- a new Talk's fields -/
def spInit (C : Addr) : Sp := fun vs H Q _ => ∃ x dx v1 v2, vs = [.ref x, v1, v2] ∧ H x = some (.ins C dx []) ∧
  ∀ H', (∀ b o, b ≠ x → H b = some o → H' b = some o) → H' x = some (.ins C dx [("lengths", v1), ("sizes", v2)]) → Q .non H'
def spMany (C : Addr) : Sp := fun vs H Q _ => ∃ x ls row bs, vs = [.ref x] ∧ TalkAt C H x ls (row :: bs) ∧ Q (.int (row.length : Nat)) H
def spCut (C : Addr) : Sp := fun vs H Q _ => ∃ (x : Addr) (i j : Nat) (ls : List Int) (bs : List (List Int)), vs = [.ref x, .int i, .int j] ∧ TalkAt C H x ls bs ∧ i ≤ j ∧ j < ls.length ∧ ls.length = bs.length ∧
  ∀ H' y, Same H H' → TalkAt C H' y (part i j ls) (part i j bs) → Q (.ref y) H'
/-- what == is asked of -/
def EqT (C : Addr) : Addr → Addr → Hp → Prop := fun a b H => ∃ ls bs, TalkAt C H a ls bs ∧ TalkAt C H b ls bs ∧ Low ls ∧ LowRows bs
/-- a new Talk, and all that stood -/
theorem made_talk {C x dx : Addr} {H : Hp} {v1 v2 : V} {R : VK} {E : XK} (nx : H x = none) (ndx : H dx = none) (ne : dx ≠ x) (k : ∀ H', Same H H' → (∃ dx, H' x = some (.ins C dx [("lengths", v1), ("sizes", v2)])) → R .non H') :
    spInit C [.ref x, v1, v2] (upd (upd H dx (.own x)) x (.ins C dx [])) R E :=
  ⟨x, dx, v1, v2, rfl, upd_same, fun H' kp hx => k H' (fun b o e => kp b o (ne_of_none e nx) (by rw [upd_ne (ne_of_none e nx), upd_ne (ne_of_none e ndx)]; exact e)) ⟨dx, hx⟩⟩
section
variable {P : Program} {w : World} {K : PySem.W.Frag} {mg : Str → Option Value} {base : Heap} {C fI fE fM fC fJ : Addr} {fdI : FuncData}
theorem ok_init {fd : FuncData} (F : Fun K "__init__" "Talk.__init__" sInit fI fd) (T : TkC K C fI fE fM fC fJ) : FnOk P w K mg base CX0 1 fI fd ["self", "lengths", "sizes"] (spInit C) := by
  refine F.ok scInit (fun vs H Q E h => ?_) (fun cdv A outer s H vs Q E hr h => ?_)
  · obtain ⟨_, _, _, _, rfl, _⟩ := h
    rfl
  · have nd := scInit.nd
    refine ⟨_, pss_cons (ps_fld (pv 0) (pv 1) rfl)
    (pss_one (ps_fld (pv 0) (pv 2) rfl)), ?_⟩
    obtain ⟨x, dx, v1, v2, rfl, hx, k⟩ := h
    refine ⟨_, rfl, _, rfl, x, C, dx, _, rfl, hx, T.cl, T.nl, (by show 0 < 1000; decide), ?_⟩
    refine ⟨_, rfl, _, rfl, x, C, dx, _, rfl, upd_same, T.cl, T.ns, (by show 1 < 1000; decide), ?_⟩
    refine k _ (fun b o n e => ?_) ?_
    · rw [upd_ne n, upd_ne n]; exact e
    · rw [upd_same]; rfl
theorem ok_many {fd : FuncData} (F : Fun K "many_rates" "Talk.many_rates" sMany fM fd) (T : TkC K C fI fE fM fC fJ) (B : Bi mg) : FnOk P w K mg base CX0 1 fM fd ["self"] (spMany C) := by
  refine F.ok scMany (fun vs H Q E h => ?_) (fun cdv A outer s H vs Q E hr h => ?_)
  · obtain ⟨_, _, _, _, rfl, _⟩ := h
    rfl
  · refine ⟨_, pss_one (ps_ret (pe_callB call_len_seq (by rfl) B.len PySem.boot_len (pa_cons (pe_ix ix_tup (pe_fld (pv 0) rfl) (pe_int) (fun _ _ => rfl)) pa_nil))), ?_⟩
    obtain ⟨x, ls, row, bs, rfl, ⟨dx, a, b, qs, h1, h2, h3, h4⟩, q⟩ := h
    cases h4 with
    | @cons q0 _ qs' _ hq ht =>
      refine ⟨_, rfl, x, C, dx, _, _, rfl, h1, T.cl, T.ns, rfl, b, _, 0, _, rfl, rfl, SqT.of h3, at_of (j := 0) rfl rfl, ?_⟩
      refine ⟨q0, _, rfl, .inr (SqT.of hq), ?_⟩
      rw [List.length_map]
      exact q
theorem ok_eq {fd : FuncData} (F : Fun K "__eq__" "Talk.__eq__" sEq fE fd) (T : TkC K C fI fE fM fC fJ) (mC : mg "Talk" = some (.ref C)) (mI : mg "isinstance" = none) : FnOk P w K mg base CX0 1 fE fd ["self", "other"] (spEq (EqT C)) := by
  refine F.ok scEq (fun vs H Q E h => ?_) (fun cdv A outer s H vs Q E hr h => ?_)
  · obtain ⟨_, _, rfl, _⟩ := h
    rfl
  · refine ⟨_, pss_one (ps_ret (pe_and (pe_callB call_isi (by rfl) mI (by decide +kernel) (pa_cons (pv 1) (pa_cons (pe_glob (v := .ref C) (by rfl) mC rfl) pa_nil))) (pe_and (pe_cmpR (op_eqD hr.units) (pe_fld (pv 0) rfl) (pe_fld (pv 1) rfl) (nomark _)) (pe_one (pe_cmpR (op_eqD hr.units) (pe_fld (pv 0) rfl) (pe_fld (pv 1) rfl) (nomark _)))))), ?_⟩
    obtain ⟨x, y, rfl, ⟨ls, bs, ⟨dx, a, b, qs, h1, h2, h3, h4⟩, ⟨dy, a', b', qs', g1, g2, g3, g4⟩, lo, lor⟩, q⟩ := h
    refine ⟨_, rfl, _, _, _, _, true, rfl, .own C, T.ty g1, kit_self, true, rfl, iteT ?_⟩
    refine ⟨_, rfl, x, C, dx, _, _, rfl, h1, T.cl, T.nl, rfl, _, rfl, y, C, dy, _, _, rfl, g1, T.cl, T.nl, rfl, _, _, dp_ints h2, dp_ints g2, lo.sml.shaped (by decide), lo.sml.shaped (by decide), _, rfl, ?_⟩
    rw [lo.sml.refl]
    refine iteT ?_
    refine ⟨_, rfl, x, C, dx, _, _, rfl, h1, T.cl, T.ns, rfl, _, rfl, y, C, dy, _, _, rfl, g1, T.cl, T.ns, rfl, _, _, dp_rows h3 h4, dp_rows g3 g4, lor.sml.shaped (by decide), lor.sml.shaped (by decide), ?_⟩
    rw [lor.sml.refl]
    exact q H Ext.rfl'
theorem ok_cut {fd : FuncData} (F : Fun K "cut" "Talk.cut" sCut fC fd) (T : TkC K C fI fE fM fC fJ) (mC : mg "Talk" = some (.ref C)) (FI : Fun K "__init__" "Talk.__init__" sInit fI fdI) (bI : L2.Binds K fdI ["self", "lengths", "sizes"] []) : FnOk P w K mg base CX0 3 fC fd ["self", "first", "last"] (spCut C) := by
  have GI : FnOk P w K mg base CX0 1 fI fdI ["self", "lengths", "sizes"] (spInit C) := ok_init FI T
  refine F.ok scCut (fun vs H Q E h => ?_) (fun cdv A outer s H vs Q E hr h => ?_)
  · obtain ⟨_, _, _, _, _, rfl, _⟩ := h
    rfl
  · have nd := scCut.nd
    refine ⟨_, pss_cons (ps_set (i := 3) nd rfl (Or.inl rfl) (pe_op op_add (pv 2) (pe_int)))
    (pss_one (ps_ret (pe_make T.make GI hr (by rfl) mC bI .nil pass0 (pa_cons (pe_slice sl_tupA (pe_fld (pv 0) rfl) (po_some (pv 1)) (po_some (pv 3))) (pa_cons (pe_slice sl_tupA (pe_fld (pv 0) rfl) (po_some (pv 1)) (po_some (pv 3))) pa_nil))))), ?_⟩
    obtain ⟨x, i, j, ls, bs, rfl, ⟨dx, a, b, qs, h1, h2, h3, h4⟩, hij, hj, hlb, k⟩ := h
    have hq : qs.length = bs.length := h4.length
    refine ⟨_, rfl, _, _, rfl, rfl, ?_⟩
    refine ⟨_, rfl, x, C, dx, _, _, rfl, h1, T.cl, T.nl, rfl, _, rfl, _, rfl, _, rfl, _, rfl, sl_by h2 fun p H1 s1 hp => ?_⟩
    rw [cut_map V.int ls i j hj hij] at hp
    refine ⟨_, rfl, x, C, dx, _, _, rfl, s1 _ _ h1, T.cl, T.ns, rfl, _, rfl, _, rfl, _, rfl, _, rfl, sl_by (s1 _ _ h3) fun p2 H2 s2 hp2 => ?_⟩
    rw [cut_map V.ref qs i j (by omega) hij] at hp2
    refine fun y dy ny ndy ne => made_talk ny ndy ne fun H3 s3 ⟨dz, hz⟩ => ⟨rfl, ?_⟩
    exact k H3 y ((s1.trans s2).trans s3) ⟨dz, p, p2, part i j qs, hz, s3 _ _ (s2 _ _ hp), s3 _ _ hp2, (h4.part).imp fun _ _ e => s3 _ _ (s2 _ _ (s1 _ _ e))⟩
end
end Rp

namespace Rp
open PySem PySem.Spec PyProof.Rows L2
abbrev sUnl : Stmt := inClass (topS 4) 0
theorem scUnl : FnScope ["self", "one", "other"] ["self", "one", "other"] (defScope sUnl) := ⟨rfl, rfl, rfl, by decide +kernel, rfl, by decide +kernel, by decide +kernel⟩
theorem scJoin : FnScope ["self", "other"] ["self", "other"] (defScope sJoin) := ⟨rfl, rfl, rfl, by decide +kernel, rfl, by decide +kernel, by decide +kernel⟩
/-- what the written part says of Unlike -/
structure UnC (K : PySem.W.Frag) (mg : Str → Option Value) (CU fU : Addr) : Prop where
  oc : OexC K CU
  iU : PySem.W.findIn K (.ref CU) "__init__" = some (some (.ref fU))
  tU : PySem.W.typeIn K (.ref fU) = some (.type "function")
  mU : mg "Unlike" = some (.ref CU)
  n1 : PySem.W.findIn K (.ref CU) "one" = some none
  n2 : PySem.W.findIn K (.ref CU) "other" = some none
def spUnl (CU : Addr) : Sp := fun vs H Q _ => ∃ a v1 v2, vs = [.ref a, v1, v2] ∧ H a = some (exo a CU none) ∧
  ∀ d H', H d = none → d ≠ a → (∀ b o, b ≠ a → H b = some o → H' b = some o) → H' a = some (exo a CU (some d)) → H' d = some (exd d [("other", v2), ("one", v1)]) → Q .non H'
def spJoin (C CU : Addr) : Sp := fun vs H Q E => ∃ (x y : Addr) (l1 r1 : List Int) (b1 : List (List Int)) (l2 r2 : List Int) (b2 : List (List Int)), vs = [.ref x, .ref y] ∧ TalkAt C H x l1 (r1 :: b1) ∧ TalkAt C H y l2 (r2 :: b2) ∧
  l1.length + l2.length ≤ 1000 ∧ b1.length + b2.length ≤ 900 ∧
  (r1.length ≠ r2.length → ∀ d H', H d = none → Same H H' → H' d = some (.xd [("other", .int (r2.length : Nat)), ("one", .int (r1.length : Nat))]) → E (.ref CU) (some d) H') ∧
  (r1.length = r2.length → ∀ H' z, Same H H' → TalkAt C H' z (l1 ++ l2) ((r1 :: b1) ++ (r2 :: b2)) → Q (.ref z) H')
section
variable {P : Program} {w : World} {K : PySem.W.Frag} {mg : Str → Option Value} {base : Heap} {C fI fE fM fC fJ CU fU : Addr} {fdI fdM fdU : FuncData}
theorem ok_unl {fd : FuncData} (F : Fun K "__init__" "Unlike.__init__" sUnl fU fd) (U : UnC K mg CU fU) (mV : mg "ValueError" = none) (vV : PySem.W.findCls K (.type "ValueError") (.type "type") "__init__" = some (.val (.builtin "ValueError.__init__"))) :
    FnOk P w K mg base CX0 1 fU fd ["self", "one", "other"] (spUnl CU) := by
  refine F.ok scUnl (fun vs H Q E h => ?_) (fun cdv A outer s H vs Q E hr h => ?_)
  · obtain ⟨_, _, _, rfl, _⟩ := h
    rfl
  · refine ⟨_, pss_cons (ps_expr (pe_veinit (by rfl) mV vV (pa_cons (pv 0) (pa_cons (pv 1) (pa_cons (pv 2) pa_nil)))))
    (pss_cons (ps_ost (pv 0) (pv 1))
    (pss_one (ps_ost (pv 0) (pv 2)))), ?_⟩
    obtain ⟨a, v1, v2, rfl, ha, k⟩ := h
    refine ⟨_, rfl, _, rfl, _, rfl, a, CU, _, rfl, (by show 2 ≤ 1000; decide), U.oc, ha, ?_⟩
    refine ⟨_, rfl, _, rfl, a, CU, rfl, U.oc, U.n1, .inl ⟨ha, fun d hd hne => ?_⟩⟩
    refine ⟨_, rfl, _, rfl, a, CU, rfl, U.oc, U.n2, .inr ⟨d, _, upd_same, (by rw [upd_ne hne]; exact upd_same), (by show 1 ≤ 900; decide), ?_⟩⟩
    refine k d _ hd hne (fun b o n e => ?_) ?_ upd_same
    · rw [upd_ne (ne_of_none e hd), upd_ne n, upd_ne (ne_of_none e hd)]; exact e
    · rw [upd_ne (Ne.symm hne), upd_same]
theorem dec_nat {m n : Nat} : decide (V.int (m : Int) = V.int (n : Int)) = decide (m = n) := by
  by_cases h : m = n
  · subst h; simp
  · rw [decide_eq_false h, decide_eq_false]
    intro z
    injection z with z
    exact h (Int.ofNat.inj z)
theorem ok_join {fd : FuncData} (F : Fun K "joined" "Talk.joined" sJoin fJ fd) (T : TkC K C fI fE fM fC fJ) (U : UnC K mg CU fU) (B : Bi mg) (mC : mg "Talk" = some (.ref C)) (mV : mg "ValueError" = none)
    (vV : PySem.W.findCls K (.type "ValueError") (.type "type") "__init__" = some (.val (.builtin "ValueError.__init__")))
    (FI : Fun K "__init__" "Talk.__init__" sInit fI fdI) (bI : L2.Binds K fdI ["self", "lengths", "sizes"] []) (FM : Fun K "many_rates" "Talk.many_rates" sMany fM fdM) (bM : L2.Binds K fdM ["self"] [])
    (FU : Fun K "__init__" "Unlike.__init__" sUnl fU fdU) (bU : L2.Binds K fdU ["self", "one", "other"] []) : FnOk P w K mg base (L2.CX P w) 3 fJ fd ["self", "other"] (spJoin C CU) := by
  have GI : FnOk P w K mg base CX0 1 fI fdI ["self", "lengths", "sizes"] (spInit C) := ok_init FI T
  have GM : FnOk P w K mg base CX0 1 fM fdM ["self"] (spMany C) := ok_many FM T B
  have GU : FnOk P w K mg base CX0 1 fU fdU ["self", "one", "other"] (spUnl CU) := ok_unl FU U mV vV
  refine F.okX scJoin (fun vs H Q E h => ?_) (fun cdv A outer s H vs Q E hr h => ?_)
  · obtain ⟨_, _, _, _, _, _, _, _, rfl, _⟩ := h
    rfl
  · have hr1 : Room 1 _ := hr.mono (by decide)
    refine ⟨_, pss_cons (ps_if (pt_cmpR op_ne (pe_meth0 (pv 0) T.cl T.mM GM hr1 bM .nil pass0) (pe_meth0 (pv 1) T.cl T.mM GM hr1 bM .nil pass0) (nomark _)) (pss_one (ps_raise rfl (takes_of rfl rfl rfl rfl) (pmk_oex U.oc U.iU U.tU GU hr bU .nil pass0 (by rfl) U.mU (pa_cons (pe_meth0 (pv 0) T.cl T.mM GM hr1 bM .nil pass0) (pa_cons (pe_meth0 (pv 1) T.cl T.mM GM hr1 bM .nil pass0) pa_nil))))) (pss_nil))
    (pss_one (ps_ret (pe_make T.make GI hr (by rfl) mC bI .nil pass0 (pa_cons (pe_op op_catA (pe_fld (pv 0) rfl) (pe_fld (pv 1) rfl)) (pa_cons (pe_op op_catA (pe_fld (pv 0) rfl) (pe_fld (pv 1) rfl)) pa_nil))))), ?_⟩
    obtain ⟨x, y, l1, r1, b1, l2, r2, b2, rfl, hx, hy, z1, z2, kE, kQ⟩ := h
    obtain ⟨dx, a, b, qs, h1, h2, h3, h4⟩ := id hx
    obtain ⟨dy, a', b', qs', g1, g2, g3, g4⟩ := id hy
    refine ⟨_, rfl, x, dx, _, rfl, h1, rfl, x, l1, r1, b1, rfl, hx, ?_⟩
    refine ⟨_, rfl, y, dy, _, rfl, g1, rfl, y, l2, r2, b2, rfl, hy, rfl, _, rfl, ?_⟩
    rw [dec_nat]
    by_cases c : r1.length = r2.length
    · rw [decide_eq_true c]
      refine iteF ?_
      refine ⟨_, rfl, x, C, dx, _, _, rfl, h1, T.cl, T.nl, rfl, _, rfl, y, C, dy, _, _, rfl, g1, T.cl, T.nl, rfl, cat_by h2 g2 (by rw [List.length_map, List.length_map]; exact Nat.le_trans z1 (by decide)) fun p H1 s1 hp => ?_⟩
      refine ⟨_, rfl, x, C, dx, _, _, rfl, s1 _ _ h1, T.cl, T.ns, rfl, _, rfl, y, C, dy, _, _, rfl, s1 _ _ g1, T.cl, T.ns, rfl, cat_by (s1 _ _ h3) (s1 _ _ g3) (by
        rw [List.length_map, List.length_map, h4.length, g4.length, List.length_cons, List.length_cons]; exact Nat.le_trans (show b1.length + 1 + (b2.length + 1) ≤ 1000 by omega) (by decide)) fun p2 H2 s2 hp2 => ?_⟩
      refine fun z dz nz ndz ne => made_talk nz ndz ne fun H3 s3 ⟨dz, hz⟩ => ⟨rfl, ?_⟩
      have s13 := (s1.trans s2).trans s3
      refine kQ c H3 z s13 ⟨dz, p, p2, qs ++ qs', hz, ?_, ?_, ?_⟩
      · rw [List.map_append]; exact s3 _ _ (s2 _ _ hp)
      · rw [List.map_append]; exact s3 _ _ hp2
      · exact (h4.append g4).imp fun _ _ e => s13 _ _ e
    · rw [decide_eq_false c]
      refine iteT ?_
      refine ⟨_, rfl, x, dx, _, rfl, h1, rfl, x, l1, r1, b1, rfl, hx, ?_⟩
      refine ⟨_, rfl, y, dy, _, rfl, g1, rfl, y, l2, r2, b2, rfl, hy, (by show 2 ≤ 1000; decide), fun e he => ?_⟩
      refine ⟨e, _, _, rfl, upd_same, fun d H' hd hne kp ha hd' => ?_⟩
      have hd0 : H d = none := by rw [← hd, upd_ne hne]
      refine ⟨rfl, d, _, ha, hd', hd0, ?_⟩
      refine kE c d _ hd0 (fun b o q => ?_) upd_same
      have nb : b ≠ e := ne_of_none q he
      rw [upd_ne (ne_of_none q hd0), del_ne nb]
      exact kp b o nb (by rw [upd_ne nb]; exact q)
end
end Rp

namespace Rp
open PySem PySem.Spec PyProof.Rows L2
/-! ### the items from i to j, one by one -/
def sel {α : Type} (i j n : Nat) (l : List α) : List α := (l.take (min n (j + 1))).drop i
theorem sel_zero {α : Type} {i j : Nat} {l : List α} : sel i j 0 l = [] := by
  unfold sel
  rw [Nat.zero_min, List.take_zero, List.drop_nil]
theorem sel_in {α : Type} {i j n : Nat} {l : List α} {v : α} (hv : l[n]? = some v) (h1 : i ≤ n) (h2 : n ≤ j) : sel i j (n + 1) l = sel i j n l ++ [v] := by
  obtain ⟨hn, rfl⟩ := List.getElem?_eq_some_iff.mp hv
  unfold sel
  rw [show min (n + 1) (j + 1) = n + 1 by omega, show min n (j + 1) = n by omega, List.take_succ_eq_append_getElem hn, List.drop_append_of_le_length (by rw [List.length_take]; omega)]
theorem sel_out {α : Type} {i j n : Nat} {l : List α} (h : ¬ (i ≤ n ∧ n ≤ j)) (hij : i ≤ j) : sel i j (n + 1) l = sel i j n l := by
  unfold sel
  by_cases c : n < i
  · rw [List.drop_eq_nil_of_le (by rw [List.length_take]; omega), List.drop_eq_nil_of_le (by rw [List.length_take]; omega)]
  · rw [show min (n + 1) (j + 1) = j + 1 by omega, show min n (j + 1) = j + 1 by omega]
theorem sel_end {α : Type} {i j : Nat} {l : List α} (hj : j < l.length) : sel i j l.length l = part i j l := by
  unfold sel part
  rw [show min l.length (j + 1) = j + 1 by omega, List.drop_take]
theorem sel_len {α : Type} {i j n : Nat} {l : List α} : (sel i j n l).length ≤ l.length := by
  unfold sel
  rw [List.length_drop, List.length_take]
  omega
theorem part_mem {α : Type} {i j : Nat} {l : List α} {x : α} (h : x ∈ part i j l) : x ∈ l := List.mem_of_mem_drop (List.mem_of_mem_take h)
theorem part_len {α : Type} {i j : Nat} {l : List α} : (part i j l).length ≤ l.length := by
  unfold part
  rw [List.length_take, List.length_drop]
  omega
theorem Fine.low {ls : List Int} {bs : List (List Int)} (h : Fine ls bs) : Low ls := ⟨Nat.le_trans h.most (by decide), fun n hn => by have := h.ls n hn; omega⟩
theorem Fine.lowR {ls : List Int} {bs : List (List Int)} (h : Fine ls bs) : LowRows bs := by
  obtain ⟨r, h1, h2, h3⟩ := h.bs
  refine ⟨by have := h.most; have := h.same; omega, fun row hr => ?_⟩
  obtain ⟨e, ok⟩ := h3 row hr
  exact ⟨by omega, fun n hn => by have := ok n hn; omega⟩
theorem Low.part {ns : List Int} {i j : Nat} (h : Low ns) : Low (Rp.part i j ns) := ⟨Nat.le_trans part_len h.1, fun n hn => h.2 n (part_mem hn)⟩
theorem LowRows.part {bs : List (List Int)} {i j : Nat} (h : LowRows bs) : LowRows (Rp.part i j bs) := ⟨Nat.le_trans part_len h.1, fun n hn => h.2 n (part_mem hn)⟩
theorem part_all {α : Type} {l : List α} (h : 0 < l.length) : part 0 (l.length - 1) l = l := by
  unfold part
  rw [List.drop_zero, show l.length - 1 + 1 - 0 = l.length by omega, List.take_length]
/-! ### _law_parts -/
abbrev sParts : Stmt := topS 13
theorem scParts : FnScope ["_law_talk_here"] ["_law_talk_here"] (defScope sParts) := ⟨rfl, rfl, rfl, by decide +kernel, rfl, by decide +kernel, by decide +kernel⟩
def spParts (C : Addr) : Sp := fun vs H Q _ => ∃ x ls bs, vs = [.ref x] ∧ TalkAt C H x ls bs ∧ ∀ H' p, Same H H' → TalkRow H' p ls bs → Q (.ref p) H'
section
variable {P : Program} {w : World} {K : PySem.W.Frag} {mg : Str → Option Value} {base : Heap} {C fI fE fM fC fJ : Addr}
theorem ok_parts {f : Addr} {fd : FuncData} (F : Fun K "_law_parts" "_law_parts" sParts f fd) (T : TkC K C fI fE fM fC fJ) (mC : mg "Talk" = some (.ref C)) (mI : mg "isinstance" = none) : FnOk P w K mg base CX0 1 f fd ["_law_talk_here"] (spParts C) := by
  refine F.ok scParts (fun vs H Q E h => ?_) (fun cdv A outer s H vs Q E hr h => ?_)
  · obtain ⟨_, _, _, rfl, _⟩ := h
    rfl
  · refine ⟨_, pss_one (ps_ret (pe_ifExp (pt_val (pe_callB call_isi (by rfl) mI (by decide +kernel) (pa_cons (pv 0) (pa_cons (pe_glob (v := .ref C) (by rfl) mC rfl) pa_nil)))) (pe_tup (pa_cons (pe_fld (pv 0) rfl) (pa_cons (pe_fld (pv 0) rfl) pa_nil))) (pe_non))), ?_⟩
    obtain ⟨x, ls, bs, rfl, ⟨dx, a, b, qs, h1, h2, h3, h4⟩, k⟩ := h
    refine ⟨_, rfl, _, _, _, _, true, rfl, .own C, T.ty h1, kit_self, true, rfl, iteT ?_⟩
    refine ⟨_, rfl, x, C, dx, _, _, rfl, h1, T.cl, T.nl, rfl, _, rfl, x, C, dx, _, _, rfl, h1, T.cl, T.ns, rfl, (by show 2 ≤ sizeLine; decide), fun p hp => ?_⟩
    have s1 : Same H (upd H p (.tup [.ref a, .ref b])) := Same.upd hp
    exact k _ p s1 ⟨a, b, qs, upd_same, s1 _ _ h2, s1 _ _ h3, h4.imp fun _ _ e => s1 _ _ e⟩
end
end Rp

namespace Rp
open PySem PySem.Spec PyProof.Rows L2
abbrev sCuts : Stmt := topS 14
theorem scCuts : FnScope ["_law_well_here", "_law_row", "_law_lengths", "_law_sizes", "_law_talk_here", "_law_many", "_law_one", "_law_other", "_law_first", "_law_last", "_law_beats", "_law_bits", "_law_number"] ["_law_well_here", "_law_row"] (defScope sCuts) :=
  ⟨rfl, rfl, rfl, by decide +kernel, rfl, by decide +kernel, by decide +kernel⟩
def spCuts : Sp := fun vs H Q _ => ∃ w p ls bs, vs = [.ref w, .ref p] ∧ Well H w ∧ TalkRow H p ls bs ∧ Fine ls bs ∧ ∀ H', But w H H' → Well H' w → Q (.bl true) H'
theorem But.same {w : Addr} {H H1 H2 : Hp} (b : But w H H1) (s : Same H1 H2) : But w H H2 := fun c o n h => s c o (b c o n h)
theorem Well.same {w : Addr} {H H' : Hp} (h : Well H w) (s : Same H H') : Well H' w := let ⟨a, b, c, h⟩ := h; ⟨a, b, c, s _ _ h⟩
theorem Same.but {w : Addr} {H H' : Hp} (s : Same H H') : But w H H' := fun c o _ h => s c o h
theorem TalkAt.but {C : Addr} {w : Addr} {H H' : Hp} {x : Addr} {ls : List Int} {bs : List (List Int)} (h : TalkAt C H x ls bs) (b : But w H H') (hw : Well H w) : TalkAt C H' x ls bs := by
  obtain ⟨dx, a, c, qs, h1, h2, h3, h4⟩ := h
  have hw' := hw
  obtain ⟨_, _, _, e⟩ := hw'
  exact ⟨dx, a, c, qs, b _ _ (ne_of h1 e (by intro z; cases z)) h1, b.tup hw _ _ h2, b.tup hw _ _ h3, h4.imp (b.tup hw)⟩
theorem map_at {α : Type} {f : α → V} {l : List α} {m : Nat} {v : α} (h : l[m]? = some v) : (l.map f)[m]? = some (f v) := by rw [List.getElem?_map, h]; rfl
/-- the least and the greatest of two -/
theorem two_nat {d1 d2 : Int} {n : Nat} (h1 : 0 ≤ d1) (h2 : d1 < n) (g1 : 0 ≤ d2) (g2 : d2 < n) : ∃ i j : Nat, (if d2 < d1 then d2 else d1) = (i : Int) ∧ (if d2 > d1 then d2 else d1) = (j : Int) ∧ i ≤ j ∧ j < n := by
  by_cases c : d2 < d1
  · exact ⟨d2.toNat, d1.toNat, by rw [if_pos c]; omega, by rw [if_neg (by omega)]; omega, by omega, by omega⟩
  · by_cases e : d2 > d1
    · exact ⟨d1.toNat, d2.toNat, by rw [if_neg c]; omega, by rw [if_pos e]; omega, by omega, by omega⟩
    · exact ⟨d1.toNat, d1.toNat, by rw [if_neg c]; omega, by rw [if_neg e]; omega, by omega, by omega⟩
theorem at_upd {H : Hp} {p q : Addr} {o : HO} (_ : upd H p o q = none) : upd H p o p = some o := upd_same
theorem same_upd {H : Hp} {p q : Addr} {o : HO} (h : H p = none) (_ : upd H p o q = none) : Same H (upd H p o) := Same.upd h
theorem new_at {H : Hp} {p : Addr} {o : HO} (_ : H p = none) : upd H p o p = some o := upd_same
section
variable {P : Program} {w : World} {K : PySem.W.Frag} {mg : Str → Option Value} {base : Heap} {C fI fE fM fC fJ fP fT : Addr} {fdI fdE fdC fdP fdT : FuncData}
theorem ok_cuts {f : Addr} {fd : FuncData} (F : Fun K "_law_cuts_right" "_law_cuts_right" sCuts f fd) (T : TkC K C fI fE fM fC fJ) (B : Bi mg) (mC : mg "Talk" = some (.ref C)) (mI : mg "isinstance" = none) (mR : mg "repr" = none) (mMin : mg "min" = none) (mMax : mg "max" = none)
    (FI : Fun K "__init__" "Talk.__init__" sInit fI fdI) (bI : L2.Binds K fdI ["self", "lengths", "sizes"] []) (FE : Fun K "__eq__" "Talk.__eq__" sEq fE fdE) (bE : L2.Binds K fdE ["self", "other"] []) (FC : Fun K "cut" "Talk.cut" sCut fC fdC) (bC : L2.Binds K fdC ["self", "first", "last"] [])
    (FP : Fun K "_law_parts" "_law_parts" sParts fP fdP) (mP : mg "_law_parts" = some (.ref fP)) (bP : L2.Binds K fdP ["_law_talk_here"] [])
    (FT : Fun K "_law_take" "_law_take" sTake fT fdT) (mT : mg "_law_take" = some (.ref fT)) (bT : L2.Binds K fdT ["_law_well_here", "_law_top"] []) : FnG P w K mg base CX0 4 f fd ["_law_well_here", "_law_row"] spCuts := by
  have GI : FnOk P w K mg base CX0 1 fI fdI ["self", "lengths", "sizes"] (spInit C) := ok_init FI T
  have GE : FnOk P w K mg base CX0 1 fE fdE ["self", "other"] (spEq (EqT C)) := ok_eq FE T mC mI
  have GC : FnOk P w K mg base CX0 3 fC fdC ["self", "first", "last"] (spCut C) := ok_cut FC T mC FI bI
  have GP : FnOk P w K mg base CX0 1 fP fdP ["_law_talk_here"] (spParts C) := ok_parts FP T mC mI
  have GT : FnOk P w K mg base CX0 1 fT fdT ["_law_well_here", "_law_top"] spTake := ok_take FT
  refine okG F scCuts (fun vs H Q E h => ?_) (fun cdv A outer s H0 vs Q E gA hr h => ?_)
  · obtain ⟨_, _, _, _, rfl, _⟩ := h
    rfl
  · have nd := scCuts.nd
    have hr1 : Room 1 _ := hr.mono (by decide)
    have hr2 : Room 2 _ := hr.mono (by decide)
    refine ⟨_, pss_cons (ps_asg (pv 1) (pg_tup rfl (pgs_cons (pg_name (i := 2) nd rfl (Or.inl rfl)) (pgs_cons (pg_name (i := 3) nd rfl (Or.inl rfl)) (pgs_nil)))))
    (pss_cons (ps_set (i := 4) nd rfl (Or.inl rfl) (pe_make T.make GI hr2 (by rfl) mC bI .nil pass0 (pa_cons (pv 2) (pa_cons (pv 3) pa_nil))))
    (pss_cons (ps_set (i := 5) nd rfl (Or.inl rfl) (pe_callB call_len_seq (by rfl) B.len PySem.boot_len (pa_cons (pv 2) pa_nil)))
    (pss_cons (ps_par (i := 6) (j := 7) rfl nd rfl rfl (by decide) rfl rfl (pa_cons (pe_call GT hr1 (by rfl) mT FT.kp bT .nil pass0 (pa_cons (pv 0) (pa_cons (pv 5) pa_nil))) (pa_cons (pe_call GT hr1 (by rfl) mT FT.kp bT .nil pass0 (pa_cons (pv 0) (pa_cons (pv 5) pa_nil))) pa_nil)) rfl)
    (pss_cons (ps_for PassesOwn.never rfl (pi_list (pe_lst (pa_cons (pe_tup (pa_cons (pe_int) (pa_cons (pe_op op_sub (pv 5) (pe_int)) pa_nil))) (pa_cons (pe_tup (pa_cons (pe_int) (pa_cons (pe_int) pa_nil))) (pa_cons (pe_tup (pa_cons (pe_op op_sub (pv 5) (pe_int)) (pa_cons (pe_op op_sub (pv 5) (pe_int)) pa_nil))) (pa_cons (pe_tup (pa_cons (pe_callB (call_min2 rfl) (by rfl) mMin (by decide +kernel) (pa_cons (pv 6) (pa_cons (pv 7) pa_nil))) (pa_cons (pe_callB (call_max2 rfl) (by rfl) mMax (by decide +kernel) (pa_cons (pv 6) (pa_cons (pv 7) pa_nil))) pa_nil))) pa_nil)))))) (pg_tup rfl (pgs_cons (pg_name (i := 8) nd rfl (Or.inl rfl)) (pgs_cons (pg_name (i := 9) nd rfl (Or.inl rfl)) (pgs_nil)))) (pss_cons (ps_set (i := 10) nd rfl (Or.inl rfl) (pe_lst (pa_nil)))
      (pss_cons (ps_set (i := 11) nd rfl (Or.inl rfl) (pe_lst (pa_nil)))
      (pss_cons (ps_for PassesOwn.never rfl (pi_range1 (by rfl) B.range (pa_cons (pv 5) pa_nil)) (pg_name (i := 12) nd rfl (Or.inl rfl)) (pss_one (ps_if (pt_chain op_le op_le (pv 8) (pv 12) (pv 9)) (pss_cons (ps_expr (pe_bm PySem.F.plainAttrs_list PySem.F.slot_list_append PySem.F.type_list_append mt_append (pv 10) (pa_cons (pe_ix ix_tup (pv 2) (pv 12) (fun _ _ => rfl)) pa_nil)))
          (pss_one (ps_expr (pe_bm PySem.F.plainAttrs_list PySem.F.slot_list_append PySem.F.type_list_append mt_append (pv 11) (pa_cons (pe_ix ix_tup (pv 3) (pv 12) (fun _ _ => rfl)) pa_nil))))) (pss_nil))))
      (pss_one (ps_if (pt_cmpR op_ne (pe_callB (call_reprD gA hr.units) (by rfl) mR boot_repr (pa_cons (pe_call GP hr1 (by rfl) mP FP.kp bP .nil pass0 (pa_cons (pe_meth (pv 4) T.cl T.mC GC hr bC .nil pass0 (pa_cons (pv 8) (pa_cons (pv 9) pa_nil))) pa_nil)) pa_nil)) (pe_callB (call_reprD gA hr.units) (by rfl) mR boot_repr (pa_cons (pe_tup (pa_cons (pe_callTy call_tuple_of (by rfl) B.tuple boot_tuple (pa_cons (pv 10) pa_nil)) (pa_cons (pe_callTy call_tuple_of (by rfl) B.tuple boot_tuple (pa_cons (pv 11) pa_nil)) pa_nil))) pa_nil)) (nomark _)) (pss_one (ps_ret (pe_bl))) (pss_nil)))))))
    (pss_one (ps_ret (pe_and (pe_cmpR (op_eqD hr.units) (pe_call GP hr1 (by rfl) mP FP.kp bP .nil pass0 (pa_cons (pv 4) pa_nil)) (pv 1) (nomark _)) (pe_one (pe_cmpR (op_eqG (rcG_ins GE T.eq T.eqf bE pass0) hr1) (pe_meth (pv 4) T.cl T.mC GC hr bC .nil pass0 (pa_cons (pe_int) (pa_cons (pe_op op_sub (pv 5) (pe_int)) pa_nil))) (pv 4) (nomark _)))))))))), ?_⟩
    obtain ⟨w, p, ls, bs, rfl, hw, hrow, fine, k⟩ := h
    obtain ⟨a, b, qs, h1, h2, h3, h4⟩ := id hrow
    have lo := fine.low
    have lor := fine.lowR
    have pos := fine.pos
    have hql : qs.length = ls.length := by rw [h4.length]; exact fine.same.symm
    refine ⟨_, rfl, p, _, rfl, SqT.of h1, rfl, _, _, rfl, _, _, rfl, rfl, ?_⟩
    refine ⟨_, rfl, _, rfl, ?_⟩
    refine fun x dx nx ndx ne => made_talk nx ndx ne fun H1 s1 ⟨dx, hx⟩ => ⟨rfl, ?_⟩
    have tk1 : TalkAt C H1 x ls bs := ⟨dx, a, b, qs, hx, s1 _ _ h2, s1 _ _ h3, h4.imp fun _ _ e => s1 _ _ e⟩
    refine ⟨_, rfl, a, _, rfl, .inr (SqT.of (s1 _ _ h2)), ?_⟩
    rw [List.length_map]
    have w1 := hw.same s1
    have b1 : But w H0 H1 := Rp.Same.but s1
    have r1 := hrow.same s1
    obtain ⟨z0, z1, z2, hz⟩ := id w1
    refine ⟨_, rfl, _, rfl, w, z0, z1, z2, _, rfl, hz, (by show (1 : Int) ≤ (ls.length : Int); omega), (by show (ls.length : Int) < 1000000; have := fine.most; omega), fun d1 y0 y2 d10 d1n => ?_⟩
    have u1 : But w H1 (upd H1 w (.lst [.int y0, .int z1, .int y2])) := .upd
    have r2 := r1.imp (u1.tup w1)
    have tk2 := tk1.but u1 w1
    have w2 : Well (upd H1 w (.lst [.int y0, .int z1, .int y2])) w := .upw
    have b2 := b1.trans u1
    generalize upd H1 w (.lst [.int y0, .int z1, .int y2]) = H2 at r2 tk2 w2 b2 ⊢
    obtain ⟨z0, z1, z2, hz⟩ := id w2
    refine ⟨_, rfl, _, rfl, w, z0, z1, z2, _, rfl, hz, (by show (1 : Int) ≤ (ls.length : Int); omega), (by show (ls.length : Int) < 1000000; have := fine.most; omega), fun d2 y0 y2 d20 d2n => ?_⟩
    have u2 : But w H2 (upd H2 w (.lst [.int y0, .int z1, .int y2])) := .upd
    have r3 := r2.imp (u2.tup w2)
    have tk3 := tk2.but u2 w2
    have w3 : Well (upd H2 w (.lst [.int y0, .int z1, .int y2])) w := .upw
    have b3 := b2.trans u2
    generalize upd H2 w (.lst [.int y0, .int z1, .int y2]) = H3 at r3 tk3 w3 b3 ⊢
    have en : ((ls.length : Nat) : Int) - 1 = ((ls.length - 1 : Nat) : Int) := by omega
    obtain ⟨im, jm, ei, ej, hijm, hjm⟩ := two_nat d10 d1n d20 d2n
    -- the four pairs
    refine ⟨_, _, rfl, _, rfl, _, _, rfl, rfl, (by show 2 ≤ sizeLine; decide), fun t1 ht1 => ⟨(by show 2 ≤ sizeLine; decide), fun t2 ht2 => ⟨_, rfl, _, _, rfl, rfl, _, rfl, _, _, rfl, rfl, (by show 2 ≤ sizeLine; decide), fun t3 ht3 =>
      ⟨_, rfl, _, rfl, _, _, rfl, _, rfl, _, rfl, _, _, rfl, (by show 2 ≤ sizeLine; decide), fun t4 ht4 => ⟨(by show 4 ≤ sizeLine; decide), fun L hL => ?_⟩⟩⟩⟩⟩
    have ea := at_upd ht2
    have sa := same_upd ht1 ht2
    have eb := at_upd ht3
    have sb := same_upd ht2 ht3
    have ec := at_upd ht4
    have sc := same_upd ht3 ht4
    have ed := at_upd hL
    have sd := same_upd ht4 hL
    have sE := Same.upd (o := .lst [.ref t1, .ref t2, .ref t3, .ref t4]) hL
    have eE := new_at (o := .lst [.ref t1, .ref t2, .ref t3, .ref t4]) hL
    have s4 := (((sa.trans sb).trans sc).trans sd).trans sE
    replace ea := sE _ _ (sd _ _ (sc _ _ (sb _ _ ea)))
    replace eb := sE _ _ (sd _ _ (sc _ _ eb))
    replace ec := sE _ _ (sd _ _ ec)
    replace ed := sE _ _ ed
    clear sa sb sc sd sE hL ht1 ht2 ht3 ht4
    refine ⟨L, rfl, ⟨_, SqL.of eE⟩, ?_⟩
    generalize upd (upd (upd (upd (upd H3 t1 (.tup [.int 0, .int ((ls.length : Nat) - 1)])) t2 (.tup [.int 0, .int 0])) t3 (.tup [.int ((ls.length : Nat) - 1), .int ((ls.length : Nat) - 1)])) t4 (.tup [.int (if d2 < d1 then d2 else d1), .int (if d2 > d1 then d2 else d1)])) L (.lst [.ref t1, .ref t2, .ref t3, .ref t4]) = HB at s4 ea eb ec ed eE ⊢
    replace ea : HB t1 = some (.tup [.int ((0 : Nat) : Int), .int ((ls.length - 1 : Nat) : Int)]) := by rw [← en]; exact ea
    replace ec : HB t3 = some (.tup [.int ((ls.length - 1 : Nat) : Int), .int ((ls.length - 1 : Nat) : Int)]) := by rw [← en]; exact ec
    rw [ei, ej] at ed
    have r4 := r3.same s4
    have tk4 := tk3.same s4
    have w4 := w3.same s4
    have b4 := b3.same s4
    clear r3 tk3 w3 b3 s4 r2 tk2 w2 b2 r1 tk1 w1 b1
    have g2 := b4.tup hw _ _ h2
    have g3 := b4.tup hw _ _ h3
    have g4 := h4.imp (b4.tup hw)
    have pairs : ∀ (m : Nat) (y : V), [V.ref t1, V.ref t2, V.ref t3, V.ref t4][m]? = some y → ∃ (t : Addr) (i j : Nat), y = .ref t ∧ HB t = some (.tup [.int i, .int j]) ∧ i ≤ j ∧ j < ls.length := by
      intro m y hy
      match m, hy with
      | 0, hy => exact ⟨t1, 0, ls.length - 1, (Option.some.inj hy).symm, ea, by omega, by omega⟩
      | 1, hy => exact ⟨t2, 0, 0, (Option.some.inj hy).symm, eb, by omega, by omega⟩
      | 2, hy => exact ⟨t3, ls.length - 1, ls.length - 1, (Option.some.inj hy).symm, ec, by omega, by omega⟩
      | 3, hy => exact ⟨t4, im, jm, (Option.some.inj hy).symm, ed, hijm, hjm⟩
    obtain ⟨z0, z1, z2, wz⟩ := id w4
    refine for_list (K := K) (a := L) (xs := [V.ref t1, V.ref t2, V.ref t3, V.ref t4]) (fun m σ H => ∃ v8 v9 v10 v11 v12, σ = [some (.ref w), some (.ref p), some (.ref a), some (.ref b), some (.ref x), some (.int ((ls.length : Nat) : Int)), some (.int d1), some (.int d2), v8, v9, v10, v11, v12] ∧
      But w HB H ∧ Well H w) ⟨none, none, none, none, none, rfl, But.refl _ _, w4⟩ (fun m σ H _ ⟨_, _, _, _, _, _, bb, _⟩ => SqL.of (bb _ _ (ne_of eE wz (by intro z; cases z)) eE)) ?_ ?_
    · rintro m y σ H hy ⟨v8, v9, v10, v11, v12, rfl, bb, wH⟩
      obtain ⟨t, i, j, rfl, ht, hij, hj⟩ := pairs m y hy
      have ht' := bb.tup w4 _ _ ht
      refine ⟨t, _, rfl, SqT.of ht', rfl, _, _, rfl, _, _, rfl, rfl, ?_⟩
      refine ⟨Nat.zero_le _, fun R1 hR1 => ⟨Nat.zero_le _, fun R2 hR2 => ?_⟩⟩
      have nR1 : HB R1 = none := bb.free wH hR1
      have bb1 := bb.new (o := .lst []) hR1
      have wH1 := wH.new (o := .lst []) hR1
      have nR2 : HB R2 = none := bb1.free wH1 hR2
      have n12 : R1 ≠ R2 := ne_of_none (new_at (o := .lst []) hR1) hR2
      have nw1 : w ≠ R1 := by obtain ⟨_, _, _, e⟩ := wH; exact ne_of_none e hR1
      have nw2 : w ≠ R2 := by obtain ⟨_, _, _, e⟩ := wH1; exact ne_of_none e hR2
      refine ⟨_, rfl, _, rfl, (by omega), (by have := fine.most; omega), for_range (lo := 0) (n := ls.length) (fun m σ H => ∃ v12, σ = [some (.ref w), some (.ref p), some (.ref a), some (.ref b), some (.ref x), some (.int ((ls.length : Nat) : Int)), some (.int d1), some (.int d2), some (.int (i : Nat)), some (.int (j : Nat)), some (.ref R1), some (.ref R2), v12] ∧
        But w HB H ∧ Well H w ∧ H R1 = some (.lst ((sel i j m ls).map V.int)) ∧ H R2 = some (.lst ((sel i j m qs).map V.ref)))
        ⟨v12, rfl, bb1.new hR2, wH1.new hR2, by rw [upd_ne n12, upd_same, sel_zero]; rfl, by rw [upd_same, sel_zero]; rfl⟩ ?_ ?_⟩
      · rintro m σ H hm ⟨v12, rfl, bc, wc, e1, e2⟩
        have e0 : (0 + (m : Int)) = (m : Int) := by omega
        rw [e0]
        obtain ⟨v, hv⟩ : ∃ v, ls[m]? = some v := ⟨_, List.getElem?_eq_getElem hm⟩
        obtain ⟨q, hq⟩ : ∃ q, qs[m]? = some q := ⟨_, List.getElem?_eq_getElem (by omega)⟩
        refine ⟨_, rfl, _, rfl, _, _, rfl, rfl, _, rfl, ite2 (fun c1 => ?_) (fun c1 => ?_)⟩
        · have c1 : i ≤ m := by have := of_decide_eq_true c1; omega
          refine ⟨_, rfl, _, _, rfl, rfl, _, rfl, ite2 (fun c2 => ?_) (fun c2 => ?_)⟩
          · have c2 : m ≤ j := by have := of_decide_eq_true c2; omega
            refine ⟨_, rfl, .inl ⟨rfl, _, SqL.of e1⟩, _, rfl, _, rfl, a, _, _, _, rfl, rfl, SqT.of (bc.tup w4 _ _ g2), atI_nat (map_at hv), R1, _, _, rfl, rfl, e1, ?_, ?_⟩
            · rw [List.length_map]; exact small1000 (Nat.le_trans sel_len (by have := fine.most; omega))
            have e2' : upd H R1 (.lst ((sel i j m ls).map V.int ++ [.int v])) R2 = some (.lst ((sel i j m qs).map V.ref)) := by rw [upd_ne (Ne.symm n12)]; exact e2
            have k2 : ∀ (q : Addr) (xs : List V), H q = some (.tup xs) → upd H R1 (.lst ((sel i j m ls).map V.int ++ [.int v])) q = some (.tup xs) := fun q xs z => by rw [upd_ne (ne_of z e1 (by intro y; cases y))]; exact z
            refine ⟨_, rfl, .inl ⟨rfl, _, SqL.of e2'⟩, _, rfl, _, rfl, b, _, _, _, rfl, rfl, SqT.of (k2 _ _ (bc.tup w4 _ _ g3)), atI_nat (map_at hq), R2, _, _, rfl, rfl, e2', ?_, ?_⟩
            · rw [List.length_map]; exact small1000 (Nat.le_trans sel_len (by have := fine.most; omega))
            refine ⟨_, rfl, fun c o n z => ?_, ?_, ?_, ?_⟩
            · rw [upd_ne (ne_of_none z nR2), upd_ne (ne_of_none z nR1)]; exact bc c o n z
            · obtain ⟨x0, x1, x2, e⟩ := wc
              exact ⟨x0, x1, x2, by rw [upd_ne nw2, upd_ne nw1]; exact e⟩
            · rw [upd_ne n12, upd_same, sel_in hv c1 c2, List.map_append]; rfl
            · rw [upd_same, sel_in hq c1 c2, List.map_append]; rfl
          · have c2 : ¬ m ≤ j := fun z => c2 (decide_eq_true (by omega))
            exact ⟨_, rfl, bc, wc, by rw [sel_out (fun z => c2 z.2) hij]; exact e1, by rw [sel_out (fun z => c2 z.2) hij]; exact e2⟩
        · have c1 : ¬ i ≤ m := fun z => c1 (decide_eq_true (by omega))
          exact ⟨_, rfl, iteF ⟨_, rfl, bc, wc, by rw [sel_out (fun z => c1 z.1) hij]; exact e1, by rw [sel_out (fun z => c1 z.1) hij]; exact e2⟩⟩
      · rintro σ H ⟨v12, rfl, bc, wc, e1, e2⟩
        rw [sel_end hj] at e1
        rw [← hql, sel_end (by omega)] at e2
        have tkH := tk4.but bc w4
        obtain ⟨dx, _, _, _, hxH, _⟩ := id tkH
        refine ⟨_, rfl, x, dx, _, rfl, hxH, rfl, _, rfl, _, rfl, x, i, j, ls, bs, rfl, tkH, hij, hj, fine.same, fun H4 y s4 hy => ?_⟩
        refine ⟨y, _, _, rfl, hy, fun H5 p5 s5 hp5 => ?_⟩
        have sm := talk_sml (lo.part (i := i) (j := j)) (lor.part (i := i) (j := j))
        refine ⟨_, _, rfl, hp5.dp, sm.shw (by decide) (by decide), ?_⟩
        have s45 := s4.trans s5
        refine ⟨_, rfl, R1, _, rfl, .inl ⟨SqL.of (s45 _ _ e1), fun q1 hq1 => ?_⟩⟩
        have s6 := Same.upd (o := .tup ((part i j ls).map V.int)) hq1
        refine ⟨_, rfl, R2, _, rfl, .inl ⟨SqL.of (s6 _ _ (s45 _ _ e2)), fun q2 hq2 => ⟨(by show 2 ≤ sizeLine; decide), fun q3 hq3 => ?_⟩⟩⟩
        have s7 := Same.upd (o := .tup ((part i j qs).map V.ref)) hq2
        have s8 := Same.upd (o := .tup [.ref q1, .ref q2]) hq3
        have row : TalkRow _ q3 (part i j ls) (part i j bs) := ⟨q1, q2, part i j qs, new_at (o := .tup [.ref q1, .ref q2]) hq3, s8 _ _ (s7 _ _ (new_at (o := .tup ((part i j ls).map V.int)) hq1)), s8 _ _ (new_at (o := .tup ((part i j qs).map V.ref)) hq2),
          (g4.part).imp fun _ _ e => s8 _ _ (s7 _ _ (s6 _ _ (s45 _ _ (bc.tup w4 _ _ e))))⟩
        refine ⟨_, _, rfl, row.dp, sm.shw (by decide) (by decide), rfl, _, rfl, iteNS rfl ?_⟩
        have s9 := ((s45.trans s6).trans s7).trans s8
        exact ⟨_, _, _, _, _, rfl, bc.same s9, wc.same s9⟩
    · rintro σ H ⟨v8, v9, v10, v11, v12, rfl, bb, wH⟩
      have tkH := tk4.but bb w4
      have rowH := r4.imp (bb.tup w4)
      refine ⟨_, rfl, x, ls, bs, rfl, tkH, fun H5 p5 s5 hp5 => ⟨_, rfl, _, _, hp5.dp, (rowH.same s5).dp, (talk_sml lo lor).shaped (by decide), (talk_sml lo lor).shaped (by decide), _, rfl, ?_⟩⟩
      rw [(talk_sml lo lor).refl]
      have tkH5 := tkH.same s5
      obtain ⟨dx, _, _, _, hxH, _⟩ := id tkH5
      refine iteT ⟨_, rfl, x, dx, _, rfl, hxH, rfl, _, rfl, _, _, rfl, rfl, ?_⟩
      refine ⟨x, 0, ls.length - 1, ls, bs, ?_, tkH5, (by omega), (by omega), fine.same, fun H6 y s6 hy => ?_⟩
      · rw [← en]; rfl
      have tkH6 := tkH5.same s6
      have e1 : part 0 (ls.length - 1) ls = ls := part_all (by omega)
      have e2 : part 0 (ls.length - 1) bs = bs := by rw [fine.same]; exact part_all (by have := fine.same; omega)
      rw [e1, e2] at hy
      obtain ⟨dy, _, _, _, hyH, _⟩ := id hy
      obtain ⟨dx', _, _, _, hxH6, _⟩ := id tkH6
      refine ⟨_, rfl, ⟨y, x, dy, dx', _, _, rfl, rfl, hyH, hxH6, ls, bs, hy, tkH6, lo, lor⟩, fun H7 s7 => ?_⟩
      exact k H7 ((b4.trans bb).same (s5.trans (s6.trans s7))) (wH.same (s5.trans (s6.trans s7)))
end
end Rp

namespace Rp
open PySem PySem.Spec PyProof.Rows L2
/-- o.m(e, ..) where what it raises is wished for at the slots as they stand -/
def tMethW (C : Addr) (m : Str) (sp : Sp) (E : L2.St → XK) (ta : TE) (t : TA) : TE := fun σ H Q => ta σ H fun x H1 => ∃ a dx fs, x = .ref a ∧ H1 a = some (.ins C dx fs) ∧ fs.lookup m = none ∧ t σ H1 fun vs H2 => sp (x :: vs) H2 Q (E σ)
theorem pe_methW {X : Cx} {CX : CXT} {k : Nat} {f C : Addr} {fd : FuncData} {ps : List Str} {sp : Sp} {E : L2.St → XK} {m : Str} {pos apos : Pos} {e o : Expr} {es : List Expr} {ta : TE} {t : TA} {pl : Sem Bool}
    (he : PE X o ta) (c : Cls X.K C) (hm : Meth X.K C m f) (F : FnOk X.prog X.w X.K X.mg X.base CX k f fd ps sp) (room : Room k X.A) (hb : L2.Binds X.K fd ps []) (hx : ∀ σ, PassesAt CX X σ (E σ)) (ha : PA X (e :: es) t)
    (hst : starEach (e :: es) X.env = (false, eval e X.env) :: starEach es X.env := by rfl) (hpl : (backTo pos (starEach es X.env)).any (·.1) = false := by rfl)
    (tree : eval (.Call (.Attribute o m apos) (e :: es) [] pos) X.env = (eval o X.env >>= fun ov => standAt apos.atName >>= fun _ => holding [ov] (getMethod ov m pl) >>= fun fx => callWith pos fx.1 fx.2 (backTo pos (starEach (e :: es) X.env)) (backToKw pos (keywordEach [] X.env))) := by rfl) :
    PE X (.Call (.Attribute o m apos) (e :: es) [] pos) (tMethW C m sp E ta t) :=
  ⟨fun pins s σ H Q I h => PySem.W.methodCall_KW (pl := pl) (thn (he.run pins s σ H _ I h) fun u s1 ⟨x, H1, I1, rx, a, dx, fs, ex, ea, l, q⟩ => by
    cases ex
    cases rx
    exact getmeth_ok I1 ea c hm l (PySem.W.callWith_K (first := [.ref a]) (h₀ := X.base) I.ok.mod.kin hm.kp (thn (ha.run pos pins s1 σ H1 _ I1 q) fun us s2 ⟨vs, H2, I2, r, q2⟩ =>
      ⟨I2.kIn, run_fnS (us := .ref a :: us) (vs := .ref a :: vs) F room hb (hx σ) I2 (.cons rfl r) q2⟩) hst hpl)) tree⟩
/-! ### isinstance of a caught error that has fields -/
section
variable {X : Cx} {a : Addr} {cls : Value} {d : Option Addr} {oe : Obj} {pn : List (Addr × Obj)}
/-- isinstance(e, c), e the error that the suite holds at a, of the class cls, its dict d -/
def rIsEd (K : PySem.W.Frag) (a : Addr) (cls : Value) (d : Option Addr) : List V → Hp → VK → Prop := fun xs H Q => ∃ (D dd : Addr) (c : V) (cv : Value) (b : Bool) (fs : List (Str × V)), cls = .ref D ∧ d = some dd ∧ ExcC K D ∧ xs = [.ref a, c] ∧ ClsV c cv ∧ H dd = some (.xd fs) ∧ PySem.W.kitOne K (.ref D) cv = some b ∧ Q (.bl b) H
/-- isinstance(e, (c, ..)) -/
def rIsEdT (K : PySem.W.Frag) (a : Addr) (cls : Value) (d : Option Addr) : List V → Hp → VK → Prop := fun xs H Q => ∃ (D dd tp : Addr) (cs : List V) (us : List Value) (b : Bool) (fs : List (Str × V)), cls = .ref D ∧ d = some dd ∧ ExcC K D ∧ xs = [.ref a, .ref tp] ∧ H tp = some (.tup cs) ∧ Paired ClsV cs us ∧ H dd = some (.xd fs) ∧ PySem.W.kitAny K (.ref D) us = some b ∧ Q (.bl b) H
theorem err_inst {pins : List (Addr × Obj)} {σ : L2.St} {H : Hp} {s : Shared} {D dd : Addr} {fs : List (Str × V)} (I : Inv (X.suite a ((a, oe) :: pn)) pins σ H s) (hz : Zc (.ref D) (some dd) oe) (hf : ∃ vs, oe.data = .fields vs) (hd : H dd = some (.xd fs)) : ∃ od, PySem.W.InstAt s.heap a oe D (some od) := by
  obtain ⟨here, _⟩ := I.pin (a, oe) (List.mem_append.mpr (.inl List.mem_cons_self))
  obtain ⟨vs, hv⟩ := hf
  obtain ⟨mA, ⟨od, _, _, at_, _⟩, _⟩ := (show ObjOk X.prog X.w H s.heap dd (.xd fs) from I.hok dd _ hd)
  refine ⟨od, here, hz.1, ?_, ?_⟩
  · unfold PySem.W.notCls
    rw [hv] <;> rfl
  · rw [hz.2]
    exact at_
theorem exc_kit {K : PySem.W.Frag} {D : Addr} {od : Option Obj} (C : ExcC K D) : PySem.W.KitX K (.ref a) (.ref D) (fun h => PySem.W.InstAt h a oe D od) := by
  obtain ⟨cd, hc, _⟩ := PySem.W.any_some C.hd
  exact PySem.W.kitx_exc (by rw [hc]; rfl) C.hg C.hk C.hs C.ha C.hn C.ht C.hm
theorem call_isEd (hz : Zc cls d oe) (hf : ∃ vs, oe.data = .fields vs) : CallR (X.suite a ((a, oe) :: pn)) (.builtin "isinstance") (rIsEd X.K a cls d) := by
  intro pins s σ H xs us Q I r h
  obtain ⟨D, dd, c, cv, b, fs, rfl, rfl, C, rfl, hcv, hd, e, q⟩ := h
  obtain ⟨od, J⟩ := err_inst I hz hf hd
  cases r with
  | cons rx rr =>
    cases rr with
    | cons rt rr =>
      cases rr
      cases rx
      have ec := hcv.eq rt
      subst ec
      exact PySem.W.kia_one (exc_kit C) I.kIn J e (fun z => nomatch z) fun tk => ⟨.bl b, H, I.tok tk, rfl, q⟩
theorem call_isEdT (hz : Zc cls d oe) (hf : ∃ vs, oe.data = .fields vs) : CallR (X.suite a ((a, oe) :: pn)) (.builtin "isinstance") (rIsEdT X.K a cls d) := by
  intro pins s σ H xs us Q I r h
  obtain ⟨D, dd, tp, cs, ws, b, fs, rfl, rfl, C, rfl, ht, hcs, hd, e, q⟩ := h
  obtain ⟨od, J⟩ := err_inst I hz hf hd
  cases r with
  | cons rx rr =>
    cases rr with
    | cons rt rr =>
      cases rr
      cases rx
      cases rt
      obtain ⟨_, its, rv, o, o1, o2, n, o3⟩ := (show ObjOk X.prog X.w H s.heap tp (.tup cs) from I.hok tp _ ht)
      have es := ClsV.all hcs rv
      subst es
      cases o
      simp only at o2 o3
      subst o2 o3
      exact PySem.W.kia_tup (exc_kit C) I.kIn J o1 e (fun z => nomatch z) fun tk => ⟨.bl b, H, I.tok tk, rfl, q⟩
end
/-! ### data stays where all that was tracked stays -/
theorem SqL.same {K : PySem.W.Frag} {H H' : Hp} {a : Addr} {xs : List V} (h : SqL K H a xs) (s : Same H H') : SqL K H' a xs := Same.seq s h
theorem SqT.same {K : PySem.W.Frag} {H H' : Hp} {a : Addr} {xs : List V} (h : SqT K H a xs) (s : Same H H') : SqT K H' a xs := by
  rcases h with (h | ⟨o, h⟩) | h
  · exact .inl (.inl (s _ _ h))
  · exact .inl (.inr ⟨o, s _ _ h⟩)
  · exact .inr h
mutual
theorem dp_same {K : PySem.W.Frag} {H H' : Hp} (s : Same H H') : ∀ (d : PyData) (v : V), Dp K H v d → Dp K H' v d
  | .none, _, h => by cases h; exact .non
  | .bool b, _, h => by cases h; exact .bl b
  | .int i, _, h => by cases h; exact .int i
  | .str x, _, h => by cases h; exact .str x
  | .list ds, _, h => by
    cases h with
    | lst q a => exact .lst (SqL.same q s) (dp_same_all s ds _ a)
  | .tuple ds, _, h => by
    cases h with
    | tup q a => exact .tup (SqT.same q s) (dp_same_all s ds _ a)
  | .dict _, _, h => by cases h
theorem dp_same_all {K : PySem.W.Frag} {H H' : Hp} (s : Same H H') : ∀ (ds : List PyData) (vs : List V), DpAll K H vs ds → DpAll K H' vs ds
  | [], _, h => by cases h; exact .nil
  | d :: ds, _, h => by
    cases h with
    | cons a b => exact .cons (dp_same s d _ a) (dp_same_all s ds _ b)
end
/-! ### what is due of two talks joined -/
def dDue (l1 : List Int) (b1 : List (List Int)) (l2 : List Int) (b2 : List (List Int)) : PyData :=
  if (b1.head?.getD []).length = (b2.head?.getD []).length then .tuple [.str "joined", dTalk (l1 ++ l2) (b1 ++ b2)] else .tuple [.str "unlike", .int ((b1.head?.getD []).length : Nat), .int ((b2.head?.getD []).length : Nat)]
end Rp

namespace Rp
open PySem PySem.Spec PyProof.Rows L2
abbrev sDue : Stmt := topS 16
abbrev sLJ : Stmt := topS 15
theorem scDue : FnScope ["_law_one", "_law_other", "_law_rates"] ["_law_one", "_law_other"] (defScope sDue) := ⟨rfl, rfl, rfl, by decide +kernel, rfl, by decide +kernel, by decide +kernel⟩
theorem scLJ : FnScope ["_law_one", "_law_other", "_law_found", "_law_here", "_law_there", "e", "_law_others"] ["_law_one", "_law_other"] (defScope sLJ) := ⟨rfl, rfl, rfl, by decide +kernel, rfl, by decide +kernel, by decide +kernel⟩
/-- of two talks' numbers: what is due -/
def spDue (K : PySem.W.Frag) : Sp := fun vs H Q _ => ∃ p q l1 b1 l2 b2, vs = [.ref p, .ref q] ∧ TalkRow H p l1 b1 ∧ TalkRow H q l2 b2 ∧ Fine l1 b1 ∧ Fine l2 b2 ∧ ∀ H' v, Same H H' → Dp K H' v (dDue l1 b1 l2 b2) → Q v H'
theorem Fine.cons {ls : List Int} {bs : List (List Int)} (h : Fine ls bs) : ∃ r rs, bs = r :: rs := by
  cases bs with
  | nil =>
    have e : ls.length = 0 := h.same
    have := h.pos
    omega
  | cons r rs => exact ⟨r, rs, rfl⟩
theorem due_eq {l1 r1 l2 r2 : List Int} {b1 b2 : List (List Int)} (h : r1.length = r2.length) : dDue l1 (r1 :: b1) l2 (r2 :: b2) = .tuple [.str "joined", dTalk (l1 ++ l2) ((r1 :: b1) ++ (r2 :: b2))] := if_pos h
theorem due_ne {l1 r1 l2 r2 : List Int} {b1 b2 : List (List Int)} (h : ¬ r1.length = r2.length) : dDue l1 (r1 :: b1) l2 (r2 :: b2) = .tuple [.str "unlike", .int (r1.length : Nat), .int (r2.length : Nat)] := if_neg h
theorem dp_ne {K : PySem.W.Frag} {H : Hp} {v : Addr} {l1 r1 l2 r2 : List Int} {b1 b2 : List (List Int)} (h : ¬ r1.length = r2.length) (hv : H v = some (.tup [.str "unlike", .int (r1.length : Nat), .int (r2.length : Nat)])) : Dp K H (.ref v) (dDue l1 (r1 :: b1) l2 (r2 :: b2)) := by
  rw [due_ne h]
  exact .tup (SqT.of hv) (.cons (.str _) (.cons (.int _) (.cons (.int _) .nil)))
theorem dp_eq {K : PySem.W.Frag} {H : Hp} {v u : Addr} {l1 r1 l2 r2 : List Int} {b1 b2 : List (List Int)} (h : r1.length = r2.length) (hv : H v = some (.tup [.str "joined", .ref u])) (hu : TalkRow H u (l1 ++ l2) ((r1 :: b1) ++ (r2 :: b2))) : Dp K H (.ref v) (dDue l1 (r1 :: b1) l2 (r2 :: b2)) := by
  rw [due_eq h]
  exact .tup (SqT.of hv) (.cons (.str _) (.cons hu.dp .nil))
/-- what the law's handler asks of the errors' classes -/
structure ErC (K : PySem.W.Frag) (mg : Str → Option Value) (CU UNoText UTooMany UNoSpeed URateError : Addr) : Prop where
  ec : ExcC K CU
  xf : XfC K CU
  em : PySem.W.exmOne K (.ref CU) (.ref CU) = some true
  NoText : mg "NoText" = some (.ref UNoText)
  TooMany : mg "TooMany" = some (.ref UTooMany)
  NoSpeed : mg "NoSpeed" = some (.ref UNoSpeed)
  RateError : mg "RateError" = some (.ref URateError)
  k1 : PySem.W.kitOne K (.ref CU) (.ref UNoText) = some false
  k2 : PySem.W.kitOne K (.ref CU) (.ref UTooMany) = some false
  k3 : PySem.W.kitOne K (.ref CU) (.ref UNoSpeed) = some false
  k4 : PySem.W.kitOne K (.ref CU) (.ref URateError) = some false
  k5 : PySem.W.kitOne K (.ref CU) (.type "ValueError") = some true
theorem ErC.any {K : PySem.W.Frag} {mg : Str → Option Value} {CU a b c d : Addr} (M : ErC K mg CU a b c d) : PySem.W.kitAny K (.ref CU) [.ref a, .ref b, .ref c, .ref d] = some false := by
  unfold PySem.W.kitAny
  rw [M.k1]
  unfold PySem.W.kitAny
  rw [M.k2]
  unfold PySem.W.kitAny
  rw [M.k3]
  unfold PySem.W.kitAny
  rw [M.k4]
  rfl
section
variable {P : Program} {w : World} {K : PySem.W.Frag} {mg : Str → Option Value} {base : Heap} {C fI fE fM fC fJ fP CU fU UNoText UTooMany UNoSpeed URateError : Addr} {fdI fdJ fdM fdP fdU : FuncData}
theorem ok_due {f : Addr} {fd : FuncData} (F : Fun K "_law_due" "_law_due" sDue f fd) (B : Bi mg) : FnOk P w K mg base CX0 1 f fd ["_law_one", "_law_other"] (spDue K) := by
  refine F.ok scDue (fun vs H Q E h => ?_) (fun cdv A outer s H vs Q E hr h => ?_)
  · obtain ⟨_, _, _, _, _, _, rfl, _⟩ := h
    rfl
  · have nd := scDue.nd
    refine ⟨_, pss_cons (ps_set (i := 2) nd rfl (Or.inl rfl) (pe_tup (pa_cons (pe_callB call_len_seq (by rfl) B.len PySem.boot_len (pa_cons (pe_ix ix_tup (pe_ix ix_tup (pv 0) (pe_int) (fun _ _ => rfl)) (pe_int) (fun _ _ => rfl)) pa_nil)) (pa_cons (pe_callB call_len_seq (by rfl) B.len PySem.boot_len (pa_cons (pe_ix ix_tup (pe_ix ix_tup (pv 1) (pe_int) (fun _ _ => rfl)) (pe_int) (fun _ _ => rfl)) pa_nil)) pa_nil))))
    (pss_cons (ps_if (pt_cmpR op_ne (pe_ix ix_tup (pv 2) (pe_int) (fun _ _ => rfl)) (pe_ix ix_tup (pv 2) (pe_int) (fun _ _ => rfl)) (nomark _)) (pss_one (ps_ret (pe_tup (pa_cons (pe_str) (pa_cons (pe_ix ix_tup (pv 2) (pe_int) (fun _ _ => rfl)) (pa_cons (pe_ix ix_tup (pv 2) (pe_int) (fun _ _ => rfl)) pa_nil)))))) (pss_nil))
    (pss_one (ps_ret (pe_tup (pa_cons (pe_str) (pa_cons (pe_tup (pa_cons (pe_op op_catA (pe_ix ix_tup (pv 0) (pe_int) (fun _ _ => rfl)) (pe_ix ix_tup (pv 1) (pe_int) (fun _ _ => rfl))) (pa_cons (pe_op op_catA (pe_ix ix_tup (pv 0) (pe_int) (fun _ _ => rfl)) (pe_ix ix_tup (pv 1) (pe_int) (fun _ _ => rfl))) pa_nil))) pa_nil)))))), ?_⟩
    obtain ⟨p, q, l1, b1, l2, b2, rfl, hp, hq, f1, f2, k⟩ := h
    obtain ⟨r1, b1, rfl⟩ := f1.cons
    obtain ⟨r2, b2, rfl⟩ := f2.cons
    obtain ⟨a, b, qs, h1, h2, h3, h4⟩ := hp
    obtain ⟨a', b', qs', g1, g2, g3, g4⟩ := hq
    have n1 : qs.length = (r1 :: b1).length := h4.length
    have n2 : qs'.length = (r2 :: b2).length := g4.length
    have m1 := f1.most
    have m2 := f2.most
    have e1 := f1.same
    have e2 := f2.same
    cases h4 with
    | @cons c _ cs _ hc ht =>
    cases g4 with
    | @cons c' _ cs' _ gc gt =>
      refine ⟨_, rfl, p, _, 1, _, rfl, rfl, SqT.of h1, at_of (j := 1) rfl rfl, b, _, 0, _, rfl, rfl, SqT.of h3, at_of (j := 0) rfl rfl, c, _, rfl, .inr (SqT.of hc), ?_⟩
      refine ⟨_, rfl, q, _, 1, _, rfl, rfl, SqT.of g1, at_of (j := 1) rfl rfl, b', _, 0, _, rfl, rfl, SqT.of g3, at_of (j := 0) rfl rfl, c', _, rfl, .inr (SqT.of gc), (by show 2 ≤ sizeLine; decide), fun t ht' => ?_⟩
      rw [List.length_map, List.length_map]
      have s1 := Same.upd (o := .tup [.int (r1.length : Nat), .int (r2.length : Nat)]) ht'
      have at1 := new_at (o := .tup [.int (r1.length : Nat), .int (r2.length : Nat)]) ht'
      refine ⟨_, rfl, t, _, 0, _, rfl, rfl, SqT.of at1, at_of (j := 0) rfl rfl, _, rfl, t, _, 1, _, rfl, rfl, SqT.of at1, at_of (j := 1) rfl rfl, rfl, _, rfl, ?_⟩
      rw [dec_nat]
      by_cases e : r1.length = r2.length
      · rw [decide_eq_true e]
        refine iteF ?_
        refine ⟨_, rfl, p, _, 0, _, rfl, rfl, SqT.of (s1 _ _ h1), at_of (j := 0) rfl rfl, _, rfl, q, _, 0, _, rfl, rfl, SqT.of (s1 _ _ g1), at_of (j := 0) rfl rfl, cat_by (s1 _ _ h2) (s1 _ _ g2) (by rw [List.length_map, List.length_map]; exact Nat.le_trans (show l1.length + l2.length ≤ 24 by omega) (by decide)) fun z H1 s2 hz => ?_⟩
        refine ⟨_, rfl, p, _, 1, _, rfl, rfl, SqT.of (s2 _ _ (s1 _ _ h1)), at_of (j := 1) rfl rfl, _, rfl, q, _, 1, _, rfl, rfl, SqT.of (s2 _ _ (s1 _ _ g1)), at_of (j := 1) rfl rfl, cat_by (s2 _ _ (s1 _ _ h3)) (s2 _ _ (s1 _ _ g3)) (by rw [List.length_map, List.length_map]; exact Nat.le_trans (show (c :: cs).length + (c' :: cs').length ≤ 24 by omega) (by decide)) fun y H2 s3 hy => ?_⟩
        refine ⟨(by show 2 ≤ sizeLine; decide), fun u hu => ⟨(by show 2 ≤ sizeLine; decide), fun v hv => ?_⟩⟩
        have s4 := Same.upd (o := .tup [.ref z, .ref y]) hu
        have at4 := new_at (o := .tup [.ref z, .ref y]) hu
        have s5 := Same.upd (o := .tup [.str "joined", .ref u]) hv
        have at5 := new_at (o := .tup [.str "joined", .ref u]) hv
        have s15 := (((s1.trans s2).trans s3).trans s4).trans s5
        refine k _ _ s15 ?_
        rw [due_eq e]
        have row : TalkRow _ u (l1 ++ l2) ((r1 :: b1) ++ (r2 :: b2)) := ⟨z, y, (c :: cs) ++ (c' :: cs'), s5 _ _ at4, by rw [List.map_append]; exact s5 _ _ (s4 _ _ (s3 _ _ hz)), by rw [List.map_append]; exact s5 _ _ (s4 _ _ hy), ((RowsAt.append (.cons hc ht) (.cons gc gt)).imp fun _ _ e => s15 _ _ e)⟩
        exact .tup (SqT.of at5) (.cons (.str _) (.cons row.dp .nil))
      · rw [decide_eq_false e]
        refine iteT ?_
        refine ⟨_, rfl, t, _, 0, _, rfl, rfl, SqT.of at1, at_of (j := 0) rfl rfl, _, rfl, t, _, 1, _, rfl, rfl, SqT.of at1, at_of (j := 1) rfl rfl, (by show 3 ≤ sizeLine; decide), fun v hv => ?_⟩
        have s5 := Same.upd (o := .tup [.str "unlike", .int (r1.length : Nat), .int (r2.length : Nat)]) hv
        refine k _ _ (s1.trans s5) ?_
        rw [due_ne e]
        exact .tup (SqT.of (new_at hv)) (.cons (.str _) (.cons (.int _) (.cons (.int _) .nil)))
def spLJ (K : PySem.W.Frag) : Sp := spDue K
theorem ok_lj {f : Addr} {fd : FuncData} (F : Fun K "_law_joined" "_law_joined" sLJ f fd) (T : TkC K C fI fE fM fC fJ) (U : UnC K mg CU fU) (M : ErC K mg CU UNoText UTooMany UNoSpeed URateError) (B : Bi mg) (mC : mg "Talk" = some (.ref C)) (mV : mg "ValueError" = none) (mI : mg "isinstance" = none)
    (vV : PySem.W.findCls K (.type "ValueError") (.type "type") "__init__" = some (.val (.builtin "ValueError.__init__")))
    (FI : Fun K "__init__" "Talk.__init__" sInit fI fdI) (bI : L2.Binds K fdI ["self", "lengths", "sizes"] []) (FM : Fun K "many_rates" "Talk.many_rates" sMany fM fdM) (bM : L2.Binds K fdM ["self"] [])
    (FU : Fun K "__init__" "Unlike.__init__" sUnl fU fdU) (bU : L2.Binds K fdU ["self", "one", "other"] []) (FJ : Fun K "joined" "Talk.joined" sJoin fJ fdJ) (bJ : L2.Binds K fdJ ["self", "other"] [])
    (FP : Fun K "_law_parts" "_law_parts" sParts fP fdP) (mP : mg "_law_parts" = some (.ref fP)) (bP : L2.Binds K fdP ["_law_talk_here"] []) : FnOk P w K mg base CX0 4 f fd ["_law_one", "_law_other"] (spLJ K) := by
  have GI : FnOk P w K mg base CX0 1 fI fdI ["self", "lengths", "sizes"] (spInit C) := ok_init FI T
  have GP : FnOk P w K mg base CX0 1 fP fdP ["_law_talk_here"] (spParts C) := ok_parts FP T mC mI
  have GJ : FnOk P w K mg base (L2.CX P w) 3 fJ fdJ ["self", "other"] (spJoin C CU) := ok_join FJ T U B mC mV vV FI bI FM bM FU bU
  refine F.ok scLJ (fun vs H Q E h => ?_) (fun cdv A outer s H vs Q E hr h => ?_)
  · obtain ⟨_, _, _, _, _, _, rfl, _⟩ := h
    rfl
  · have nd := scLJ.nd
    have hr1 : Room 1 _ := hr.mono (by decide)
    have hr2 : Room 2 _ := hr.mono (by decide)
    refine ⟨_, pss_cons (ps_set (i := 2) nd rfl (Or.inl rfl) (pe_str))
    (pss_cons (ps_par (i := 3) (j := 4) rfl nd rfl rfl (by decide) rfl rfl (pa_cons (pe_make T.make GI hr2 (by rfl) mC bI .nil pass0 (pa_cons (pe_ix ix_tup (pv 0) (pe_int) (fun _ _ => rfl)) (pa_cons (pe_ix ix_tup (pv 0) (pe_int) (fun _ _ => rfl)) pa_nil))) (pa_cons (pe_make T.make GI hr2 (by rfl) mC bI .nil pass0 (pa_cons (pe_ix ix_tup (pv 1) (pe_int) (fun _ _ => rfl)) (pa_cons (pe_ix ix_tup (pv 1) (pe_int) (fun _ _ => rfl)) pa_nil))) pa_nil)) rfl)
    (pss_cons (ps_try_as (i := 5) rfl rfl nd rfl rfl ⟨rfl, by decide, Or.inl U.mU⟩ takes0 (fun W pn xe tk _ => pss_one (ps_set (i := 2) nd rfl (Or.inl rfl) (pe_tup (pa_cons (pe_str) (pa_cons (pe_call GP hr1 (by rfl) mP FP.kp bP .nil pass0 (pa_cons (pe_methW (pv 3) T.cl T.mJ GJ hr bJ (fun σ => passAt tk σ) (pa_cons (pv 4) pa_nil)) pa_nil)) pa_nil))))) (fun a oe cls d pn hz hf => pss_cons (ps_set (i := 6) nd rfl (Or.inl rfl) (pe_callB (call_isEdT hz hf) (by rfl) mI (by decide +kernel) (pa_cons (pv 5) (pa_cons (pe_tup (pa_cons (pe_glob (v := .ref UNoText) (by rfl) M.NoText rfl) (pa_cons (pe_glob (v := .ref UTooMany) (by rfl) M.TooMany rfl) (pa_cons (pe_glob (v := .ref UNoSpeed) (by rfl) M.NoSpeed rfl) (pa_cons (pe_glob (v := .ref URateError) (by rfl) M.RateError rfl) pa_nil))))) pa_nil))))
        (pss_one (ps_if (PW.pt (pw_and (pt_val (pe_callB (call_isEd hz hf) (by rfl) mI (by decide +kernel) (pa_cons (pv 5) (pa_cons (pe_bltn (v := .ty "ValueError") (by rfl) mV (by decide +kernel) rfl) pa_nil)))) (pw_and1 (pt_not (pt_val (pv 6)))))) (pss_one (ps_set (i := 2) nd rfl (Or.inl rfl) (pe_tup (pa_cons (pe_str) (pa_cons (pe_xf M.xf U.n1 hz hf (pv 5)) (pa_cons (pe_xf M.xf U.n2 hz hf (pv 5)) pa_nil)))))) (pss_nil)))))
    (pss_cons (ps_if (pt_cmpR (op_neD hr.units) (pe_tup (pa_cons (pe_call GP hr1 (by rfl) mP FP.kp bP .nil pass0 (pa_cons (pv 3) pa_nil)) (pa_cons (pe_call GP hr1 (by rfl) mP FP.kp bP .nil pass0 (pa_cons (pv 4) pa_nil)) pa_nil))) (pe_tup (pa_cons (pv 0) (pa_cons (pv 1) pa_nil))) (nomark _)) (pss_one (ps_set (i := 2) nd rfl (Or.inl rfl) (pe_str))) (pss_nil))
    (pss_one (ps_ret (pv 2)))))), ?_⟩
    obtain ⟨p, q, l1, b1, l2, b2, rfl, hp, hq, f1, f2, k⟩ := h
    obtain ⟨r1, b1, rfl⟩ := f1.cons
    obtain ⟨r2, b2, rfl⟩ := f2.cons
    have sm : Sml 4 600000 (.tuple [dTalk l1 (r1 :: b1), dTalk l2 (r2 :: b2)]) := (Sml.tup (k := 2) (m := 3) (n := 295322) (fun z hz => by
      rcases List.mem_cons.mp hz with rfl | hz
      · exact talk_sml f1.low f1.lowR
      · rw [List.mem_singleton.mp hz]; exact talk_sml f2.low f2.lowR) (Nat.le_refl _)).mono (Nat.le_refl _) (by decide)
    have m1 := f1.most
    have m2 := f2.most
    have e1 := f1.same
    have e2 := f2.same
    rw [List.length_cons] at e1 e2
    obtain ⟨a, b, qs, h1, h2, h3, h4⟩ := id hp
    obtain ⟨a', b', qs', g1, g2, g3, g4⟩ := id hq
    refine ⟨_, rfl, p, _, 0, _, rfl, rfl, SqT.of h1, at_of (j := 0) rfl rfl, _, rfl, p, _, 1, _, rfl, rfl, SqT.of h1, at_of (j := 1) rfl rfl, ?_⟩
    refine fun x dx nx ndx ne => made_talk nx ndx ne fun H1 s1 ⟨dx, hx⟩ => ⟨rfl, ?_⟩
    refine ⟨_, rfl, q, _, 0, _, rfl, rfl, SqT.of (s1 _ _ g1), at_of (j := 0) rfl rfl, _, rfl, q, _, 1, _, rfl, rfl, SqT.of (s1 _ _ g1), at_of (j := 1) rfl rfl, ?_⟩
    refine fun y dy ny ndy ne' => made_talk ny ndy ne' fun H2 s2 ⟨dy, hy⟩ => ⟨rfl, _, _, rfl, ?_⟩
    have s12 := s1.trans s2
    have tx : TalkAt C H2 x l1 (r1 :: b1) := ⟨dx, a, b, qs, s2 _ _ hx, s12 _ _ h2, s12 _ _ h3, h4.imp fun _ _ e => s12 _ _ e⟩
    have ty : TalkAt C H2 y l2 (r2 :: b2) := ⟨dy, a', b', qs', hy, s12 _ _ g2, s12 _ _ g3, g4.imp fun _ _ e => s12 _ _ e⟩
    refine ⟨_, rfl, x, dx, _, rfl, s2 _ _ hx, rfl, _, rfl, x, y, l1, r1, b1, l2, r2, b2, rfl, tx, ty, (by omega), (by omega), fun ne d H3 hd s3 hd3 => ?_, fun eq H3 z s3 hz => ?_⟩
    · refine ⟨true, M.em, fun _ a0 ha0 => ?_, fun z => Bool.noConfusion z⟩
      refine ⟨_, rfl, (by show 4 ≤ sizeLine; decide), fun tp htp => ?_⟩
      have s4 := Same.upd (o := .tup [.ref UNoText, .ref UTooMany, .ref UNoSpeed, .ref URateError]) htp
      refine ⟨CU, d, tp, _, _, false, _, rfl, rfl, M.ec, rfl, new_at htp, .cons (.own _) (.cons (.own _) (.cons (.own _) (.cons (.own _) .nil))), s4 _ _ hd3, M.any, ?_⟩
      refine ⟨_, rfl, CU, d, _, _, true, _, rfl, rfl, M.ec, rfl, .ty "ValueError", s4 _ _ hd3, M.k5, true, rfl, iteT ⟨_, rfl, false, rfl, iteT ?_⟩⟩
      refine ⟨_, rfl, rfl, rfl, d, _, _, rfl, s4 _ _ hd3, rfl, _, rfl, rfl, rfl, d, _, _, rfl, s4 _ _ hd3, rfl, (by show 3 ≤ sizeLine; decide), fun v hv => ?_⟩
      have s5 := Same.upd (o := .tup [.str "unlike", .int (r1.length : Nat), .int (r2.length : Nat)]) hv
      have s35 := (s3.trans s4).trans s5
      have dp := dp_ne (K := K) (l1 := l1) (b1 := b1) (l2 := l2) (b2 := b2) ne (new_at (o := .tup [.str "unlike", .int (r1.length : Nat), .int (r2.length : Nat)]) hv)
      refine ⟨_, rfl, x, l1, r1 :: b1, rfl, (tx.same s35), fun HA pa sA hpa => ?_⟩
      refine ⟨_, rfl, y, l2, r2 :: b2, rfl, (ty.same s35).same sA, fun HC pb sC hpb => ⟨(by show 2 ≤ sizeLine; decide), fun t1 ht1 => ?_⟩⟩
      have s1 := Same.upd (o := .tup [.ref pa, .ref pb]) ht1
      refine ⟨_, rfl, _, rfl, (by show 2 ≤ sizeLine; decide), fun t2 ht2 => ?_⟩
      have s2 := Same.upd (o := .tup [.ref p, .ref q]) ht2
      have sAll := ((((s12.trans s35).trans sA).trans sC).trans s1).trans s2
      refine ⟨_, _, .tup (SqT.of (s2 _ _ (new_at ht1))) (.cons ((hpa.same sC).same (s1.trans s2)).dp (.cons (hpb.same (s1.trans s2)).dp .nil)), .tup (SqT.of (new_at ht2)) (.cons (hp.same sAll).dp (.cons (hq.same sAll).dp .nil)), sm.shaped (by decide), sm.shaped (by decide), _, rfl, ?_⟩
      rw [sm.refl]
      refine iteF ⟨_, rfl, ?_⟩
      exact k _ _ sAll (dp_same (((sA.trans sC).trans s1).trans s2) _ _ dp)
    · refine ⟨z, _, _, rfl, hz, fun H4 pz s4 hpz => ⟨(by show 2 ≤ sizeLine; decide), fun v hv => ?_⟩⟩
      have s5 := Same.upd (o := .tup [.str "joined", .ref pz]) hv
      have s35 := (s3.trans s4).trans s5
      have dp := dp_eq (K := K) eq (new_at (o := .tup [.str "joined", .ref pz]) hv) (hpz.same s5)
      refine ⟨_, rfl, x, l1, r1 :: b1, rfl, (tx.same s35), fun HA pa sA hpa => ?_⟩
      refine ⟨_, rfl, y, l2, r2 :: b2, rfl, (ty.same s35).same sA, fun HC pb sC hpb => ⟨(by show 2 ≤ sizeLine; decide), fun t1 ht1 => ?_⟩⟩
      have s1 := Same.upd (o := .tup [.ref pa, .ref pb]) ht1
      refine ⟨_, rfl, _, rfl, (by show 2 ≤ sizeLine; decide), fun t2 ht2 => ?_⟩
      have s2 := Same.upd (o := .tup [.ref p, .ref q]) ht2
      have sAll := ((((s12.trans s35).trans sA).trans sC).trans s1).trans s2
      refine ⟨_, _, .tup (SqT.of (s2 _ _ (new_at ht1))) (.cons ((hpa.same sC).same (s1.trans s2)).dp (.cons (hpb.same (s1.trans s2)).dp .nil)), .tup (SqT.of (new_at ht2)) (.cons (hp.same sAll).dp (.cons (hq.same sAll).dp .nil)), sm.shaped (by decide), sm.shaped (by decide), _, rfl, ?_⟩
      rw [sm.refl]
      refine iteF ⟨_, rfl, ?_⟩
      exact k _ _ sAll (dp_same (((sA.trans sC).trans s1).trans s2) _ _ dp)
end
end Rp

namespace Rp
open PySem PySem.Spec PyProof.Rows L2
abbrev sLaw : Stmt := topS 17
theorem scLaw : FnScope ["_law_script", "_law_k", "_law_well_here", "_law_alike", "_law_one", "_law_other", "_law_rates", "_law_here", "_law_there", "_law_bits"] ["_law_script"] (defScope sLaw) := ⟨rfl, rfl, rfl, by decide +kernel, rfl, by decide +kernel, by decide +kernel⟩
def spLaw (K : PySem.W.Frag) : Sp := fun vs H Q _ => ∃ (a : Addr) (ns : List Int), vs = [.ref a] ∧ SqL K H a (ns.map V.int) ∧ ∀ H', Q (.bl true) H'
theorem same_of_but {w : Addr} {H H1 H2 : Hp} (hw : H w = none) (s : Same H H1) (b : But w H1 H2) : Same H H2 := fun c o h => b c o (ne_of_none h hw) (s c o h)
theorem Sml.two {m n1 n2 : Nat} {d1 d2 : PyData} (h1 : Sml m n1 d1) (h2 : Sml m n2 d2) : Sml (m + 1) (n1 + n2 + 2) (.tuple [d1, d2]) := by
  obtain ⟨a, b, c, d, e⟩ := h1
  obtain ⟨a', b', c', d', e'⟩ := h2
  refine ⟨by simp only [PyData.canLay0, PyData.canLayAll0, a, a', Bool.and_self], by simp only [PyData.depth, PyData.depthAll]; omega, by simp only [PyData.weight, PyData.weightAll]; omega, by simp only [PyData.leavesShort, PyData.leavesShortAll, d, d', Bool.and_self], by simp only [PyData.showable, PyData.showableAll, e, e', Bool.and_self]⟩
theorem Low.append {a b : List Int} (ha : Low a) (hb : Low b) (h : a.length + b.length ≤ 60) : Low (a ++ b) := ⟨by rw [List.length_append]; exact h, fun n hn => (List.mem_append.mp hn).elim (ha.2 n) (hb.2 n)⟩
theorem LowRows.append {a b : List (List Int)} (ha : LowRows a) (hb : LowRows b) (h : a.length + b.length ≤ 60) : LowRows (a ++ b) := ⟨by rw [List.length_append]; exact h, fun n hn => (List.mem_append.mp hn).elim (ha.2 n) (hb.2 n)⟩
theorem due_shw {l1 l2 : List Int} {b1 b2 : List (List Int)} (f1 : Fine l1 b1) (f2 : Fine l2 b2) : Shw (dDue l1 b1 l2 b2) := by
  obtain ⟨r1, b1, rfl⟩ := f1.cons
  obtain ⟨r2, b2, rfl⟩ := f2.cons
  have m1 := f1.most
  have m2 := f2.most
  have e1 := f1.same
  have e2 := f2.same
  by_cases e : r1.length = r2.length
  · rw [due_eq e]
    have t := talk_sml (f1.low.append f2.low (by omega)) (f1.lowR.append f2.lowR (by omega))
    exact (Sml.two ((Sml.str (x := "joined") (n := 6) (by decide +kernel) (by decide +kernel)).mono (m' := 3) (by decide) (Nat.le_refl _)) t).shw (by decide) (by decide)
  · rw [due_ne e]
    have lo : ∀ {r : List Int} {l : List Int} {b : List (List Int)}, Fine l (r :: b) → r.length ≤ 4 := fun {r l b} f => by
      obtain ⟨n, _, h2, h3⟩ := f.bs
      have := (h3 r List.mem_cons_self).1
      omega
    have z1 := lo f1
    have z2 := lo f2
    exact (Sml.tup (m := 0) (n := 40) (k := 3) (fun x hx => by
      rcases List.mem_cons.mp hx with rfl | hx
      · exact Sml.str (by decide +kernel) (by decide +kernel)
      · rcases List.mem_cons.mp hx with rfl | hx
        · exact Sml.int (by omega)
        · rw [List.mem_singleton.mp hx]; exact Sml.int (by omega)) (Nat.le_refl _)).shw (by decide) (by decide)
/-! ### the rows at another talk's number of rates -/
def four (r : Nat) (row : List Int) : List Int := (List.replicate 4 row).flatten.take r
theorem four_ok {r n : Nat} {row : List Int} (h : RowOk n row) (hn : 1 ≤ n) (hr : r ≤ 4) : RowOk r (four r row) := by
  refine ⟨?_, fun b hb => ?_⟩
  · unfold four
    rw [List.length_take, List.length_flatten, List.map_replicate, List.sum_replicate_nat, h.1]
    omega
  · have := List.mem_of_mem_take hb
    obtain ⟨l, hl, hb'⟩ := List.mem_flatten.mp this
    rw [List.eq_of_mem_replicate hl] at hb'
    exact h.2 b hb'
theorem Fine.four {ls : List Int} {bs : List (List Int)} {r : Nat} (h : Fine ls bs) (h1 : 1 ≤ r) (hr : r ≤ 4) : Fine ls (bs.map (Rp.four r)) := by
  obtain ⟨n, n1, n4, ok⟩ := h.bs
  refine ⟨by rw [List.length_map]; exact h.same, h.pos, h.most, h.ls, r, h1, hr, fun row hrow => ?_⟩
  obtain ⟨row, hr', rfl⟩ := List.mem_map.mp hrow
  exact four_ok (ok row hr') n1 hr
theorem four_map (r : Nat) (row : List Int) : cutV (List.replicate 4 (row.map V.int)).flatten none (some (r : Int)) = (four r row).map V.int := by
  unfold cutV four
  rw [HT.sIx_none, HT.sIx_nat, List.drop_zero, Nat.sub_zero, List.map_take, List.map_flatten, List.map_replicate]
  by_cases h : r ≤ (List.replicate 4 (row.map V.int)).flatten.length
  · rw [Nat.min_eq_left h]
  · rw [Nat.min_eq_right (by omega), List.take_length, List.take_of_length_le (by omega)]
theorem RowsAt.get {H : Hp} : ∀ {qs : List Addr} {bs : List (List Int)} {m : Nat} {q : Addr}, RowsAt H qs bs → qs[m]? = some q → ∃ row, bs[m]? = some row ∧ H q = some (.tup (row.map V.int))
  | _, _, _, _, .nil, h => by simp at h
  | _, _, 0, _, .cons a _, h => by
    have e := Option.some.inj h
    subst e
    exact ⟨_, rfl, a⟩
  | _, _, m + 1, _, .cons _ t, h => RowsAt.get (m := m) t h
theorem take_snoc {α : Type} {l : List α} {m : Nat} {x : α} (h : l[m]? = some x) : l.take (m + 1) = l.take m ++ [x] := by
  obtain ⟨hm, rfl⟩ := List.getElem?_eq_some_iff.mp h
  exact List.take_succ_eq_append_getElem hm
section
variable {P : Program} {w : World} {K : PySem.W.Frag} {mg : Str → Option Value} {base : Heap} {fW fT fK fC fJ fD : Addr} {fdW fdT fdK fdC fdJ fdD : FuncData}
theorem ok_law {f : Addr} {fd : FuncData} (F : Fun K "law" "law" sLaw f fd) (B : Bi mg) (mR : mg "repr" = none) (mMin : mg "min" = none) (mMax : mg "max" = none)
    (FW : Fun K "_law_well" "_law_well" sWell fW fdW) (mW : mg "_law_well" = some (.ref fW)) (bW : L2.Binds K fdW ["_law_script", "_law_k"] [])
    (FT : Fun K "_law_take" "_law_take" sTake fT fdT) (mT : mg "_law_take" = some (.ref fT)) (bT : L2.Binds K fdT ["_law_well_here", "_law_top"] [])
    (FK : Fun K "_law_talk" "_law_talk" sTalk fK fdK) (mK : mg "_law_talk" = some (.ref fK)) (bK : L2.Binds K fdK ["_law_well_here"] [])
    (FC : Fun K "_law_cuts_right" "_law_cuts_right" sCuts fC fdC) (GC : FnG P w K mg base CX0 4 fC fdC ["_law_well_here", "_law_row"] spCuts) (mC : mg "_law_cuts_right" = some (.ref fC)) (bC : L2.Binds K fdC ["_law_well_here", "_law_row"] [])
    (FJ : Fun K "_law_joined" "_law_joined" sLJ fJ fdJ) (GJ : FnOk P w K mg base CX0 4 fJ fdJ ["_law_one", "_law_other"] (spLJ K)) (mJ : mg "_law_joined" = some (.ref fJ)) (bJ : L2.Binds K fdJ ["_law_one", "_law_other"] [])
    (FD : Fun K "_law_due" "_law_due" sDue fD fdD) (mD : mg "_law_due" = some (.ref fD)) (bD : L2.Binds K fdD ["_law_one", "_law_other"] []) : FnG P w K mg base CX0 5 f fd ["_law_script"] (spLaw K) := by
  have GW : FnOk P w K mg base CX0 1 fW fdW ["_law_script", "_law_k"] (spWell K) := ok_well FW B
  have GT : FnOk P w K mg base CX0 1 fT fdT ["_law_well_here", "_law_top"] spTake := ok_take FT
  have GK : FnOk P w K mg base CX0 2 fK fdK ["_law_well_here"] spTalk := ok_talk FK B FT mT bT
  have GD : FnOk P w K mg base CX0 1 fD fdD ["_law_one", "_law_other"] (spDue K) := ok_due FD B
  refine okG F scLaw (fun vs H Q E h => ?_) (fun cdv A outer s H0 vs Q E gA hr h => ?_)
  · obtain ⟨_, _, rfl, _⟩ := h
    rfl
  · have nd := scLaw.nd
    have hr1 : Room 1 _ := hr.mono (by decide)
    have hr2 : Room 2 _ := hr.mono (by decide)
    refine ⟨_, pss_cons (ps_for PassesOwn.never rfl (pi_range1 (by rfl) B.range (pa_cons (pe_callB (call_max2 rfl) (by rfl) mMax (by decide +kernel) (pa_cons (pe_int) (pa_cons (pe_callB (call_min2 rfl) (by rfl) mMin (by decide +kernel) (pa_cons (pe_callB call_len_seq (by rfl) B.len PySem.boot_len (pa_cons (pv 0) pa_nil)) (pa_cons (pe_int) pa_nil))) pa_nil))) pa_nil)) (pg_name (i := 1) nd rfl (Or.inl rfl)) (pss_cons (ps_set (i := 2) nd rfl (Or.inl rfl) (pe_call GW hr1 (by rfl) mW FW.kp bW .nil pass0 (pa_cons (pv 0) (pa_cons (pv 1) pa_nil))))
      (pss_cons (ps_set (i := 3) nd rfl (Or.inl rfl) (pe_cmpR op_eq (pe_call GT hr1 (by rfl) mT FT.kp bT .nil pass0 (pa_cons (pv 2) (pa_cons (pe_int) pa_nil))) (pe_int) (nomark _)))
      (pss_cons (ps_par (i := 4) (j := 5) rfl nd rfl rfl (by decide) rfl rfl (pa_cons (pe_call GK hr2 (by rfl) mK FK.kp bK .nil pass0 (pa_cons (pv 2) pa_nil)) (pa_cons (pe_call GK hr2 (by rfl) mK FK.kp bK .nil pass0 (pa_cons (pv 2) pa_nil)) pa_nil)) rfl)
      (pss_cons (ps_if (pt_val (pv 3)) (pss_cons (ps_set (i := 6) nd rfl (Or.inr rfl) (pe_callB call_len_seq (by rfl) B.len PySem.boot_len (pa_cons (pe_ix ix_tup (pe_ix ix_tup (pv 4) (pe_int) (fun _ _ => rfl)) (pe_int) (fun _ _ => rfl)) pa_nil)))
        (pss_one (ps_set (i := 5) nd rfl (Or.inl rfl) (pe_tup (pa_cons (pe_ix ix_tup (pv 5) (pe_int) (fun _ _ => rfl)) (pa_cons (pe_callTy call_tuple_of (by rfl) B.tuple boot_tuple (pa_cons (pe_lc (own := [("_law_bits", 9)]) (g := gName 9) (tt := tYes) rfl nd (pi_tup (pe_ix ix_tup (pv 5) (pe_int) (fun _ _ => rfl))) (blkOk_by (own := [("_law_bits", 9)]) (N := ["_law_script", "_law_k", "_law_well_here", "_law_alike", "_law_one", "_law_other", "_law_rates", "_law_here", "_law_there", "_law_bits"]) (sc := defScope sLaw) (by decide +kernel)) (fun _ _ _ _ _ => pg_name (i := 9) nd rfl (Or.inl rfl)) (fun _ _ _ _ _ => pts_nil) (fun _ _ _ _ _ => pe_slice (r := rSlA K) sl_tupA (pe_op (r := rRepT K) op_repT (pv 9) pe_int) po_none (po_some (pv 6)))) pa_nil)) pa_nil)))))) (pss_nil))
      (pss_cons (ps_if (PW.pt (pw_or (pt_not (pt_val (pe_callG GC gA hr (by rfl) mC FC.kp bC pass0 (pa_cons (pv 2) (pa_cons (pv 4) pa_nil))))) (pw_or1 (pt_not (pt_val (pe_callG GC gA hr (by rfl) mC FC.kp bC pass0 (pa_cons (pv 2) (pa_cons (pv 5) pa_nil)))))))) (pss_one (ps_ret (pe_bl))) (pss_nil))
      (pss_one (ps_for PassesOwn.never rfl (pi_list (pe_lst (pa_cons (pe_tup (pa_cons (pv 4) (pa_cons (pv 5) pa_nil))) (pa_cons (pe_tup (pa_cons (pv 5) (pa_cons (pv 4) pa_nil))) (pa_cons (pe_tup (pa_cons (pv 4) (pa_cons (pv 4) pa_nil))) (pa_cons (pe_tup (pa_cons (pv 4) (pa_cons (pv 5) pa_nil))) pa_nil)))))) (pg_tup rfl (pgs_cons (pg_name (i := 7) nd rfl (Or.inl rfl)) (pgs_cons (pg_name (i := 8) nd rfl (Or.inl rfl)) (pgs_nil)))) (pss_one (ps_if (pt_cmpR op_ne (pe_callB (call_reprD gA hr.units) (by rfl) mR boot_repr (pa_cons (pe_call GJ hr (by rfl) mJ FJ.kp bJ .nil pass0 (pa_cons (pv 7) (pa_cons (pv 8) pa_nil))) pa_nil)) (pe_callB (call_reprD gA hr.units) (by rfl) mR boot_repr (pa_cons (pe_call GD hr1 (by rfl) mD FD.kp bD .nil pass0 (pa_cons (pv 7) (pa_cons (pv 8) pa_nil))) pa_nil)) (nomark _)) (pss_one (ps_ret (pe_bl))) (pss_nil)))))))))))
    (pss_one (ps_ret (pe_bl))), ?_⟩
    obtain ⟨a, ns, rfl, ha, k⟩ := h
    refine ⟨_, rfl, a, _, rfl, .inl ha, _, _, rfl, _, _, rfl, ?_⟩
    rw [List.length_map]
    obtain ⟨N, hN, hN4⟩ : ∃ N : Nat, (if (if (4 : Int) < (ns.length : Nat) then (4 : Int) else (ns.length : Nat)) > 1 then (if (4 : Int) < (ns.length : Nat) then (4 : Int) else (ns.length : Nat)) else 1) = (N : Int) ∧ N ≤ 4 := by
      by_cases c : (4 : Int) < (ns.length : Nat)
      · rw [if_pos c]
        exact ⟨4, rfl, by decide⟩
      · rw [if_neg c]
        by_cases e : ((ns.length : Nat) : Int) > 1
        · rw [if_pos e]
          exact ⟨ns.length, rfl, by omega⟩
        · rw [if_neg e]
          exact ⟨1, rfl, by decide⟩
    rw [hN]
    refine ⟨_, rfl, (by omega), (by omega), for_range (lo := 0) (n := N) (fun i σ H => ∃ v1 v2 v3 v4 v5 v6 v7 v8 v9, σ = [some (.ref a), v1, v2, v3, v4, v5, v6, v7, v8, v9] ∧ Same H0 H) ⟨none, none, none, none, none, none, none, none, none, rfl, Same.refl _⟩ ?_ ?_⟩
    · rintro i σ H hi ⟨v1, v2, v3, v4, v5, v6, v7, v8, v9, rfl, sH⟩
      refine ⟨_, rfl, _, rfl, a, ns, i, (by show [V.ref a, V.int (0 + (i : Int))] = [V.ref a, V.int (i : Nat)]; rw [Int.zero_add]), Same.seq sH ha, fun w c0 c1 c2 hw => ?_⟩
      have s1 := Same.upd (o := .lst [.int c0, .int c1, .int c2]) hw
      have w1 : Well (upd H w (.lst [.int c0, .int c1, .int c2])) w := .upw
      generalize upd H w (.lst [.int c0, .int c1, .int c2]) = H1 at s1 w1 ⊢
      obtain ⟨z0, z1, z2, hz⟩ := id w1
      refine ⟨_, rfl, w, z0, z1, z2, _, rfl, hz, (by decide), (by decide), fun d y0 y2 _ _ => ⟨rfl, ?_⟩⟩
      have bT : But w H1 (upd H1 w (.lst [.int y0, .int z1, .int y2])) := .upd
      have w2 : Well (upd H1 w (.lst [.int y0, .int z1, .int y2])) w := .upw
      generalize upd H1 w (.lst [.int y0, .int z1, .int y2]) = H2 at bT w2 ⊢
      generalize decide (V.int d = V.int 1) = alike
      refine ⟨_, rfl, w, rfl, w2, fun H3 p1 l1 b1 bt3 w3 r1 f1 => ?_⟩
      refine ⟨_, rfl, w, rfl, w3, fun H4 p2 l2 b2 bt4 w4 r2 f2 => ⟨_, _, rfl, ?_⟩⟩
      replace r1 := r1.imp (bt4.tup w3)
      have b14 := (bT.trans bt3).trans bt4
      refine ⟨_, rfl, alike, rfl, ?_⟩
      cases alike with
      | false =>
        refine iteF ?_
        refine ⟨_, rfl, _, rfl, w, p1, l1, b1, rfl, w4, r1, f1, fun HA bA wA => ⟨true, rfl, iteF ⟨_, rfl, _, rfl, w, p2, l2, b2, rfl, wA, r2.imp (bA.tup w4), f2, fun HC bC wC => ⟨true, rfl, iteF ?_⟩⟩⟩⟩
        have sC := same_of_but hw s1 ((b14.trans bA).trans bC)
        have q1 := (r1.imp (bA.tup w4)).imp (bC.tup wA)
        have q2 := (r2.imp (bA.tup w4)).imp (bC.tup wA)
        refine ⟨_, rfl, _, rfl, (by show 2 ≤ sizeLine; decide), fun t1 ht1 => ⟨_, rfl, _, rfl, (by show 2 ≤ sizeLine; decide), fun t2 ht2 => ⟨_, rfl, _, rfl, (by show 2 ≤ sizeLine; decide), fun t3 ht3 => ⟨_, rfl, _, rfl, (by show 2 ≤ sizeLine; decide), fun t4 ht4 => ⟨(by show 4 ≤ sizeLine; decide), fun L hL => ?_⟩⟩⟩⟩⟩
        have ea := at_upd ht2
        have sa := same_upd ht1 ht2
        have eb := at_upd ht3
        have sb := same_upd ht2 ht3
        have ec := at_upd ht4
        have sc := same_upd ht3 ht4
        have ed := at_upd hL
        have sd := same_upd ht4 hL
        have sE := Same.upd (o := .lst [.ref t1, .ref t2, .ref t3, .ref t4]) hL
        have eE := new_at (o := .lst [.ref t1, .ref t2, .ref t3, .ref t4]) hL
        have sB := (((sa.trans sb).trans sc).trans sd).trans sE
        replace ea := sE _ _ (sd _ _ (sc _ _ (sb _ _ ea)))
        replace eb := sE _ _ (sd _ _ (sc _ _ eb))
        replace ec := sE _ _ (sd _ _ ec)
        replace ed := sE _ _ ed
        refine ⟨L, rfl, ⟨_, SqL.of eE⟩, ?_⟩
        generalize upd (upd (upd (upd (upd HC t1 (.tup [.ref p1, .ref p2])) t2 (.tup [.ref p2, .ref p1])) t3 (.tup [.ref p1, .ref p1])) t4 (.tup [.ref p1, .ref p2])) L (.lst [.ref t1, .ref t2, .ref t3, .ref t4]) = HB at sB ea eb ec ed eE ⊢
        replace q1 := q1.same sB
        replace q2 := q2.same sB
        have pairs : ∀ (m : Nat) (y : V), [V.ref t1, V.ref t2, V.ref t3, V.ref t4][m]? = some y → ∃ (t x z : Addr) (lx : List Int) (bx : List (List Int)) (lz : List Int) (bz : List (List Int)), y = .ref t ∧ HB t = some (.tup [.ref x, .ref z]) ∧ TalkRow HB x lx bx ∧ TalkRow HB z lz bz ∧ Fine lx bx ∧ Fine lz bz := by
          intro m y hy
          match m, hy with
          | 0, hy => exact ⟨t1, _, _, _, _, _, _, (Option.some.inj hy).symm, ea, q1, q2, f1, f2⟩
          | 1, hy => exact ⟨t2, _, _, _, _, _, _, (Option.some.inj hy).symm, eb, q2, q1, f2, f1⟩
          | 2, hy => exact ⟨t3, _, _, _, _, _, _, (Option.some.inj hy).symm, ec, q1, q1, f1, f1⟩
          | 3, hy => exact ⟨t4, _, _, _, _, _, _, (Option.some.inj hy).symm, ed, q1, q2, f1, f2⟩
        refine for_list (K := K) (a := L) (xs := [V.ref t1, V.ref t2, V.ref t3, V.ref t4]) (fun m σ H => ∃ v6 v7 v8, σ = [some (.ref a), some (.int (0 + (i : Int))), some (.ref w), some (.bl false), some (.ref p1), some (.ref p2), v6, v7, v8, v9] ∧ Same HB H) ⟨_, v7, v8, rfl, Same.refl _⟩ (fun m σ H _ ⟨_, _, _, _, sl⟩ => SqL.of (sl _ _ eE)) ?_ ?_
        · rintro m y σ H hy ⟨v6, v7, v8, rfl, sl⟩
          obtain ⟨t, x, z, lx, bx, lz, bz, rfl, ht, rx, rz, fx, fz⟩ := pairs m y hy
          refine ⟨t, _, rfl, SqT.of (sl _ _ ht), rfl, _, _, rfl, _, _, rfl, rfl, ?_⟩
          refine ⟨_, rfl, _, rfl, x, z, lx, bx, lz, bz, rfl, rx.same sl, rz.same sl, fx, fz, fun H5 u1 s5 d5 => ⟨u1, _, rfl, d5, due_shw fx fz, ?_⟩⟩
          refine ⟨_, rfl, _, rfl, x, z, lx, bx, lz, bz, rfl, rx.same (sl.trans s5), rz.same (sl.trans s5), fx, fz, fun H6 u2 s6 d6 => ⟨u2, _, rfl, d6, due_shw fx fz, rfl, _, rfl, iteNS rfl ?_⟩⟩
          exact ⟨_, _, _, rfl, sl.trans (s5.trans s6)⟩
        · rintro σ H ⟨v6, v7, v8, rfl, sl⟩
          exact ⟨_, _, _, _, _, _, _, _, _, rfl, sH.trans (sC.trans (sB.trans sl))⟩
      | true =>
        refine iteT ?_
        obtain ⟨x1, b1, rfl⟩ := f1.cons
        obtain ⟨ra, rb, rqs, g1, g2, g3, g4⟩ := id r1
        obtain ⟨sa, sb, sqs, h1, h2, h3, h4⟩ := id r2
        obtain ⟨n, n1, n4, okr⟩ := f1.bs
        have nx : x1.length = n := (okr x1 List.mem_cons_self).1
        cases g4 with
        | @cons c _ cs _ gc gt =>
        refine ⟨_, rfl, p1, _, 1, _, rfl, rfl, SqT.of g1, at_of (j := 1) rfl rfl, rb, _, 0, _, rfl, rfl, SqT.of g3, at_of (j := 0) rfl rfl, c, _, rfl, .inr (SqT.of gc), ?_⟩
        rw [List.length_map]
        refine ⟨_, rfl, p2, _, 0, _, rfl, rfl, SqT.of h1, at_of (j := 0) rfl rfl, _, rfl, p2, _, 1, _, rfl, rfl, SqT.of h1, at_of (j := 1) rfl rfl, sb, rfl, ⟨_, SqT.of h3⟩, fun D hD => ?_⟩
        refine lc_tup (K := K) (a := sb) (xs := sqs.map V.ref) (fun m H => ∃ qs', H D = some (.lst (qs'.map V.ref)) ∧ RowsAt H qs' ((b2.take m).map (Rp.four x1.length)) ∧ Same H4 H) ⟨[], upd_same, .nil, Same.upd hD⟩ (fun m H _ ⟨_, _, _, s⟩ => SqT.of (s _ _ h3)) ?_ ?_
        · rintro m y H hy ⟨qs', e1, e2, sD⟩
          rw [List.getElem?_map] at hy
          obtain ⟨q, hq, rfl⟩ := Option.map_eq_some_iff.mp hy
          obtain ⟨row, hrow, hqr⟩ := h4.get hq
          obtain ⟨n', n1', n4', okr'⟩ := f2.bs
          have nrow := (okr' row (List.mem_of_getElem? hrow)).1
          have hle : qs'.length ≤ 12 := by
            have := e2.length
            rw [List.length_map, List.length_take] at this
            have := f2.most
            have := f2.same
            omega
          have nilne : row.map V.int ≠ [] := fun z => by
            have := congrArg List.length z
            rw [List.length_map] at this
            have z0 : ([] : List V).length = 0 := rfl
            omega
          refine ⟨rfl, ?_⟩
          refine ⟨_, rfl, q, _, _, rfl, rfl, SqT.of (sD _ _ hqr), nilne, (by decide), (by decide), (by rw [List.length_map]; omega), fun pp hpp => ⟨_, rfl, _, rfl, ?_⟩⟩
          have sP := Same.upd (o := .tup (List.replicate 4 (row.map V.int)).flatten) hpp
          refine sl_by (new_at hpp) fun p' H' s' hp' => ?_
          have sQ := sP.trans s'
          refine ⟨_, sQ _ _ e1, by rw [List.length_map]; exact small1000 (by omega), qs' ++ [p'], ?_, ?_, ?_⟩
          · rw [upd_same, List.map_append]; rfl
          · have kD : ∀ (q : Addr) (xs : List V), H' q = some (.tup xs) → upd H' D (.lst (qs'.map V.ref ++ [.ref p'])) q = some (.tup xs) := fun q xs z => by rw [upd_ne (ne_of z (sQ _ _ e1) (by intro y; cases y))]; exact z
            rw [take_snoc hrow, List.map_append]
            refine ((e2.imp fun _ _ e => sQ _ _ e).imp kD).snoc (kD _ _ ?_)
            rw [hp', show (Int.toNat 4) = 4 from rfl, four_map]
          · intro b o z
            rw [upd_ne (ne_of_none z hD)]
            exact sQ _ _ (sD _ _ z)
        · rintro H ⟨qs', e1, e2, sD⟩
          rw [List.length_map, List.take_of_length_le (by rw [h4.length]; exact Nat.le_refl _)] at e2
          refine ⟨D, _, rfl, .inl ⟨SqL.of e1, fun u hu => ⟨(by show 2 ≤ sizeLine; decide), fun p2' hp2 => ?_⟩⟩⟩
          have su := Same.upd (o := .tup (qs'.map V.ref)) hu
          have sv := Same.upd (o := .tup [.ref sa, .ref u]) hp2
          have sUV := (sD.trans su).trans sv
          have r2' : TalkRow _ p2' l2 (b2.map (Rp.four x1.length)) := ⟨sa, u, qs', new_at (o := .tup [.ref sa, .ref u]) hp2, sUV _ _ h2, sv _ _ (new_at (o := .tup (qs'.map V.ref)) hu), e2.imp fun _ _ e => sv _ _ (su _ _ e)⟩
          have f2' := f2.four (r := x1.length) (by omega) (by omega)
          refine ⟨_, rfl, _, rfl, w, p1, l1, (x1 :: b1), rfl, (w4.same sUV), (r1.same sUV), f1, fun HA bA wA => ⟨true, rfl, iteF ⟨_, rfl, _, rfl, w, p2', l2, (b2.map (Rp.four x1.length)), rfl, wA, r2'.imp (bA.tup (w4.same sUV)), f2', fun HC bC wC => ⟨true, rfl, iteF ?_⟩⟩⟩⟩
          have sC := same_of_but hw s1 (((b14.same sUV).trans bA).trans bC)
          have q1 := ((r1.same sUV).imp (bA.tup (w4.same sUV))).imp (bC.tup wA)
          have q2 := (r2'.imp (bA.tup (w4.same sUV))).imp (bC.tup wA)
          refine ⟨_, rfl, _, rfl, (by show 2 ≤ sizeLine; decide), fun t1 ht1 => ⟨_, rfl, _, rfl, (by show 2 ≤ sizeLine; decide), fun t2 ht2 => ⟨_, rfl, _, rfl, (by show 2 ≤ sizeLine; decide), fun t3 ht3 => ⟨_, rfl, _, rfl, (by show 2 ≤ sizeLine; decide), fun t4 ht4 => ⟨(by show 4 ≤ sizeLine; decide), fun L hL => ?_⟩⟩⟩⟩⟩
          have ea := at_upd ht2
          have sa := same_upd ht1 ht2
          have eb := at_upd ht3
          have sb := same_upd ht2 ht3
          have ec := at_upd ht4
          have sc := same_upd ht3 ht4
          have ed := at_upd hL
          have sd := same_upd ht4 hL
          have sE := Same.upd (o := .lst [.ref t1, .ref t2, .ref t3, .ref t4]) hL
          have eE := new_at (o := .lst [.ref t1, .ref t2, .ref t3, .ref t4]) hL
          have sB := (((sa.trans sb).trans sc).trans sd).trans sE
          replace ea := sE _ _ (sd _ _ (sc _ _ (sb _ _ ea)))
          replace eb := sE _ _ (sd _ _ (sc _ _ eb))
          replace ec := sE _ _ (sd _ _ ec)
          replace ed := sE _ _ ed
          refine ⟨L, rfl, ⟨_, SqL.of eE⟩, ?_⟩
          generalize upd (upd (upd (upd (upd HC t1 (.tup [.ref p1, .ref p2'])) t2 (.tup [.ref p2', .ref p1])) t3 (.tup [.ref p1, .ref p1])) t4 (.tup [.ref p1, .ref p2'])) L (.lst [.ref t1, .ref t2, .ref t3, .ref t4]) = HB at sB ea eb ec ed eE ⊢
          replace q1 := q1.same sB
          replace q2 := q2.same sB
          have pairs : ∀ (m : Nat) (y : V), [V.ref t1, V.ref t2, V.ref t3, V.ref t4][m]? = some y → ∃ (t x z : Addr) (lx : List Int) (bx : List (List Int)) (lz : List Int) (bz : List (List Int)), y = .ref t ∧ HB t = some (.tup [.ref x, .ref z]) ∧ TalkRow HB x lx bx ∧ TalkRow HB z lz bz ∧ Fine lx bx ∧ Fine lz bz := by
            intro m y hy
            match m, hy with
            | 0, hy => exact ⟨t1, _, _, _, _, _, _, (Option.some.inj hy).symm, ea, q1, q2, f1, f2'⟩
            | 1, hy => exact ⟨t2, _, _, _, _, _, _, (Option.some.inj hy).symm, eb, q2, q1, f2', f1⟩
            | 2, hy => exact ⟨t3, _, _, _, _, _, _, (Option.some.inj hy).symm, ec, q1, q1, f1, f1⟩
            | 3, hy => exact ⟨t4, _, _, _, _, _, _, (Option.some.inj hy).symm, ed, q1, q2, f1, f2'⟩
          refine for_list (K := K) (a := L) (xs := [V.ref t1, V.ref t2, V.ref t3, V.ref t4]) (fun m σ H => ∃ v6 v7 v8, σ = [some (.ref a), some (.int (0 + (i : Int))), some (.ref w), some (.bl true), some (.ref p1), some (.ref p2'), v6, v7, v8, v9] ∧ Same HB H) ⟨_, v7, v8, rfl, Same.refl _⟩ (fun m σ H _ ⟨_, _, _, _, sl⟩ => SqL.of (sl _ _ eE)) ?_ ?_
          · rintro m y σ H hy ⟨v6, v7, v8, rfl, sl⟩
            obtain ⟨t, x, z, lx, bx, lz, bz, rfl, ht, rx, rz, fx, fz⟩ := pairs m y hy
            refine ⟨t, _, rfl, SqT.of (sl _ _ ht), rfl, _, _, rfl, _, _, rfl, rfl, ?_⟩
            refine ⟨_, rfl, _, rfl, x, z, lx, bx, lz, bz, rfl, rx.same sl, rz.same sl, fx, fz, fun H5 u1 s5 d5 => ⟨u1, _, rfl, d5, due_shw fx fz, ?_⟩⟩
            refine ⟨_, rfl, _, rfl, x, z, lx, bx, lz, bz, rfl, rx.same (sl.trans s5), rz.same (sl.trans s5), fx, fz, fun H6 u2 s6 d6 => ⟨u2, _, rfl, d6, due_shw fx fz, rfl, _, rfl, iteNS rfl ?_⟩⟩
            exact ⟨_, _, _, rfl, sl.trans (s5.trans s6)⟩
          · rintro σ H ⟨v6, v7, v8, rfl, sl⟩
            exact ⟨_, _, _, _, _, _, _, _, _, rfl, sH.trans (sC.trans (sB.trans sl))⟩
    · rintro σ H ⟨v1, v2, v3, v4, v5, v6, v7, v8, v9, rfl, sH⟩
      exact k H
end
end Rp

namespace Rp
open PySem PySem.Spec PyProof.Rows L2
theorem all_mk {w : World} {K : PySem.W.Frag} {h : Heap} {mg : Str → Option Value} {fa : Addr} (X : K.In h) (G : h.Ns mainGlobals mg) (hfa : mg "law" = some (.ref fa))
    {C CU UNoText UTooMany UNoSpeed URateError fI fE fM fC_ fJ fU_ fW fT fK_ fP fQ fL fD fLaw : Addr} {odI anI odE anE odM anM odC_ anC_ odJ anJ odU_ anU_ odW anW odT anT odK_ anK_ odP anP odQ anQ odL anL odD anD odLaw anLaw : Option Addr} {slI slE slM slC_ slJ slU_ slW slT slK_ slP slQ slL slD slLaw : Array (Option Value)} {ocI kVI dcI pmI cdI ctI ocE kVE dcE pmE cdE ctE ocM kVM dcM pmM cdM ctM ocC_ kVC_ dcC_ pmC_ cdC_ ctC_ ocJ kVJ dcJ pmJ cdJ ctJ ocU_ kVU_ dcU_ pmU_ cdU_ ctU_ ocW kVW dcW pmW cdW ctW ocT kVT dcT pmT cdT ctT ocK_ kVK_ dcK_ pmK_ cdK_ ctK_ ocP kVP dcP pmP cdP ctP ocQ kVQ dcQ pmQ cdQ ctQ ocL kVL dcL pmL cdL ctL ocD kVD dcD pmD cdD ctD ocLaw kVLaw dcLaw pmLaw cdLaw ctLaw : Value}
    {nm q : Str} {N : Addr} {bs : List Value} {sn : List Str} {sub : List Value} {ab : Bool} {col : Option Bool} {dd : Option Addr} {m0 m1 m2 m3 m5 : Option Value}
    (aC : PySem.W.nsIn K mainGlobals "Talk" = some (some (.ref C)))
    (aU : PySem.W.nsIn K mainGlobals "Unlike" = some (some (.ref CU)))
    (aNoText : PySem.W.nsIn K mainGlobals "NoText" = some (some (.ref UNoText)))
    (aTooMany : PySem.W.nsIn K mainGlobals "TooMany" = some (some (.ref UTooMany)))
    (aNoSpeed : PySem.W.nsIn K mainGlobals "NoSpeed" = some (some (.ref UNoSpeed)))
    (aRateError : PySem.W.nsIn K mainGlobals "RateError" = some (some (.ref URateError)))
    (qI : PySem.W.findIn K (.ref C) "__init__" = some (some (.ref fI)))
    (iI : PySem.W.isFn K (.ref fI) = true)
    (lI : K.lookup fI = some ⟨ocI, odI, .func (PySem.W.fnOf "__init__" "Talk.__init__" (defArgs sInit) (defBody sInit) (defScope sInit) .none kVI dcI pmI anI cdI ctI), slI⟩)
    (cI : PySem.W.codeIn K cdI "Talk.__init__" = true)
    (kI : PySem.W.keepIn K (.ref fI) = true)
    (qE : PySem.W.findIn K (.ref C) "__eq__" = some (some (.ref fE)))
    (iE : PySem.W.isFn K (.ref fE) = true)
    (lE : K.lookup fE = some ⟨ocE, odE, .func (PySem.W.fnOf "__eq__" "Talk.__eq__" (defArgs sEq) (defBody sEq) (defScope sEq) .none kVE dcE pmE anE cdE ctE), slE⟩)
    (cE : PySem.W.codeIn K cdE "Talk.__eq__" = true)
    (kE : PySem.W.keepIn K (.ref fE) = true)
    (qM : PySem.W.findIn K (.ref C) "many_rates" = some (some (.ref fM)))
    (iM : PySem.W.isFn K (.ref fM) = true)
    (lM : K.lookup fM = some ⟨ocM, odM, .func (PySem.W.fnOf "many_rates" "Talk.many_rates" (defArgs sMany) (defBody sMany) (defScope sMany) .none kVM dcM pmM anM cdM ctM), slM⟩)
    (cM : PySem.W.codeIn K cdM "Talk.many_rates" = true)
    (kM : PySem.W.keepIn K (.ref fM) = true)
    (qC_ : PySem.W.findIn K (.ref C) "cut" = some (some (.ref fC_)))
    (iC_ : PySem.W.isFn K (.ref fC_) = true)
    (lC_ : K.lookup fC_ = some ⟨ocC_, odC_, .func (PySem.W.fnOf "cut" "Talk.cut" (defArgs sCut) (defBody sCut) (defScope sCut) .none kVC_ dcC_ pmC_ anC_ cdC_ ctC_), slC_⟩)
    (cC_ : PySem.W.codeIn K cdC_ "Talk.cut" = true)
    (kC_ : PySem.W.keepIn K (.ref fC_) = true)
    (qJ : PySem.W.findIn K (.ref C) "joined" = some (some (.ref fJ)))
    (iJ : PySem.W.isFn K (.ref fJ) = true)
    (lJ : K.lookup fJ = some ⟨ocJ, odJ, .func (PySem.W.fnOf "joined" "Talk.joined" (defArgs sJoin) (defBody sJoin) (defScope sJoin) .none kVJ dcJ pmJ anJ cdJ ctJ), slJ⟩)
    (cJ : PySem.W.codeIn K cdJ "Talk.joined" = true)
    (kJ : PySem.W.keepIn K (.ref fJ) = true)
    (qU_ : PySem.W.findIn K (.ref CU) "__init__" = some (some (.ref fU_)))
    (iU_ : PySem.W.isFn K (.ref fU_) = true)
    (lU_ : K.lookup fU_ = some ⟨ocU_, odU_, .func (PySem.W.fnOf "__init__" "Unlike.__init__" (defArgs sUnl) (defBody sUnl) (defScope sUnl) .none kVU_ dcU_ pmU_ anU_ cdU_ ctU_), slU_⟩)
    (cU_ : PySem.W.codeIn K cdU_ "Unlike.__init__" = true)
    (kU_ : PySem.W.keepIn K (.ref fU_) = true)
    (gW : PySem.W.nsIn K mainGlobals "_law_well" = some (some (.ref fW)))
    (lW : K.lookup fW = some ⟨ocW, odW, .func (PySem.W.fnOf "_law_well" "_law_well" (defArgs sWell) (defBody sWell) (defScope sWell) .none kVW dcW pmW anW cdW ctW), slW⟩)
    (cW : PySem.W.codeIn K cdW "_law_well" = true)
    (kW : PySem.W.keepIn K (.ref fW) = true)
    (gT : PySem.W.nsIn K mainGlobals "_law_take" = some (some (.ref fT)))
    (lT : K.lookup fT = some ⟨ocT, odT, .func (PySem.W.fnOf "_law_take" "_law_take" (defArgs sTake) (defBody sTake) (defScope sTake) .none kVT dcT pmT anT cdT ctT), slT⟩)
    (cT : PySem.W.codeIn K cdT "_law_take" = true)
    (kT : PySem.W.keepIn K (.ref fT) = true)
    (gK_ : PySem.W.nsIn K mainGlobals "_law_talk" = some (some (.ref fK_)))
    (lK_ : K.lookup fK_ = some ⟨ocK_, odK_, .func (PySem.W.fnOf "_law_talk" "_law_talk" (defArgs sTalk) (defBody sTalk) (defScope sTalk) .none kVK_ dcK_ pmK_ anK_ cdK_ ctK_), slK_⟩)
    (cK_ : PySem.W.codeIn K cdK_ "_law_talk" = true)
    (kK_ : PySem.W.keepIn K (.ref fK_) = true)
    (gP : PySem.W.nsIn K mainGlobals "_law_parts" = some (some (.ref fP)))
    (lP : K.lookup fP = some ⟨ocP, odP, .func (PySem.W.fnOf "_law_parts" "_law_parts" (defArgs sParts) (defBody sParts) (defScope sParts) .none kVP dcP pmP anP cdP ctP), slP⟩)
    (cP : PySem.W.codeIn K cdP "_law_parts" = true)
    (kP : PySem.W.keepIn K (.ref fP) = true)
    (gQ : PySem.W.nsIn K mainGlobals "_law_cuts_right" = some (some (.ref fQ)))
    (lQ : K.lookup fQ = some ⟨ocQ, odQ, .func (PySem.W.fnOf "_law_cuts_right" "_law_cuts_right" (defArgs sCuts) (defBody sCuts) (defScope sCuts) .none kVQ dcQ pmQ anQ cdQ ctQ), slQ⟩)
    (cQ : PySem.W.codeIn K cdQ "_law_cuts_right" = true)
    (kQ : PySem.W.keepIn K (.ref fQ) = true)
    (gL : PySem.W.nsIn K mainGlobals "_law_joined" = some (some (.ref fL)))
    (lL : K.lookup fL = some ⟨ocL, odL, .func (PySem.W.fnOf "_law_joined" "_law_joined" (defArgs sLJ) (defBody sLJ) (defScope sLJ) .none kVL dcL pmL anL cdL ctL), slL⟩)
    (cL : PySem.W.codeIn K cdL "_law_joined" = true)
    (kL : PySem.W.keepIn K (.ref fL) = true)
    (gD : PySem.W.nsIn K mainGlobals "_law_due" = some (some (.ref fD)))
    (lD : K.lookup fD = some ⟨ocD, odD, .func (PySem.W.fnOf "_law_due" "_law_due" (defArgs sDue) (defBody sDue) (defScope sDue) .none kVD dcD pmD anD cdD ctD), slD⟩)
    (cD : PySem.W.codeIn K cdD "_law_due" = true)
    (kD : PySem.W.keepIn K (.ref fD) = true)
    (gLaw : PySem.W.nsIn K mainGlobals "law" = some (some (.ref fLaw)))
    (lLaw : K.lookup fLaw = some ⟨ocLaw, odLaw, .func (PySem.W.fnOf "law" "law" (defArgs sLaw) (defBody sLaw) (defScope sLaw) .none kVLaw dcLaw pmLaw anLaw cdLaw ctLaw), slLaw⟩)
    (cLaw : PySem.W.codeIn K cdLaw "law" = true)
    (kLaw : PySem.W.keepIn K (.ref fLaw) = true)
    (pg : PySem.W.plainGet K C Str.empty = true)
    (hd : PySem.W.hasDictIn K C = true)
    (po : PySem.W.plainOver K C = true)
    (mk : PySem.W.makesIn K C = true)
    (kc : PySem.W.keepIn K (.ref C) = true)
    (sa : PySem.W.findIn K (.ref C) "__setattr__" = some (some (.builtin "object.__setattr__")))
    (n1 : PySem.W.findIn K (.ref C) "lengths" = some none)
    (n2 : PySem.W.findIn K (.ref C) "sizes" = some none)
    (ca : PySem.W.findIn K (.ref C) "__class__" = some (some (.builtin "object.__class__")))
    (cn : PySem.W.specialIn K (.builtin "object.__class__") "__get__" = some (some (.builtin "getset_descriptor.__get__")))
    (ct : PySem.W.takesIn K (.builtin "object.__class__") = some true)
    (cm : PySem.W.mroIn K C (.type "object") = some true)
    (xU : K.lookup CU = some (excClassObj nm q CU N bs [.type "ValueError", .type "Exception", .type "BaseException", .type "object"] true sn sub ab col dd m0 m1 m2 m3 m5 "ValueError.__new__"))
    (uS : PySem.W.findIn K (.ref CU) "__setattr__" = some (some (.builtin "object.__setattr__")))
    (uE : PySem.W.subIn K (.ref CU) (.type "BaseException") = some true)
    (uT : PySem.W.typeIn K (.ref CU) = some (.type "type"))
    (uK : PySem.W.keepIn K (.ref CU) = true)
    (uF : PySem.W.typeIn K (.ref fU_) = some (.type "function"))
    (u1 : PySem.W.findIn K (.ref CU) "one" = some none)
    (u2 : PySem.W.findIn K (.ref CU) "other" = some none)
    (uG : PySem.W.findIn K (.ref CU) "__getattribute__" = some (some (.builtin "BaseException.__getattribute__")))
    (uA : PySem.W.findIn K (.ref CU) "__getattr__" = some none)
    (uD : PySem.W.hasDictIn K CU = true)
    (uC : PySem.W.findIn K (.ref CU) "__class__" = some (some (.builtin "object.__class__")))
    (uM : PySem.W.mroIn K CU (.type "object") = some true)
    (uU : PySem.W.subIn K (.ref CU) (.ref CU) = some true)
    (kk1 : PySem.W.kitOne K (.ref CU) (.ref UNoText) = some false)
    (kk2 : PySem.W.kitOne K (.ref CU) (.ref UTooMany) = some false)
    (kk3 : PySem.W.kitOne K (.ref CU) (.ref UNoSpeed) = some false)
    (kk4 : PySem.W.kitOne K (.ref CU) (.ref URateError) = some false)
    (kk5 : PySem.W.kitOne K (.ref CU) (.type "ValueError") = some true)
    (vV : PySem.W.findCls K (.type "ValueError") (.type "type") "__init__" = some (.val (.builtin "ValueError.__init__")))
    (zint : PySem.W.nsIn K mainGlobals "int" = some none)
    (zlen : PySem.W.nsIn K mainGlobals "len" = some none)
    (zrange : PySem.W.nsIn K mainGlobals "range" = some none)
    (ztuple : PySem.W.nsIn K mainGlobals "tuple" = some none)
    (zisinstance : PySem.W.nsIn K mainGlobals "isinstance" = some none)
    (zrepr : PySem.W.nsIn K mainGlobals "repr" = some none)
    (zmin : PySem.W.nsIn K mainGlobals "min" = some none)
    (zmax : PySem.W.nsIn K mainGlobals "max" = some none)
    (zValueError : PySem.W.nsIn K mainGlobals "ValueError" = some none)
    : ∃ fd : FuncData, (∀ (s : Shared) (u : Value), BindsTo s fd ⟨[u], []⟩ [("_law_script", u)]) ∧ ∀ base : Heap, K.In base → base.Ns mainGlobals mg → FnG PySem.Challenge.pw_rateplan_k02_talks_cut_and_joined w K mg base CX0 5 fa fd ["_law_script"] (spLaw K) := by
  have e := hfa.symm.trans (PySem.W.mg_of X G gLaw)
  cases e
  have FI := fun_mk (st := sInit) lI cI kI
  have bI := FI.binds (ps := ["self", "lengths", "sizes"]) fun _ _ _ _ _ _ us hl => match us, hl with | [_, _, _], _ => rfl
  have FE := fun_mk (st := sEq) lE cE kE
  have bE := FE.binds (ps := ["self", "other"]) fun _ _ _ _ _ _ us hl => match us, hl with | [_, _], _ => rfl
  have FM := fun_mk (st := sMany) lM cM kM
  have bM := FM.binds (ps := ["self"]) fun _ _ _ _ _ _ us hl => match us, hl with | [_], _ => rfl
  have FC_ := fun_mk (st := sCut) lC_ cC_ kC_
  have bC_ := FC_.binds (ps := ["self", "first", "last"]) fun _ _ _ _ _ _ us hl => match us, hl with | [_, _, _], _ => rfl
  have FJ := fun_mk (st := sJoin) lJ cJ kJ
  have bJ := FJ.binds (ps := ["self", "other"]) fun _ _ _ _ _ _ us hl => match us, hl with | [_, _], _ => rfl
  have FU_ := fun_mk (st := sUnl) lU_ cU_ kU_
  have bU_ := FU_.binds (ps := ["self", "one", "other"]) fun _ _ _ _ _ _ us hl => match us, hl with | [_, _, _], _ => rfl
  have FW := fun_mk (st := sWell) lW cW kW
  have bW := FW.binds (ps := ["_law_script", "_law_k"]) fun _ _ _ _ _ _ us hl => match us, hl with | [_, _], _ => rfl
  have mW := PySem.W.mg_of X G gW
  have FT := fun_mk (st := sTake) lT cT kT
  have bT := FT.binds (ps := ["_law_well_here", "_law_top"]) fun _ _ _ _ _ _ us hl => match us, hl with | [_, _], _ => rfl
  have mT := PySem.W.mg_of X G gT
  have FK_ := fun_mk (st := sTalk) lK_ cK_ kK_
  have bK_ := FK_.binds (ps := ["_law_well_here"]) fun _ _ _ _ _ _ us hl => match us, hl with | [_], _ => rfl
  have mK_ := PySem.W.mg_of X G gK_
  have FP := fun_mk (st := sParts) lP cP kP
  have bP := FP.binds (ps := ["_law_talk_here"]) fun _ _ _ _ _ _ us hl => match us, hl with | [_], _ => rfl
  have mP := PySem.W.mg_of X G gP
  have FQ := fun_mk (st := sCuts) lQ cQ kQ
  have bQ := FQ.binds (ps := ["_law_well_here", "_law_row"]) fun _ _ _ _ _ _ us hl => match us, hl with | [_, _], _ => rfl
  have mQ := PySem.W.mg_of X G gQ
  have FL := fun_mk (st := sLJ) lL cL kL
  have bL := FL.binds (ps := ["_law_one", "_law_other"]) fun _ _ _ _ _ _ us hl => match us, hl with | [_, _], _ => rfl
  have mL := PySem.W.mg_of X G gL
  have FD := fun_mk (st := sDue) lD cD kD
  have bD := FD.binds (ps := ["_law_one", "_law_other"]) fun _ _ _ _ _ _ us hl => match us, hl with | [_, _], _ => rfl
  have mD := PySem.W.mg_of X G gD
  have FLaw := fun_mk (st := sLaw) lLaw cLaw kLaw
  have bLaw := FLaw.binds (ps := ["_law_script"]) fun _ _ _ _ _ _ us hl => match us, hl with | [_], _ => rfl
  have mLaw := PySem.W.mg_of X G gLaw
  have nint := PySem.W.mg_none_of X G zint
  have nlen := PySem.W.mg_none_of X G zlen
  have nrange := PySem.W.mg_none_of X G zrange
  have ntuple := PySem.W.mg_none_of X G ztuple
  have nisinstance := PySem.W.mg_none_of X G zisinstance
  have nrepr := PySem.W.mg_none_of X G zrepr
  have nmin := PySem.W.mg_none_of X G zmin
  have nmax := PySem.W.mg_none_of X G zmax
  have nValueError := PySem.W.mg_none_of X G zValueError
  have mC := PySem.W.mg_of X G aC
  have B : Bi mg := ⟨nint, nlen, nrange, ntuple⟩
  have T : TkC K C fI fE fM fC_ fJ := { cl := ⟨pg, hd, po, sa⟩, make := ⟨mk, qI, iI, kc⟩, nl := n1, ns := n2, eq := qE, eqf := iE, mM := ⟨qM, iM, kM⟩, mC := ⟨qC_, iC_, kC_⟩, mJ := ⟨qJ, iJ, kJ⟩, ca := ca, cn := cn, ct := ct, cm := cm }
  have U : UnC K mg CU fU_ := { oc := { cls := ⟨nm, q, N, bs, _, sn, sub, ab, col, dd, m0, m1, m2, m3, m5, xU, by decide +kernel⟩, sa := uS, exC := uE, tyC := uT, kC := uK }, iU := qU_, tU := uF, mU := PySem.W.mg_of X G aU, n1 := u1, n2 := u2 }
  have M : ErC K mg CU UNoText UTooMany UNoSpeed URateError := { ec := ⟨uG, uA, uE, uD, uC, cn, ct, uM⟩, xf := ⟨uG, uA, uE, uD⟩, em := PySem.W.exm_ref uE uD uT uU, NoText := PySem.W.mg_of X G aNoText, TooMany := PySem.W.mg_of X G aTooMany, NoSpeed := PySem.W.mg_of X G aNoSpeed, RateError := PySem.W.mg_of X G aRateError, k1 := kk1, k2 := kk2, k3 := kk3, k4 := kk4, k5 := kk5 }
  exact ⟨PySem.W.fnOf "law" "law" (defArgs sLaw) (defBody sLaw) (defScope sLaw) .none kVLaw dcLaw pmLaw anLaw cdLaw ctLaw, fun s v => .of_eq rfl, fun base _ _ => ok_law FLaw B nrepr nmin nmax FW mW bW FT mT bT FK_ mK_ bK_ FQ (ok_cuts FQ T B mC nisinstance nrepr nmin nmax FI bI FE bE FC_ bC_ FP mP bP FT mT bT) mQ bQ FL (ok_lj FL T U M B mC nValueError nisinstance vV FI bI FM bM FU_ bU_ FJ bJ FP mP bP) mL bL FD mD bD⟩
end Rp
open PySem PySem.W PyProof.Rows
set_option maxRecDepth 100000 in
set_option maxHeartbeats 0 in
theorem PySem.Challenge.cw_rateplan_k02_talks_cut_and_joined_holds : PySem.Challenge.rw_rateplan_k02_talks_cut_and_joined.Holds := by
  w_on; o_law; k_head; (case hw => w_witness2)
  k_fill
  refine Rp.walkG (l := PySem.Challenge.rw_rateplan_k02_talks_cut_and_joined) (n := 63) (k := 5) (x := "_law_script") (CX := fun _ => L2.CX0) (sp := Rp.spLaw) rfl (by decide) rfl ⟨rfl, by decide, by decide⟩ (fun w h Y => PySem.W.kIn_of Y) ?F (fun K H a ns _ _ hS => ⟨a, ns, rfl, hS, fun _ => rfl⟩) (fun _ _ _ _ _ z => z)
  case F =>
    intro w mg fa h KX G hmg
    refine' Rp.all_mk KX G hmg ?aC ?aU ?aNoText ?aTooMany ?aNoSpeed ?aRateError ?qI ?iI ?lI ?cI ?kI ?qE ?iE ?lE ?cE ?kE ?qM ?iM ?lM ?cM ?kM ?qC_ ?iC_ ?lC_ ?cC_ ?kC_ ?qJ ?iJ ?lJ ?cJ ?kJ ?qU_ ?iU_ ?lU_ ?cU_ ?kU_ ?gW ?lW ?cW ?kW ?gT ?lT ?cT ?kT ?gK_ ?lK_ ?cK_ ?kK_ ?gP ?lP ?cP ?kP ?gQ ?lQ ?cQ ?kQ ?gL ?lL ?cL ?kL ?gD ?lD ?cD ?kD ?gLaw ?lLaw ?cLaw ?kLaw ?pg ?hd ?po ?mk ?kc ?sa ?n1 ?n2 ?ca ?cn ?ct ?cm ?xU ?uS ?uE ?uT ?uK ?uF ?u1 ?u2 ?uG ?uA ?uD ?uC ?uM ?uU ?kk1 ?kk2 ?kk3 ?kk4 ?kk5 ?vV ?zint ?zlen ?zrange ?ztuple ?zisinstance ?zrepr ?zmin ?zmax ?zValueError
    (case aC => k_is)
    (case aU => k_is)
    (case aNoText => k_is)
    (case aTooMany => k_is)
    (case aNoSpeed => k_is)
    (case aRateError => k_is)
    (case qI => k_is)
    (case iI => k_is)
    (case lI => k_is)
    (case cI => k_is)
    (case kI => k_is)
    (case qE => k_is)
    (case iE => k_is)
    (case lE => k_is)
    (case cE => k_is)
    (case kE => k_is)
    (case qM => k_is)
    (case iM => k_is)
    (case lM => k_is)
    (case cM => k_is)
    (case kM => k_is)
    (case qC_ => k_is)
    (case iC_ => k_is)
    (case lC_ => k_is)
    (case cC_ => k_is)
    (case kC_ => k_is)
    (case qJ => k_is)
    (case iJ => k_is)
    (case lJ => k_is)
    (case cJ => k_is)
    (case kJ => k_is)
    (case qU_ => k_is)
    (case iU_ => k_is)
    (case lU_ => k_is)
    (case cU_ => k_is)
    (case kU_ => k_is)
    (case gW => k_is)
    (case lW => k_is)
    (case cW => k_is)
    (case kW => k_is)
    (case gT => k_is)
    (case lT => k_is)
    (case cT => k_is)
    (case kT => k_is)
    (case gK_ => k_is)
    (case lK_ => k_is)
    (case cK_ => k_is)
    (case kK_ => k_is)
    (case gP => k_is)
    (case lP => k_is)
    (case cP => k_is)
    (case kP => k_is)
    (case gQ => k_is)
    (case lQ => k_is)
    (case cQ => k_is)
    (case kQ => k_is)
    (case gL => k_is)
    (case lL => k_is)
    (case cL => k_is)
    (case kL => k_is)
    (case gD => k_is)
    (case lD => k_is)
    (case cD => k_is)
    (case kD => k_is)
    (case gLaw => k_is)
    (case lLaw => k_is)
    (case cLaw => k_is)
    (case kLaw => k_is)
    (case pg => k_is)
    (case hd => k_is)
    (case po => k_is)
    (case mk => k_is)
    (case kc => k_is)
    (case sa => k_is)
    (case n1 => k_is)
    (case n2 => k_is)
    (case ca => k_is)
    (case cn => k_is)
    (case ct => k_is)
    (case cm => k_is)
    (case xU => k_is)
    (case uS => k_is)
    (case uE => k_is)
    (case uT => k_is)
    (case uK => k_is)
    (case uF => k_is)
    (case u1 => k_is)
    (case u2 => k_is)
    (case uG => k_is)
    (case uA => k_is)
    (case uD => k_is)
    (case uC => k_is)
    (case uM => k_is)
    (case uU => first | rfl | k_is)
    (case kk1 => first | k_is | kit_is)
    (case kk2 => first | k_is | kit_is)
    (case kk3 => first | k_is | kit_is)
    (case kk4 => first | k_is | kit_is)
    (case kk5 => first | k_is | kit_is)
    (case vV => k_is)
    (case zint => k_is)
    (case zlen => k_is)
    (case zrange => k_is)
    (case ztuple => k_is)
    (case zisinstance => k_is)
    (case zrepr => k_is)
    (case zmin => k_is)
    (case zmax => k_is)
    (case zValueError => k_is)

