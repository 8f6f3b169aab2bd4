import PyProof.Rows.All
import Wide.All
import OpenK.AllK
import Wide.FinOn
import HandS.ForMost
import HandS.ForExc
import HandS.TupAny
import HandS.IsInst
import HandS.OwnEq
import KE.KExcIs
import HandS.ExcIs
import HandS.ExcField
import HandS.WordsExc
import PyProof.InstNe
import HandS.Dict
import PyProof.ListRange
import PyProof.RowDictHeap
import KE.KTupSum
import OpenK.KOps
import KE.KFmtOwn
import HandS.FStr
import HandS.Text
import HandS.StrMore
import HandS.TupMul
import HandS.Style
import PySem.Challenge.RW_rateplan_k01_talks_equal_and_written
set_option Elab.async false
set_option linter.all false
set_option maxRecDepth 100000
set_option maxHeartbeats 4000000
namespace Rp
open PySem PySem.Spec PyProof.Rows L2
abbrev topS (i : Nat) : Stmt := PySem.Challenge.pw_rateplan_k01_talks_equal_and_written.main.body.getD i (.Pass ⟨0, 0, 0, 0⟩)
abbrev sTake : Stmt := topS 5
theorem scTake : FnScope ["_law_well_here", "_law_top", "_law_digit", "_law_number"] ["_law_well_here", "_law_top"] (defScope sTake) :=
  ⟨rfl, rfl, rfl, by decide +kernel, rfl, by decide +kernel, by decide +kernel⟩

/-- the well: three whole numbers in a list -/
def Well (H : Hp) (w : Addr) : Prop := ∃ c0 c1 c2 : Int, H w = some (.lst [.int c0, .int c1, .int c2])
/-- all but the object at w stands -/
def But (w : Addr) (H H' : Hp) : Prop := ∀ b o, b ≠ w → H b = some o → H' b = some o
theorem But.refl (w : Addr) (H : Hp) : But w H H := fun _ _ _ h => h
theorem But.trans {w : Addr} {H H1 H2 : Hp} (a : But w H H1) (b : But w H1 H2) : But w H H2 := fun c o n h => b c o n (a c o n h)
theorem But.upd {w : Addr} {H : Hp} {o : HO} : But w H (upd H w o) := fun b u n h => by rw [upd_ne n]; exact h

def spTake : Sp := fun vs H Q _ => ∃ (w : Addr) (c0 c1 c2 top : Int), vs = [.ref w, .int top] ∧ H w = some (.lst [.int c0, .int c1, .int c2]) ∧ 1 ≤ top ∧ top < 1000000 ∧
  ∀ d c0' c2' : Int, 0 ≤ d → d < top → Q (.int d) (upd H w (.lst [.int c0', .int c1, .int c2']))

section
variable {P : Program} {w : World} {K : PySem.W.Frag} {mg : Str → Option Value} {base : Heap}
theorem ok_take {f : Addr} {fd : FuncData} (F : Fun K "_law_take" "_law_take" sTake f fd) : FnOk P w K mg base CX0 1 f fd ["_law_well_here", "_law_top"] spTake := by
  refine F.ok scTake (fun vs H Q E h => ?_) (fun cdv A outer s H vs Q E hr h => ?_)
  · obtain ⟨_, _, _, _, _, rfl, _⟩ := h
    rfl
  · have nd := scTake.nd
    refine ⟨_, pss_cons (ps_if (pt_cmpR op_gt (pe_ix ix_list (pv 0) pe_int (fun _ _ => rfl)) pe_int (nomark _))
        (pss_cons (ps_set (i := 2) nd rfl (Or.inl rfl) (pe_op op_mod (pe_ix ix_list (pv 0) pe_int (fun _ _ => rfl)) (pv 1)))
          (pss_cons (ps_asg (pe_op op_fdiv (pe_ix ix_list (pv 0) pe_int (fun _ _ => rfl)) (pv 1)) (pg_sub (pv 0) pe_int set_list))
            (pss_one (ps_ret (pv 2))))) pss_nil)
      (pss_cons (ps_asg (pe_op op_add (pe_ix ix_list (pv 0) pe_int (fun _ _ => rfl)) pe_int) (pg_sub (pv 0) pe_int set_list))
      (pss_cons (ps_set (i := 3) nd rfl (Or.inl rfl) (pe_op op_mod (pe_op op_mul (pe_op op_add (pe_op op_add (pe_ix ix_list (pv 0) pe_int (fun _ _ => rfl)) (pe_op op_mul pe_int (pe_ix ix_list (pv 0) pe_int (fun _ _ => rfl)))) pe_int) pe_int) pe_int))
      (pss_cons (ps_set (i := 3) nd rfl (Or.inl rfl) (pe_op op_mod (pe_op op_add (pe_op op_mul (pv 3) (pv 3)) (pe_op op_mul pe_int (pe_ix ix_list (pv 0) pe_int (fun _ _ => rfl)))) pe_int))
      (pss_cons (ps_set (i := 3) nd rfl (Or.inl rfl) (pe_op op_add (pe_op op_mul (pe_op op_mod (pe_op op_mul (pv 3) (pe_op op_add (pv 3) pe_int)) pe_int) pe_int) (pv 3)))
      (pss_one (ps_ret (pe_op op_mod (pe_op op_fdiv (pe_op op_mod (pe_op op_mul (pv 3) pe_int) pe_int) pe_int) (pv 1)))))))), ?_⟩
    obtain ⟨a, c0, c1, c2, top, rfl, ha, h1, h2, k⟩ := h
    refine ⟨_, rfl, a, _, 0, _, rfl, rfl, SqL.of ha, rfl, _, _, rfl, rfl, _, rfl, ?_⟩
    refine ite2 (fun _ => ?_) (fun _ => ?_)
    · refine ⟨_, rfl, a, _, 0, _, rfl, rfl, SqL.of ha, rfl, _, rfl, _, _, rfl, rfl, by show (0 : Int) < top; omega, ?_⟩
      refine ⟨_, rfl, a, _, 0, _, rfl, rfl, SqL.of ha, rfl, _, rfl, _, _, rfl, rfl, ⟨by show (0 : Int) < top; omega, by show top < 1073741824; omega⟩, ?_⟩
      refine ⟨_, rfl, a, _, 0, 0, rfl, rfl, ha, rfl, ?_⟩
      refine ⟨_, rfl, ?_⟩
      exact k _ _ c2 (Int.emod_nonneg _ (by omega)) (Int.emod_lt_of_pos _ (by omega))
    · refine ⟨_, rfl, a, _, 2, _, rfl, rfl, SqL.of ha, rfl, _, _, rfl, rfl, ?_⟩
      refine ⟨_, rfl, a, _, 2, 2, rfl, rfl, ha, rfl, ?_⟩
      have hb : upd H a (.lst [.int c0, .int c1, .int (c2 + 1)]) a = some (.lst [.int c0, .int c1, .int (c2 + 1)]) := upd_same
      refine ⟨_, rfl, a, _, 1, _, rfl, rfl, SqL.of hb, rfl, ?_⟩
      refine ⟨_, rfl, a, _, 2, _, rfl, rfl, SqL.of hb, rfl, _, _, rfl, rfl, .inl ⟨by decide, by decide⟩, ?_⟩
      refine ⟨_, _, rfl, rfl, _, _, rfl, rfl, _, _, rfl, rfl, .inr ⟨by decide, by decide⟩, _, _, rfl, rfl, (by show (0 : Int) < 2147483647; decide), ?_⟩
      have n0 := Int.emod_nonneg ((c1 + 65537 * (c2 + 1) + 31) * 48271) (show (2147483647 : Int) ≠ 0 by decide)
      have n1 := Int.emod_lt_of_pos ((c1 + 65537 * (c2 + 1) + 31) * 48271) (show (0 : Int) < 2147483647 by decide)
      refine ⟨_, rfl, _, rfl, _, _, rfl, rfl, .inl ⟨Int.lt_of_lt_of_le (by decide) n0, Int.lt_trans n1 (by decide)⟩, _, rfl, a, _, 2, _, rfl, rfl, SqL.of hb, rfl, _, _, rfl, rfl, .inl ⟨by decide, by decide⟩, _, _, rfl, rfl, _, _, rfl, rfl, (by show (0 : Int) < 2147483587; decide), ?_⟩
      have m0 := fun z : Int => Int.emod_nonneg z (show (2147483587 : Int) ≠ 0 by decide)
      have m1 := fun z : Int => Int.emod_lt_of_pos z (show (0 : Int) < 2147483587 by decide)
      refine ⟨_, rfl, _, rfl, _, _, rfl, rfl, _, _, rfl, rfl, .inl ⟨Int.lt_of_lt_of_le (by decide) (m0 _), Int.lt_trans (m1 _) (by decide)⟩, _, _, rfl, rfl, (by show (0 : Int) < 2147483563; decide), _, _, rfl, rfl, .inr ⟨by decide, by decide⟩, _, rfl, _, _, rfl, rfl, ?_⟩
      refine ⟨_, rfl, _, _, rfl, rfl, .inr ⟨by decide, by decide⟩, _, _, rfl, rfl, (by show (0 : Int) < 2305843009213693951; decide), _, _, rfl, rfl, ⟨by decide, by decide⟩, _, rfl, _, _, rfl, rfl, (by show (0 : Int) < top; omega), ?_⟩
      exact k _ c0 (c2 + 1) (Int.emod_nonneg _ (by omega)) (Int.emod_lt_of_pos _ (by omega))
end
end Rp

namespace Rp
open PySem PySem.Spec PyProof.Rows L2
abbrev sWell : Stmt := topS 4
abbrev sTalk : Stmt := topS 6
theorem scWell : FnScope ["_law_script", "_law_k", "_law_cell"] ["_law_script", "_law_k"] (defScope sWell) :=
  ⟨rfl, rfl, rfl, by decide +kernel, rfl, by decide +kernel, by decide +kernel⟩
theorem scTalk : FnScope ["_law_well_here", "_law_great", "_law_way", "_law_many", "_law_rates", "_law_lengths", "_law_sizes", "_law_k", "_law_row", "_law_j"] ["_law_well_here"] (defScope sTalk) :=
  ⟨rfl, rfl, rfl, by decide +kernel, rfl, by decide +kernel, by decide +kernel⟩

def spWell (K : PySem.W.Frag) : Sp := fun vs H Q _ => ∃ (a : Addr) (ns : List Int) (k : Nat), vs = [.ref a, .int k] ∧ SqL K H a (ns.map V.int) ∧
  ∀ p (c0 c1 c2 : Int), H p = none → Q (.ref p) (upd H p (.lst [.int c0, .int c1, .int c2]))
/-- the built-in names are as they were -/
structure Bi (mg : Str → Option Value) : Prop where
  int : mg "int" = none
  len : mg "len" = none
  range : mg "range" = none
  tuple : mg "tuple" = none

theorem cut_mul {b : Bool} {c : Int} : CMul c (if b = true then 1 else 0) := by
  cases b
  · exact .inr ⟨by decide, by decide⟩
  · exact .inr ⟨by decide, by decide⟩
section
variable {P : Program} {w : World} {K : PySem.W.Frag} {mg : Str → Option Value} {base : Heap}
theorem ok_well {f : Addr} {fd : FuncData} (F : Fun K "_law_well" "_law_well" sWell f fd) (T : Bi mg) : FnOk P w K mg base CX0 1 f fd ["_law_script", "_law_k"] (spWell K) := by
  refine F.ok scWell (fun vs H Q E h => ?_) (fun cdv A outer s H vs Q E hr h => ?_)
  · obtain ⟨_, _, _, rfl, _⟩ := h
    rfl
  · have nd := scWell.nd
    refine ⟨_, pss_cons (ps_set (i := 2) nd rfl (Or.inl rfl) pe_int)
      (pss_cons (ps_if (pt_cmpR op_lt (pv 1) (pe_callB call_len_seq (by rfl) T.len PySem.boot_len (pa_cons (pv 0) pa_nil)) (nomark _))
        (pss_one (ps_set (i := 2) nd rfl (Or.inl rfl) (pe_ix ix_list (pv 0) (pv 1) (fun _ _ => rfl)))) pss_nil)
      (pss_one (ps_ret (pe_lst (pa_cons (pe_op op_mul (pv 2) (pe_callTy call_int1 (by rfl) T.int boot_int (pa_cons (pe_cmpR op_ge (pv 2) (pe_op op_pow pe_int pe_int) (nomark _)) pa_nil)))
        (pa_cons (pe_op op_add (pe_op op_mod (pv 2) pe_int) (pe_op op_mul pe_int (pv 1))) (pa_cons pe_int pa_nil))))))), ?_⟩
    obtain ⟨a, ns, k, rfl, ha, q⟩ := h
    have hk : decide ((k : Int) < ((ns.map V.int).length : Int)) = true → k < (ns.map V.int).length := fun c => by have := of_decide_eq_true c; omega
    refine ⟨_, rfl, _, rfl, a, _, rfl, .inl ha, _, _, rfl, rfl, _, rfl, ?_⟩
    refine ite2 (fun c => ⟨_, rfl, _, rfl, a, _, k, _, rfl, rfl, ha, atI_nat (List.getElem?_eq_getElem (hk c)), ?_⟩) (fun _ => ?_)
    · rw [List.getElem_map]
      refine ⟨_, rfl, _, rfl, _, _, rfl, rfl, ⟨by decide, by decide, by decide⟩, _, _, rfl, rfl, .inr ⟨_, rfl, _, _, rfl, rfl, cut_mul, _, rfl, _, _, rfl, rfl, (by show (0 : Int) < 2147483629; decide), _, rfl, _, _, rfl, rfl, .inl ⟨by decide, by decide⟩, _, _, rfl, rfl, by show 3 ≤ sizeLine; decide, fun p hp => ?_⟩⟩
      exact q p _ _ _ hp
    · refine ⟨_, rfl, _, rfl, _, _, rfl, rfl, ⟨by decide, by decide, by decide⟩, _, _, rfl, rfl, .inr ⟨_, rfl, _, _, rfl, rfl, cut_mul, _, rfl, _, _, rfl, rfl, (by show (0 : Int) < 2147483629; decide), _, rfl, _, _, rfl, rfl, .inl ⟨by decide, by decide⟩, _, _, rfl, rfl, by show 3 ≤ sizeLine; decide, fun p hp => ?_⟩⟩
      exact q p _ _ _ hp
end
end Rp

namespace Rp
open PySem PySem.Spec PyProof.Rows L2
theorem four_at (a b c d way : Int) (h0 : 0 ≤ way) (h4 : way < 4) : ∃ v, atI [V.int a, V.int b, V.int c, V.int d] way = some (.int v) ∧ (v = a ∨ v = b ∨ v = c ∨ v = d) := by
  have h : way = 0 ∨ way = 1 ∨ way = 2 ∨ way = 3 := by omega
  rcases h with rfl | rfl | rfl | rfl
  · exact ⟨a, rfl, .inl rfl⟩
  · exact ⟨b, rfl, .inr (.inl rfl)⟩
  · exact ⟨c, rfl, .inr (.inr (.inl rfl))⟩
  · exact ⟨d, rfl, .inr (.inr (.inr rfl))⟩
theorem two_at (a b i : Int) (h0 : 0 ≤ i) (h2 : i < 2) : ∃ v, atI [V.int a, V.int b] i = some (.int v) ∧ (v = a ∨ v = b) := by
  have h : i = 0 ∨ i = 1 := by omega
  rcases h with rfl | rfl
  · exact ⟨a, rfl, .inl rfl⟩
  · exact ⟨b, rfl, .inr rfl⟩
/-- tuples of numbers at the addresses qs -/
def RowsAt (H : Hp) (qs : List Addr) (bs : List (List Int)) : Prop := Paired (fun (q : Addr) (row : List Int) => H q = some (.tup (row.map V.int))) qs bs
theorem RowsAt.imp {H H' : Hp} (k : ∀ q xs, H q = some (.tup xs) → H' q = some (.tup xs)) : ∀ {qs : List Addr} {bs : List (List Int)}, RowsAt H qs bs → RowsAt H' qs bs
  | _, _, .nil => .nil
  | _, _, .cons h t => .cons (k _ _ h) (RowsAt.imp k t)
theorem RowsAt.snoc {H : Hp} {q : Addr} {row : List Int} (h : H q = some (.tup (row.map V.int))) : ∀ {qs : List Addr} {bs : List (List Int)}, RowsAt H qs bs → RowsAt H (qs ++ [q]) (bs ++ [row])
  | _, _, .nil => .cons h .nil
  | _, _, .cons a t => .cons a (RowsAt.snoc h t)
theorem RowsAt.length {H : Hp} {qs : List Addr} {bs : List (List Int)} (h : RowsAt H qs bs) : qs.length = bs.length := Paired.length h
def RowOk (r : Nat) (row : List Int) : Prop := row.length = r ∧ ∀ b ∈ row, 1 ≤ b ∧ b ≤ 1000
/-- a talk's numbers as they are drawn -/
structure Fine (ls : List Int) (bs : List (List Int)) : Prop where
  same : ls.length = bs.length
  pos : 1 ≤ ls.length
  most : ls.length ≤ 12
  ls : ∀ l ∈ ls, 1 ≤ l ∧ l ≤ 20
  bs : ∃ r, 1 ≤ r ∧ r ≤ 4 ∧ ∀ row ∈ bs, RowOk r row
/-- (lengths, sizes) at p -/
def TalkRow (H : Hp) (p : Addr) (ls : List Int) (bs : List (List Int)) : Prop := ∃ a b qs, H p = some (.tup [.ref a, .ref b]) ∧ H a = some (.tup (ls.map V.int)) ∧ H b = some (.tup (qs.map V.ref)) ∧ RowsAt H qs bs
theorem TalkRow.imp {H H' : Hp} (k : ∀ q xs, H q = some (.tup xs) → H' q = some (.tup xs)) {p : Addr} {ls : List Int} {bs : List (List Int)} (h : TalkRow H p ls bs) : TalkRow H' p ls bs :=
  let ⟨a, b, qs, h1, h2, h3, h4⟩ := h
  ⟨a, b, qs, k _ _ h1, k _ _ h2, k _ _ h3, h4.imp k⟩
theorem But.tup {w : Addr} {H H' : Hp} (b : But w H H') (hw : Well H w) (q : Addr) (xs : List V) (h : H q = some (.tup xs)) : H' q = some (.tup xs) := by
  obtain ⟨_, _, _, hw⟩ := hw
  exact b q _ (ne_of h hw (by intro z; cases z)) h
def spTalk : Sp := fun vs H Q _ => ∃ w, vs = [.ref w] ∧ Well H w ∧ ∀ H' p ls bs, But w H H' → Well H' w → TalkRow H' p ls bs → Fine ls bs → Q (.ref p) H'

structure OS (w L S : Addr) (H0 : Hp) (ls : List Int) (qs : List Addr) (bs : List (List Int)) (H : Hp) : Prop where
  but : But w H0 H
  nl : H0 L = none
  ns : H0 S = none
  wl : w ≠ L
  ws : w ≠ S
  lS : L ≠ S
  well : Well H w
  hL : H L = some (.lst (ls.map V.int))
  hS : H S = some (.lst (qs.map V.ref))
  rows : RowsAt H qs bs
section
variable {w L S R : Addr} {H0 H : Hp} {ls row : List Int} {qs : List Addr} {bs : List (List Int)} {p : Addr} {o : HO}
theorem OS.wellNe (x : OS w L S H0 ls qs bs H) (hp : H p = none) : w ≠ p := by
  obtain ⟨_, _, _, h⟩ := x.well
  exact ne_of_none h hp
theorem OS.new (x : OS w L S H0 ls qs bs H) (hp : H p = none) : OS w L S H0 ls qs bs (upd H p o) where
  but := fun b u n h => by
    have := x.but b u n h
    rw [upd_ne (ne_of_none this hp)]; exact this
  nl := x.nl
  ns := x.ns
  wl := x.wl
  ws := x.ws
  lS := x.lS
  well := by
    obtain ⟨a, b, c, h⟩ := x.well
    exact ⟨a, b, c, by rw [upd_ne (ne_of_none h hp)]; exact h⟩
  hL := by rw [upd_ne (ne_of_none x.hL hp)]; exact x.hL
  hS := by rw [upd_ne (ne_of_none x.hS hp)]; exact x.hS
  rows := x.rows.imp fun q xs h => by rw [upd_ne (ne_of_none h hp)]; exact h
theorem OS.upw (x : OS w L S H0 ls qs bs H) {c0 c1 c2 : Int} : OS w L S H0 ls qs bs (upd H w (.lst [.int c0, .int c1, .int c2])) where
  but := x.but.trans .upd
  nl := x.nl
  ns := x.ns
  wl := x.wl
  ws := x.ws
  lS := x.lS
  well := ⟨c0, c1, c2, upd_same⟩
  hL := by rw [upd_ne (Ne.symm x.wl)]; exact x.hL
  hS := by rw [upd_ne (Ne.symm x.ws)]; exact x.hS
  rows := by
    obtain ⟨_, _, _, hw⟩ := x.well
    exact x.rows.imp fun q xs h => by rw [upd_ne (ne_of h hw (by intro z; cases z))]; exact h
theorem OS.pushL (x : OS w L S H0 ls qs bs H) {v : Int} : OS w L S H0 (ls ++ [v]) qs bs (upd H L (.lst (ls.map V.int ++ [.int v]))) where
  but := fun b u n h => by
    rw [upd_ne (ne_of_none h x.nl)]; exact x.but b u n h
  nl := x.nl
  ns := x.ns
  wl := x.wl
  ws := x.ws
  lS := x.lS
  well := by
    obtain ⟨a, b, c, h⟩ := x.well
    exact ⟨a, b, c, by rw [upd_ne x.wl]; exact h⟩
  hL := by rw [upd_same, List.map_append]; rfl
  hS := by rw [upd_ne (Ne.symm x.lS)]; exact x.hS
  rows := x.rows.imp fun q xs h => by rw [upd_ne (ne_of h x.hL (by intro z; cases z))]; exact h
theorem OS.pushS (x : OS w L S H0 ls qs bs H) (hp : H p = some (.tup (row.map V.int))) : OS w L S H0 ls (qs ++ [p]) (bs ++ [row]) (upd H S (.lst (qs.map V.ref ++ [.ref p]))) where
  but := fun b u n h => by
    rw [upd_ne (ne_of_none h x.ns)]; exact x.but b u n h
  nl := x.nl
  ns := x.ns
  wl := x.wl
  ws := x.ws
  lS := x.lS
  well := by
    obtain ⟨a, b, c, h⟩ := x.well
    exact ⟨a, b, c, by rw [upd_ne x.ws]; exact h⟩
  hL := by rw [upd_ne x.lS]; exact x.hL
  hS := by rw [upd_same, List.map_append]; rfl
  rows := by
    have k : ∀ q xs, H q = some (.tup xs) → upd H S (.lst (qs.map V.ref ++ [.ref p])) q = some (.tup xs) := fun q xs h => by rw [upd_ne (ne_of h x.hS (by intro z; cases z))]; exact h
    exact (x.rows.imp k).snoc (k _ _ hp)
/-- .. and a row that grows at R -/
structure OR (w L S R : Addr) (H0 : Hp) (ls : List Int) (qs : List Addr) (bs : List (List Int)) (row : List Int) (H : Hp) : Prop where
  os : OS w L S H0 ls qs bs H
  nr : H0 R = none
  wr : w ≠ R
  lr : L ≠ R
  sr : S ≠ R
  hR : H R = some (.lst (row.map V.int))
theorem OR.new (x : OR w L S R H0 ls qs bs row H) (hp : H p = none) : OR w L S R H0 ls qs bs row (upd H p o) where
  os := x.os.new hp
  nr := x.nr
  wr := x.wr
  lr := x.lr
  sr := x.sr
  hR := by rw [upd_ne (ne_of_none x.hR hp)]; exact x.hR
theorem OR.upw (x : OR w L S R H0 ls qs bs row H) {c0 c1 c2 : Int} : OR w L S R H0 ls qs bs row (upd H w (.lst [.int c0, .int c1, .int c2])) where
  os := x.os.upw
  nr := x.nr
  wr := x.wr
  lr := x.lr
  sr := x.sr
  hR := by rw [upd_ne (Ne.symm x.wr)]; exact x.hR
theorem OR.push (x : OR w L S R H0 ls qs bs row H) {v : Int} : OR w L S R H0 ls qs bs (row ++ [v]) (upd H R (.lst (row.map V.int ++ [.int v]))) where
  os := {
    but := fun b u n h => by rw [upd_ne (ne_of_none h x.nr)]; exact x.os.but b u n h
    nl := x.os.nl
    ns := x.os.ns
    wl := x.os.wl
    ws := x.os.ws
    lS := x.os.lS
    well := by
      obtain ⟨a, b, c, h⟩ := x.os.well
      exact ⟨a, b, c, by rw [upd_ne x.wr]; exact h⟩
    hL := by rw [upd_ne x.lr]; exact x.os.hL
    hS := by rw [upd_ne x.sr]; exact x.os.hS
    rows := x.os.rows.imp fun q xs h => by rw [upd_ne (ne_of h x.hR (by intro z; cases z))]; exact h }
  nr := x.nr
  wr := x.wr
  lr := x.lr
  sr := x.sr
  hR := by rw [upd_same, List.map_append]; rfl
end
/-- a drawn number, and what the draw leaves -/
theorem take_by {w : Addr} {H : Hp} {top : Int} {Q : VK} {E : XK} (hw : Well H w) (h1 : 1 ≤ top) (h2 : top < 1000000) (k : ∀ d c0 c1 c2 : Int, 0 ≤ d → d < top → Q (.int d) (upd H w (.lst [.int c0, .int c1, .int c2]))) : spTake [.ref w, .int top] H Q E := by
  obtain ⟨c0, c1, c2, hw⟩ := hw
  exact ⟨w, c0, c1, c2, top, rfl, hw, h1, h2, fun d c0' c2' a b => k d c0' c1 c2' a b⟩
theorem Well.upw {w : Addr} {H : Hp} {c0 c1 c2 : Int} : Well (upd H w (.lst [.int c0, .int c1, .int c2])) w := ⟨c0, c1, c2, upd_same⟩
theorem Well.new {w p : Addr} {H : Hp} {o : HO} (h : Well H w) (hp : H p = none) : Well (upd H p o) w := by
  obtain ⟨a, b, c, h⟩ := h
  exact ⟨a, b, c, by rw [upd_ne (ne_of_none h hp)]; exact h⟩
theorem But.new {w p : Addr} {H0 H : Hp} {o : HO} (h : But w H0 H) (hp : H p = none) : But w H0 (L2.upd H p o) := fun b u n q => by
  have := h b u n q
  rw [upd_ne (ne_of_none this hp)]; exact this
theorem But.free {w p : Addr} {H0 H : Hp} (h : But w H0 H) (hw : Well H w) (hp : H p = none) : H0 p = none := by
  cases q : H0 p with
  | none => rfl
  | some o =>
    obtain ⟨_, _, _, hw⟩ := hw
    have := h p o (Ne.symm (ne_of_none hw hp)) q
    rw [hp] at this; cases this
end Rp

namespace Rp
open PySem PySem.Spec PyProof.Rows L2
section
variable {P : Program} {w : World} {K : PySem.W.Frag} {mg : Str → Option Value} {base : Heap}
theorem ok_talk {f fT : Addr} {fd fdT : FuncData} (F : Fun K "_law_talk" "_law_talk" sTalk f fd) (T : Bi mg) (FT : Fun K "_law_take" "_law_take" sTake fT fdT) (mT : mg "_law_take" = some (.ref fT)) (bT : Binds K fdT ["_law_well_here", "_law_top"] []) :
    FnOk P w K mg base CX0 2 f fd ["_law_well_here"] spTalk := by
  have G : FnOk P w K mg base CX0 1 fT fdT ["_law_well_here", "_law_top"] spTake := ok_take FT
  refine F.ok scTalk (fun vs H Q E h => ?_) (fun cdv A outer s H0 vs Q E hr h => ?_)
  · obtain ⟨_, rfl, _⟩ := h
    rfl
  · have nd := scTalk.nd
    refine ⟨_, pss_cons (ps_set (i := 1) nd rfl (Or.inl rfl) (pe_callTy call_int1 (by rfl) T.int boot_int (pa_cons (pe_cmpR op_eq (pe_call G hr (by rfl) mT FT.kp bT .nil pass0 (pa_cons (pv 0) (pa_cons (pe_int) pa_nil))) (pe_int) (nomark _)) pa_nil)))
    (pss_cons (ps_set (i := 2) nd rfl (Or.inl rfl) (pe_call G hr (by rfl) mT FT.kp bT .nil pass0 (pa_cons (pv 0) (pa_cons (pe_int) pa_nil))))
    (pss_cons (ps_set (i := 3) nd rfl (Or.inl rfl) (pe_ix ix_list (pe_lst (pa_cons (pe_op op_add (pe_int) (pe_call G hr (by rfl) mT FT.kp bT .nil pass0 (pa_cons (pv 0) (pa_cons (pe_int) pa_nil)))) (pa_cons (pe_int) pa_nil))) (pv 1) (fun _ _ => rfl)))
    (pss_cons (ps_set (i := 4) nd rfl (Or.inl rfl) (pe_ix ix_list (pe_lst (pa_cons (pe_op op_add (pe_int) (pe_call G hr (by rfl) mT FT.kp bT .nil pass0 (pa_cons (pv 0) (pa_cons (pe_int) pa_nil)))) (pa_cons (pe_int) pa_nil))) (pv 1) (fun _ _ => rfl)))
    (pss_cons (ps_set (i := 5) nd rfl (Or.inl rfl) (pe_lst (pa_nil)))
    (pss_cons (ps_set (i := 6) nd rfl (Or.inl rfl) (pe_lst (pa_nil)))
    (pss_cons (ps_for PassesOwn.never rfl (pi_range1 (by rfl) T.range (pa_cons (pv 3) pa_nil)) (pg_name (i := 7) nd rfl (Or.inl rfl)) (pss_cons (ps_expr (pe_bm PySem.F.plainAttrs_list PySem.F.slot_list_append PySem.F.type_list_append mt_append (pv 5) (pa_cons (pe_ix ix_list (pe_lst (pa_cons (pe_op op_add (pe_int) (pe_call G hr (by rfl) mT FT.kp bT .nil pass0 (pa_cons (pv 0) (pa_cons (pe_int) pa_nil)))) (pa_cons (pe_op op_add (pe_int) (pe_call G hr (by rfl) mT FT.kp bT .nil pass0 (pa_cons (pv 0) (pa_cons (pe_int) pa_nil)))) (pa_cons (pe_op op_sub (pe_int) (pe_call G hr (by rfl) mT FT.kp bT .nil pass0 (pa_cons (pv 0) (pa_cons (pe_int) pa_nil)))) (pa_cons (pe_int) pa_nil))))) (pv 2) (fun _ _ => rfl)) pa_nil)))
      (pss_cons (ps_set (i := 8) nd rfl (Or.inl rfl) (pe_lst (pa_nil)))
      (pss_cons (ps_for PassesOwn.never rfl (pi_range1 (by rfl) T.range (pa_cons (pv 4) pa_nil)) (pg_name (i := 9) nd rfl (Or.inl rfl)) (pss_one (ps_expr (pe_bm PySem.F.plainAttrs_list PySem.F.slot_list_append PySem.F.type_list_append mt_append (pv 8) (pa_cons (pe_ix ix_list (pe_lst (pa_cons (pe_op op_add (pe_int) (pe_call G hr (by rfl) mT FT.kp bT .nil pass0 (pa_cons (pv 0) (pa_cons (pe_int) pa_nil)))) (pa_cons (pe_op op_add (pe_int) (pe_call G hr (by rfl) mT FT.kp bT .nil pass0 (pa_cons (pv 0) (pa_cons (pe_int) pa_nil)))) (pa_cons (pe_op op_sub (pe_int) (pe_call G hr (by rfl) mT FT.kp bT .nil pass0 (pa_cons (pv 0) (pa_cons (pe_int) pa_nil)))) (pa_cons (pe_op op_add (pe_op op_mul (pe_int) (pv 9)) (pe_int)) pa_nil))))) (pv 2) (fun _ _ => rfl)) pa_nil)))))
      (pss_one (ps_expr (pe_bm PySem.F.plainAttrs_list PySem.F.slot_list_append PySem.F.type_list_append mt_append (pv 6) (pa_cons (pe_callTy call_tuple_of (by rfl) T.tuple boot_tuple (pa_cons (pv 8) pa_nil)) pa_nil))))))))
    (pss_one (ps_ret (pe_tup (pa_cons (pe_callTy call_tuple_of (by rfl) T.tuple boot_tuple (pa_cons (pv 5) pa_nil)) (pa_cons (pe_callTy call_tuple_of (by rfl) T.tuple boot_tuple (pa_cons (pv 6) pa_nil)) pa_nil))))))))))), ?_⟩
    obtain ⟨w, rfl, ⟨hw0, x1, hw2, hw⟩, k⟩ := h
    -- great, way
    refine ⟨_, rfl, w, hw0, x1, hw2, _, rfl, hw, (by decide), (by decide), fun d0 x0 x2 _ _ => ⟨rfl, .inr ⟨_, rfl, ?_⟩⟩⟩
    obtain ⟨g, hg, g0, g2⟩ : ∃ g : Int, (if decide (V.int d0 = V.int 5) = true then (1 : Int) else 0) = g ∧ 0 ≤ g ∧ g < 2 := by
      split
      · exact ⟨1, rfl, by decide, by decide⟩
      · exact ⟨0, rfl, by decide, by decide⟩
    rw [hg]
    have b1 : But w H0 (upd H0 w (.lst [.int x0, .int x1, .int x2])) := .upd
    have w1 : Well (upd H0 w (.lst [.int x0, .int x1, .int x2])) w := .upw
    generalize upd H0 w (.lst [.int x0, .int x1, .int x2]) = H1 at b1 w1 ⊢
    obtain ⟨z0, y1, z2, hz⟩ := w1
    refine ⟨_, rfl, w, z0, y1, z2, _, rfl, hz, (by decide), (by decide), fun way y0 y2 way0 way4 => ?_⟩
    have b2 : But w H0 (upd H1 w (.lst [.int y0, .int y1, .int y2])) := b1.trans .upd
    have w2 : Well (upd H1 w (.lst [.int y0, .int y1, .int y2])) w := .upw
    generalize upd H1 w (.lst [.int y0, .int y1, .int y2]) = H2 at b2 w2 ⊢
    -- many
    obtain ⟨z0, y1, z2, hz⟩ := w2
    refine ⟨_, rfl, w, z0, y1, z2, _, rfl, hz, (by decide), (by decide), fun m0 y0 y2 m00 m05 => ⟨_, _, rfl, rfl, by show 2 ≤ sizeLine; decide, fun p hp => ?_⟩⟩
    have b3 := (b2.trans (.upd (w := w) (H := H2) (o := .lst [.int y0, .int y1, .int y2]))).new (o := .lst [.int (1 + m0), .int 12]) hp
    have w3 := (Well.upw (w := w) (H := H2) (c0 := y0) (c1 := y1) (c2 := y2)).new (o := .lst [.int (1 + m0), .int 12]) hp
    have hp3 : upd (upd H2 w (.lst [.int y0, .int y1, .int y2])) p (.lst [.int (1 + m0), .int 12]) p = some (.lst [.int (1 + m0), .int 12]) := upd_same
    obtain ⟨many, hm, hmv⟩ := two_at (1 + m0) 12 g g0 g2
    refine ⟨_, rfl, p, _, g, _, rfl, rfl, SqL.of hp3, hm, ?_⟩
    clear hp3 hp
    generalize upd (upd H2 w (.lst [.int y0, .int y1, .int y2])) p (.lst [.int (1 + m0), .int 12]) = H3 at b3 w3 ⊢
    -- rates
    obtain ⟨z0, y1, z2, hz⟩ := w3
    refine ⟨_, rfl, w, z0, y1, z2, _, rfl, hz, (by decide), (by decide), fun r0 y0 y2 r00 r04 => ⟨_, _, rfl, rfl, by show 2 ≤ sizeLine; decide, fun p hp => ?_⟩⟩
    have b4 := (b3.trans (.upd (w := w) (H := H3) (o := .lst [.int y0, .int y1, .int y2]))).new (o := .lst [.int (1 + r0), .int 4]) hp
    have w4 := (Well.upw (w := w) (H := H3) (c0 := y0) (c1 := y1) (c2 := y2)).new (o := .lst [.int (1 + r0), .int 4]) hp
    have hp4 : upd (upd H3 w (.lst [.int y0, .int y1, .int y2])) p (.lst [.int (1 + r0), .int 4]) p = some (.lst [.int (1 + r0), .int 4]) := upd_same
    obtain ⟨rates, hr', hrv⟩ := two_at (1 + r0) 4 g g0 g2
    refine ⟨_, rfl, p, _, g, _, rfl, rfl, SqL.of hp4, hr', ?_⟩
    clear hp4 hp
    generalize upd (upd H3 w (.lst [.int y0, .int y1, .int y2])) p (.lst [.int (1 + r0), .int 4]) = H4 at b4 w4 ⊢
    -- lengths, sizes
    refine ⟨Nat.zero_le _, fun L hL => ⟨Nat.zero_le _, fun S hS => ?_⟩⟩
    have hL' : upd H4 L (.lst []) L = some (.lst []) := upd_same
    have lS : L ≠ S := ne_of_none hL' hS
    have os0 : OS w L S H0 [] [] [] (upd (upd H4 L (.lst [])) S (.lst [])) := {
      but := (b4.new hL).new hS
      nl := b4.free w4 hL
      ns := (b4.new hL).free (w4.new hL) hS
      wl := by obtain ⟨_, _, _, h⟩ := w4; exact ne_of_none h hL
      ws := by obtain ⟨_, _, _, h⟩ := w4.new (o := .lst []) hL; exact ne_of_none h hS
      lS := lS
      well := (w4.new hL).new hS
      hL := by rw [upd_ne lS, upd_same]; rfl
      hS := upd_same
      rows := .nil }
    generalize upd (upd H4 L (.lst [])) S (.lst []) = H5 at os0 ⊢
    obtain ⟨m, rfl, hm1, hm2⟩ : ∃ m : Nat, many = (m : Int) ∧ 1 ≤ m ∧ m ≤ 12 := ⟨many.toNat, by omega, by omega, by omega⟩
    obtain ⟨r, rfl, hr1, hr2⟩ : ∃ r : Nat, rates = (r : Int) ∧ 1 ≤ r ∧ r ≤ 4 := ⟨rates.toNat, by omega, by omega, by omega⟩
    refine ⟨_, rfl, _, rfl, (by omega), (by omega), for_range (lo := 0) (n := m) (fun i σ H => ∃ v7 v8 v9, σ = [some (.ref w), some (.int g), some (.int way), some (.int m), some (.int r), some (.ref L), some (.ref S), v7, v8, v9] ∧
      ∃ ls qs bs, OS w L S H0 ls qs bs H ∧ ls.length = i ∧ bs.length = i ∧ (∀ l ∈ ls, 1 ≤ l ∧ l ≤ 20) ∧ ∀ row ∈ bs, RowOk r row) ⟨none, none, none, rfl, [], [], [], os0, rfl, rfl, (fun _ z => nomatch z), fun _ z => nomatch z⟩ ?_ ?_⟩
    · rintro i σ H hi ⟨v7, v8, v9, rfl, ls, qs, bs, os, e1, e2, ok1, ok2⟩
      obtain ⟨z0, z1, z2, hz⟩ := os.well
      refine ⟨_, rfl, .inl ⟨rfl, _, SqL.of os.hL⟩, _, rfl, w, z0, z1, z2, _, rfl, hz, (by decide), (by decide), fun d1 a0 a2 l1 u1 => ⟨_, _, rfl, rfl, ?_⟩⟩
      have os1 := os.upw (c0 := a0) (c1 := z1) (c2 := a2)
      generalize upd H w (.lst [.int a0, .int z1, .int a2]) = Ha at os1 ⊢
      obtain ⟨z0, z1, z2, hz⟩ := os1.well
      refine ⟨_, rfl, w, z0, z1, z2, _, rfl, hz, (by decide), (by decide), fun d2 a0 a2 l2 u2 => ⟨_, _, rfl, rfl, ?_⟩⟩
      have os2 := os1.upw (c0 := a0) (c1 := z1) (c2 := a2)
      generalize upd Ha w (.lst [.int a0, .int z1, .int a2]) = Hb at os2 ⊢
      obtain ⟨z0, z1, z2, hz⟩ := os2.well
      refine ⟨_, rfl, w, z0, z1, z2, _, rfl, hz, (by decide), (by decide), fun d3 a0 a2 l3 u3 => ⟨_, _, rfl, rfl, by show 4 ≤ sizeLine; decide, fun p hp => ?_⟩⟩
      have os3 := (os2.upw (c0 := a0) (c1 := z1) (c2 := a2)).new (o := .lst [.int (1 + d1), .int (1 + d2), .int (20 - d3), .int 4]) hp
      obtain ⟨v, hv, hvv⟩ := four_at (1 + d1) (1 + d2) (20 - d3) 4 way way0 way4
      have hv1 : 1 ≤ v ∧ v ≤ 20 := by omega
      refine ⟨_, rfl, p, _, way, _, rfl, rfl, SqL.of upd_same, hv, ?_⟩
      generalize upd (upd Hb w (.lst [.int a0, .int z1, .int a2])) p (.lst [.int (1 + d1), .int (1 + d2), .int (20 - d3), .int 4]) = Hc at os3 ⊢
      refine ⟨L, _, _, rfl, rfl, os3.hL, by rw [List.length_map]; exact small1000 (by omega), ?_⟩
      have os4 := os3.pushL (v := v)
      generalize upd Hc L (.lst (ls.map V.int ++ [.int v])) = Hd at os4 ⊢
      -- row
      refine ⟨Nat.zero_le _, fun R hR => ?_⟩
      have or0 : OR w L S R H0 (ls ++ [v]) qs bs [] (upd Hd R (.lst [])) := ⟨os4.new hR, os4.but.free os4.well hR, os4.wellNe hR, ne_of_none os4.hL hR, ne_of_none os4.hS hR, upd_same⟩
      generalize upd Hd R (.lst []) = He at or0 ⊢
      refine ⟨_, rfl, _, rfl, (by omega), (by omega), for_range (lo := 0) (n := r) (fun j σ H => ∃ v9, σ = [some (.ref w), some (.int g), some (.int way), some (.int m), some (.int r), some (.ref L), some (.ref S), some (.int (0 + (i : Int))), some (.ref R), v9] ∧
        ∃ row, OR w L S R H0 (ls ++ [v]) qs bs row H ∧ row.length = j ∧ ∀ b ∈ row, 1 ≤ b ∧ b ≤ 1000) ⟨v9, rfl, [], or0, rfl, fun _ z => nomatch z⟩ ?_ ?_⟩
      · rintro j σ H hj ⟨v9, rfl, row, os, e3, ok3⟩
        obtain ⟨z0, z1, z2, hz⟩ := os.os.well
        refine ⟨_, rfl, .inl ⟨rfl, _, SqL.of os.hR⟩, _, rfl, w, z0, z1, z2, _, rfl, hz, (by decide), (by decide), fun d1 a0 a2 l1 u1 => ⟨_, _, rfl, rfl, ?_⟩⟩
        have os1 := os.upw (c0 := a0) (c1 := z1) (c2 := a2)
        generalize upd H w (.lst [.int a0, .int z1, .int a2]) = Ha at os1 ⊢
        obtain ⟨z0, z1, z2, hz⟩ := os1.os.well
        refine ⟨_, rfl, w, z0, z1, z2, _, rfl, hz, (by decide), (by decide), fun d2 a0 a2 l2 u2 => ⟨_, _, rfl, rfl, ?_⟩⟩
        have os2 := os1.upw (c0 := a0) (c1 := z1) (c2 := a2)
        generalize upd Ha w (.lst [.int a0, .int z1, .int a2]) = Hb at os2 ⊢
        obtain ⟨z0, z1, z2, hz⟩ := os2.os.well
        refine ⟨_, rfl, w, z0, z1, z2, _, rfl, hz, (by decide), (by decide), fun d3 a0 a2 l3 u3 => ⟨_, _, rfl, rfl, _, rfl, _, _, rfl, rfl, .inl ⟨by decide, by decide⟩, _, _, rfl, rfl, by show 4 ≤ sizeLine; decide, fun p hp => ?_⟩⟩
        have os3 := (os2.upw (c0 := a0) (c1 := z1) (c2 := a2)).new (o := .lst [.int (1 + d1), .int (1 + d2), .int (1000 - d3), .int (10 * (0 + (j : Int)) + 9)]) hp
        obtain ⟨v, hv, hvv⟩ := four_at (1 + d1) (1 + d2) (1000 - d3) (10 * (0 + (j : Int)) + 9) way way0 way4
        have hv1 : 1 ≤ v ∧ v ≤ 1000 := by omega
        refine ⟨_, rfl, p, _, way, _, rfl, rfl, SqL.of upd_same, hv, ?_⟩
        generalize upd (upd Hb w (.lst [.int a0, .int z1, .int a2])) p (.lst [.int (1 + d1), .int (1 + d2), .int (1000 - d3), .int (10 * (0 + (j : Int)) + 9)]) = Hc at os3 ⊢
        refine ⟨R, _, _, rfl, rfl, os3.hR, by rw [List.length_map]; exact small1000 (by omega), ?_⟩
        refine ⟨some (.int (0 + (j : Int))), rfl, row ++ [v], os3.push, by rw [List.length_append, e3]; rfl, fun b hb => ?_⟩
        rcases List.mem_append.mp hb with q | q
        · exact ok3 b q
        · rw [List.mem_singleton.mp q]; exact hv1
      · rintro σ H ⟨v9, rfl, row, os, e3, ok3⟩
        refine ⟨_, rfl, .inl ⟨rfl, _, SqL.of os.os.hS⟩, _, rfl, R, _, rfl, .inl ⟨SqL.of os.hR, fun q hq => ?_⟩⟩
        have os1 := os.os.new (o := .tup (row.map V.int)) hq
        refine ⟨S, _, _, rfl, rfl, os1.hS, by rw [List.length_map, os1.rows.length]; exact small1000 (by omega), ?_⟩
        refine ⟨_, _, _, rfl, ls ++ [v], qs ++ [q], bs ++ [row], os1.pushS upd_same, by rw [List.length_append, e1]; rfl, by rw [List.length_append, e2]; rfl, fun l hl => ?_, fun l hl => ?_⟩
        · rcases List.mem_append.mp hl with q | q
          · exact ok1 l q
          · rw [List.mem_singleton.mp q]; exact hv1
        · rcases List.mem_append.mp hl with q | q
          · exact ok2 l q
          · rw [List.mem_singleton.mp q]; exact ⟨e3, ok3⟩
    · rintro σ H ⟨v7, v8, v9, rfl, ls, qs, bs, os, e1, e2, ok1, ok2⟩
      refine ⟨_, rfl, L, _, rfl, .inl ⟨SqL.of os.hL, fun a ha => ⟨_, rfl, S, _, rfl, .inl ⟨SqL.of (os.new (o := .tup (ls.map V.int)) ha).hS, fun b hb => ⟨by show 2 ≤ sizeLine; decide, fun p hp => ?_⟩⟩⟩⟩⟩
      have o1 := os.new (o := .tup (ls.map V.int)) ha
      have o2 := o1.new (o := .tup (qs.map V.ref)) hb
      have o3 := o2.new (o := .tup [.ref a, .ref b]) hp
      have ab : a ≠ b := ne_of_none (upd_same (H := H) (a := a) (o := .tup (ls.map V.int))) hb
      have bp : b ≠ p := ne_of_none (upd_same (a := b) (o := .tup (qs.map V.ref))) hp
      have ap : a ≠ p := ne_of_none (show upd (upd H a (.tup (ls.map V.int))) b (.tup (qs.map V.ref)) a = some (.tup (ls.map V.int)) by rw [upd_ne ab, upd_same]) hp
      refine k _ p ls bs o3.but o3.well ⟨a, b, qs, upd_same, ?_, ?_, o3.rows⟩ ⟨by omega, by omega, by omega, ok1, r, by omega, by omega, ok2⟩
      · rw [upd_ne ap, upd_ne ab, upd_same]
      · rw [upd_ne bp, upd_same]
end
end Rp

namespace Rp
open PySem PySem.Spec PyProof.Rows L2
/-! ### a def whose promise wants that nothing is being shown (repr) around it -/
structure FnG (P : Program) (w : World) (K : PySem.W.Frag) (mg : Str → Option Value) (base : Heap) (CX : CXT) (k : Nat) (f : Addr) (fd : FuncData) (ps : List Str) (sp : Sp) : Prop where
  len : ∀ vs H Q E, sp vs H Q E → vs.length = ps.length
  go : ∀ (A : Around) (outer : List Env) (s : Shared) (H : Hp) (args : Args) (us : List Value) (vs : List V) (Q : VK) (E : XK), A.guards = some [] → Room k A → Env0 P w K mg base A outer s H →
    BindsTo s fd args (ps.zip us) → Vals vs us → sp vs H Q E → codeAny (model P w) A (.call (.ref f) args) (CR CX outer P w H s Q E) s
theorem FnG.of {P : Program} {w : World} {K : PySem.W.Frag} {mg : Str → Option Value} {base : Heap} {CX : CXT} {k : Nat} {f : Addr} {fd : FuncData} {ps : List Str} {sp : Sp} (F : FnOk P w K mg base CX k f fd ps sp) : FnG P w K mg base CX k f fd ps sp :=
  ⟨F.len, fun A outer s H args us vs Q E _ => F.run A outer s H args us vs Q E⟩
theorem deeper_guards {A : Around} {env : Env} (h : A.guards = some []) : (A.deeper env).guards = some [] := h
section
variable {P : Program} {w : World} {K : PySem.W.Frag} {mg : Str → Option Value} {base : Heap} {CX : CXT}
/-- a def by its body, the guards known -/
theorem fnG_of {x qual : Str} {st : Stmt} {f : Addr} {fd : FuncData} {N ps : List Str} {k : Nat} {sp : Sp} (F : Fun K x qual st f fd) (S : FnScope N ps (defScope st)) (len : ∀ vs H Q E, sp vs H Q E → vs.length = ps.length)
    (hb : ∀ (cdv : Value) (A : Around) (outer : List Env) (s : Shared) (H : Hp) (vs : List V) (Q : VK) (E : XK), (A.deeper (envOfC qual (defScope st) s.heap.objs.size f cdv)).guards = some [] → Room k (A.deeper (envOfC qual (defScope st) s.heap.objs.size f cdv)) → sp vs H Q E →
      ∃ t, PSs (cxOf CX P w K mg base N qual (defScope st) f cdv A outer s H E) (defBody st) t ∧ t { nx := fun _ H' => Q .non H', rt := Q } (start N vs) H) : FnG P w K mg base CX (k + 1) f fd ps sp := by
  obtain ⟨oc, od, kV, doc, pm, an, cdv, ct, osl, rfl, lk, hcd⟩ := F.ex
  refine ⟨len, fun A outer s H args us vs Q E gA room en bi rel want => ?_⟩
  have kept : ∀ b o, base.get? b = some o → s.heap.get? b = some o := fun b o e => (en.bs b o e).1
  have inK : K.In s.heap := en.mod.kin.keeps kept
  refine codeAny_call_function room.depth (inK _ _ lk) rfl S.co S.gen rfl (PySem.W.codeRec_of inK hcd) (bi _ _ _ _ ?_)
  refine wpAny_newFunctionEnv_cells S.kind (fun y hy => ?_) fun env he s1 made => ?_
  · rcases S.par y.1 (List.of_mem_zip (show (y.1, y.2) ∈ ps.zip us from hy)).1 with q | q
    · exact .inl q
    · exact .inr ⟨q, PySem.W.cellsFrom_some _ _ _ (.inl q)⟩
  subst he
  refine ⟨(en.mod.nolimit.keeps kept).keeps made.toInCall.keep, codeAny_func ?_⟩
  obtain ⟨t, body, reads⟩ := hb cdv A outer s H vs Q E (deeper_guards gA) (room.deeper _) want
  refine wpAny_mono (body.run [] s1 (start N vs) H _ (inv_start S room.hd en (len _ _ _ _ want) rel made) reads) (fun fl s' hs => ?_) fun e s' hs => hs
  cases fl with
  | ret u =>
    obtain ⟨v, σ', H', J, rv, q⟩ := hs
    exact ⟨v, H', J.os, J.bare, J.base, J.hok, rv, q⟩
  | next =>
    obtain ⟨σ', H', J, q⟩ := hs
    exact ⟨V.non, H', J.os, J.bare, J.base, J.hok, rfl, q⟩
  | brk => exact absurd hs (fun ⟨_, _, _, z⟩ => (z : False))
  | cont => exact absurd hs (fun ⟨_, _, _, z⟩ => (z : False))
/-- .. that lets no error out -/
theorem okG {x qual : Str} {st : Stmt} {f : Addr} {fd : FuncData} {N ps : List Str} {k : Nat} {sp : Sp} (F : Fun K x qual st f fd) (S : FnScope N ps (defScope st)) (len : ∀ vs H Q E, sp vs H Q E → vs.length = ps.length)
    (hb : ∀ (cdv : Value) (A : Around) (outer : List Env) (s : Shared) (H : Hp) (vs : List V) (Q : VK) (E : XK), (A.deeper (envOfC qual (defScope st) s.heap.objs.size f cdv)).guards = some [] → Room k (A.deeper (envOfC qual (defScope st) s.heap.objs.size f cdv)) → sp vs H Q E →
      ∃ t, PSs (cxOf CX P w K mg base N qual (defScope st) f cdv A outer s H E).nox (defBody st) t ∧ t { nx := fun _ H' => Q .non H', rt := Q } (start N vs) H) : FnG P w K mg base CX (k + 1) f fd ps sp :=
  fnG_of F S len fun cdv A outer s H vs Q E gA room want => let ⟨t, body, reads⟩ := hb cdv A outer s H vs Q E gA room want; ⟨t, body.nox, reads⟩
end
section
variable {X : Cx} {CX : CXT} {k : Nat} {f C : Addr} {fd : FuncData} {ps : List Str} {sp : Sp} {E : XK} {x m : Str} {p pos apos : Pos} {e o : Expr} {es : List Expr} {ta : TE} {t : TA}
theorem runG {pins : List (Addr × Obj)} {σ : L2.St} {H : Hp} {s : Shared} {Q : VK} {us : List Value} {vs : List V} (F : FnG X.prog X.w X.K X.mg X.base CX k f fd ps sp) (gA : X.A.guards = some []) (room : Room k X.A) (hb : L2.Binds X.K fd ps [])
    (hx : Passes CX X E) (I : Inv X pins σ H s) (r : Vals vs us) (h : sp vs H Q E) : wpAny (model X.prog X.w) X.A (call (.ref f) us) (EP X pins σ Q) X.xe s := by
  have hl : (us ++ []).length = ps.length := by rw [List.append_nil, ← r.length]; exact F.len _ _ _ _ h
  have bi := hb s us I.kIn hl
  rw [List.append_nil] at bi
  refine wpAny_call (codeAny_mono (F.go X.A X.stack s H ⟨us, []⟩ us vs Q E gA room I.env0 bi r h) fun res s' hq => ?_)
  cases res with
  | error e => exact hx pins σ H s e s' I hq
  | ok fl =>
    cases fl with
    | ret u => exact I.after hq
    | next => exact hq.elim
    | brk => exact hq.elim
    | cont => exact hq.elim
def tCallG (sp : Sp) (E : XK) (t : TA) : TE := fun σ H Q => t σ H fun vs H1 => sp vs H1 Q E
theorem pe_callG (F : FnG X.prog X.w X.K X.mg X.base CX k f fd ps sp) (gA : X.A.guards = some []) (room : Room k X.A) (hg : Gl X x) (hm : X.mg x = some (.ref f)) (hk : PySem.W.keepIn X.K (.ref f) = true) (hb : L2.Binds X.K fd ps [])
    (hx : Passes CX X E) (ha : PA X (e :: es) t) (hdb : (x == ("__debug__" : Str)) = false := by decide) (hst : starEach (e :: es) X.env = (false, eval e X.env) :: starEach es X.env := by rfl)
    (hpl : (backTo pos (starEach es X.env)).any (·.1) = false := by rfl) : PE X (.Call (.Name x p) (e :: es) [] pos) (tCallG sp E t) :=
  ⟨fun pins s σ H Q I h => wpAny_Call_Name_kw (ld_glob I hg hm (PySem.W.callWith_K (h₀ := X.base) I.ok.mod.kin hk (thn (ha.run pos pins s σ H _ I h) fun us s1 ⟨vs, H1, I1, r, q⟩ => ⟨I1.kIn, runG F gA room hb hx I1 r q⟩) hst hpl) hdb)⟩
end
/-! ### repr of data -/
/-- what may be shown -/
structure Shw (d : PyData) : Prop where
  sh : d.showable = true
  nd : d.hasDict = false
  dp : d.depth ≤ 16
  sz : d.shown.length ≤ sizeLine
section
variable {X : Cx}
theorem call_reprD (gA : X.A.guards = some []) (hu : X.A.units + 64 < cLine) : CallR X (.builtin "repr") (fun xs H Q => ∃ x d, xs = [x] ∧ Dp X.K H x d ∧ Shw d ∧ Q (.str d.shown) H) := by
  intro pins s σ H xs us Q I r h
  obtain ⟨x, d, rfl, hd, hw, q⟩ := h
  cases r with
  | cons rx rn =>
    cases rn
    have dp := hw.dp
    cases hd with
    | non => cases rx; exact PySem.P.repr_of_none ⟨.str _, H, I.tok _, ⟨_, rfl⟩, q⟩
    | bl b => cases rx; exact PySem.P.repr_of_bool ⟨.str _, H, I.tok _, ⟨_, rfl⟩, q⟩
    | int i =>
      obtain ⟨t, rfl⟩ := rx
      exact PySem.P.repr_of_int (by have := hw.sh; simpa [PyData.showable] using this) ⟨.str _, H, I.tok _, ⟨_, rfl⟩, q⟩
    | str z =>
      obtain ⟨t, rfl⟩ := rx
      exact PySem.P.repr_of_str ⟨.str _, H, I.tok _, ⟨_, rfl⟩, q⟩ hw.sz
    | @lst a xs ds h1 h2 =>
      obtain ⟨as, rd⟩ := Dp.reads I (.list ds) (.ref a) _ (.lst h1 h2) rx
      cases rx
      exact repr_of_reads' rd hw.sh (PyData.noDict_hsm hw.nd) gA (by omega) (fun _ _ z => z) (fun h' u tk kp => ⟨.str _, H, I.kept kp, ⟨_, rfl⟩, q⟩) hw.sz
    | @tup a xs ds h1 h2 =>
      obtain ⟨as, rd⟩ := Dp.reads I (.tuple ds) (.ref a) _ (.tup h1 h2) rx
      cases rx
      exact repr_of_reads' rd hw.sh (PyData.noDict_hsm hw.nd) gA (by omega) (fun _ _ z => z) (fun h' u tk kp => ⟨.str _, H, I.kept kp, ⟨_, rfl⟩, q⟩) hw.sz
end
end Rp

namespace Rp
open PySem PySem.Spec PyProof.Rows L2
/-! ### the law's call, the guards known -/
section
variable {P : Program} {w : World} {K : PySem.W.Frag} {mg mb : Str → Option Value} {CX : CXT} {k : Nat} {fa a : Addr} {fd : FuncData} {x : Str} {sp : Sp} {s : Shared} {vs : List Value} {ns : List Int}
/-- from one abstract heap that holds the script at most -/
theorem law_coreG {H : Hp} (inK : K.In s.heap) (gl : s.heap.Ns mainGlobals mg) (bn : s.heap.Ns builtinsNs mb) (boot : ∀ y : Str, y ≠ "__name__" → mb y = bootBuiltins y) (lim : s.heap.NoLimit) (gens : s.gens = #[])
    (at_ : s.heap.get? a = some { cls := .type "list", data := .seq vs.toArray }) (room : Room k callerA)
    (F : ∀ base : Heap, K.In base → base.Ns mainGlobals mg → FnG P w K mg base CX k fa fd [x] sp) (bind : ∀ (s : Shared) (u : Value), BindsTo s fd ⟨[u], []⟩ [(x, u)])
    (one : ∀ b, H b = none ∨ ∃ o xs, H b = some (.frz o (.lst xs))) (ok : HOk P w H s.heap) (alone : ∀ b, H b ≠ none → b = a) (apart : H a ≠ none → K.lookup a = none)
    (keeps : sp [.ref a] H (fun v _ => v = .bl true) fun _ _ _ => False) (noX : ∀ e s', CX [] H s (fun _ _ _ => False) e s' → False) :
    codeAny (model P w) callerA (.call (.ref fa) ⟨[.ref a], []⟩) (fun r s' => r = .ok (.ret (.bool true)) ∧ OldK s.heap s'.heap ∧ s'.os = s.os ∧ AllBare s'.gens) s := by
  have noDict : ∀ {b : Addr} {o : Obj} {es : Array DictEntry} {ep : Nat}, s.heap.get? b = some o → o.data = .dict es ep → H b = none := fun {b o es ep} e d => by
    by_cases q : H b = none
    · exact q
    · have z := alone b q
      subst z
      rw [at_] at e
      cases e
      cases d
  have ns' : ∀ {b : Addr} {m : Str → Option Value}, s.heap.Ns b m → (hidT s.heap H).Ns b m := fun {b m} ⟨o, es, ep, e, d, r⟩ => ⟨o, es, ep, hidT_get e (noDict e d), d, r⟩
  have inB : K.In (hidT s.heap H) := fun b o e => hidT_get (inK b o e) (by
    by_cases q : H b = none
    · exact q
    · have z := alone b q
      subst z
      rw [apart q] at e
      cases e)
  obtain ⟨mc, lim1, lim2⟩ := lim
  have md : Mod K mg (hidT s.heap H) := ⟨inB, ns' gl, ⟨mb, ns' bn, boot⟩, ⟨mc, ns' lim1, lim2⟩⟩
  have en : Env0 P w K mg (hidT s.heap H) callerA [] s H := ⟨rfl, md, fun b o e => of_hidT e, Nat.le_of_eq (hidT_size _ _), trivial, fun b z => absurd z List.not_mem_nil, ok, .of_eq gens⟩
  refine codeAny_mono ((F _ inB (ns' gl)).go callerA [] s H ⟨[.ref a], []⟩ [.ref a] [.ref a] _ _ rfl room en (bind s (.ref a)) (.cons rfl .nil) keeps) fun r s' hr => ?_
  rcases r with e | fl
  · exact (noX e s' hr).elim
  · cases fl with
    | ret u =>
      obtain ⟨v, H', os, bare, un, ok', rv, rfl⟩ := hr
      cases rv
      refine ⟨rfl, OldK.of_keep fun b o e => ?_, os, bare⟩
      rcases one b with q | ⟨ob, xs, q⟩
      · exact un.keep b o e q (fun z => by cases z) (fun z => by cases z)
      · have e1 := (ok b _ q).1
        have e2 := (ok' b _ (un.frzs b ob _ q)).1
        rw [e] at e1
        cases e1
        exact e2
    | next => exact hr.elim
    | brk => exact hr.elim
    | cont => exact hr.elim
theorem law_callG (inK : K.In s.heap) (gl : s.heap.Ns mainGlobals mg) (bn : s.heap.Ns builtinsNs mb) (boot : ∀ y : Str, y ≠ "__name__" → mb y = bootBuiltins y) (lim : s.heap.NoLimit) (gens : s.gens = #[])
    (at_ : s.heap.get? a = some { cls := .type "list", data := .seq vs.toArray }) (hin : IntsAre vs ns) (few : ns.length ≤ sizeLine) (room : Room k callerA)
    (F : ∀ base : Heap, K.In base → base.Ns mainGlobals mg → FnG P w K mg base CX k fa fd [x] sp) (bind : ∀ (s : Shared) (u : Value), BindsTo s fd ⟨[u], []⟩ [(x, u)])
    (keeps : ∀ H : Hp, Only H → SqL K H a (ns.map V.int) → sp [.ref a] H (fun v _ => v = .bl true) fun _ _ _ => False) (noX : ∀ H e s', CX [] H s (fun _ _ _ => False) e s' → False) :
    codeAny (model P w) callerA (.call (.ref fa) ⟨[.ref a], []⟩) (fun r s' => r = .ok (.ret (.bool true)) ∧ OldK s.heap s'.heap ∧ s'.os = s.os ∧ AllBare s'.gens) s := by
  have rel := vals_ints hin
  cases lk : K.lookup a with
  | some o =>
    have e := inK a o lk
    rw [at_] at e
    cases e
    refine law_coreG (H := fun _ => none) inK gl bn boot lim gens at_ room F bind (fun _ => .inl rfl) (fun b u z => by cases z) (fun b z => (z rfl).elim) (fun z => (z rfl).elim) (keeps _ (fun _ => .inl rfl) ?_) (noX _)
    exact .inr ⟨_, vs.toArray, _, lk, rfl, rfl, rfl, by rw [List.size_toArray, hin.length]; exact few, by simpa using rel⟩
  | none =>
    have here : (fun b => if b = a then some (HO.frz { cls := .type "list", data := .seq vs.toArray } (.lst (ns.map V.int))) else none) a = some (HO.frz { cls := .type "list", data := .seq vs.toArray } (.lst (ns.map V.int))) := if_pos rfl
    have only : ∀ b, (fun b => if b = a then some (HO.frz { cls := .type "list", data := .seq vs.toArray } (.lst (ns.map V.int))) else none) b = none ∨ ∃ o xs, (fun b => if b = a then some (HO.frz { cls := .type "list", data := .seq vs.toArray } (.lst (ns.map V.int))) else none) b = some (.frz o (.lst xs)) := fun b => by
      by_cases q : b = a
      · exact .inr ⟨_, _, if_pos q⟩
      · exact .inl (if_neg q)
    refine law_coreG inK gl bn boot lim gens at_ room F bind only (fun b u z => ?_) (fun b z => ?_) (fun _ => lk) (keeps _ only (.inl (.inr ⟨_, here⟩))) (noX _)
    · by_cases q : b = a
      · subst q
        have z' := here.symm.trans z
        cases z'
        exact ⟨at_, by rw [List.length_map]; exact few, vs, 0, rel, at_⟩
      · rw [if_neg q] at z
        cases z
    · by_cases q : b = a
      · exact q
      · exact (z (if_neg q)).elim
end
/-- the end of a row: the written part's facts, the law's def, its promise -/
theorem walkG {l : PySem.W.OpenLaw} {n k : Nat} {q : Program} {loose : List Str} {XP : (Str → Option Value) → Heap → Prop} {YP : World → Heap → Prop} {d : DefRec} {K : Params → PySem.W.Frag} {CX : World → CXT} {sp : PySem.W.Frag → Sp} {x : Str}
    (hn : l.most = some n) (hn2 : n ≤ sizeLine) (hdf : d.params.defaults = []) (room : Room k callerA) (hY : ∀ (w : World) (h : Heap), YP w h → (K w.params).In h)
    (F : ∀ (w : World) (mg : Str → Option Value) (fa : Addr) (h : Heap), (K w.params).In h → h.Ns mainGlobals mg → mg d.name = some (.ref fa) →
      ∃ fd : FuncData, (∀ (s : Shared) (u : Value), BindsTo s fd ⟨[u], []⟩ [(x, u)]) ∧ ∀ base : Heap, (K w.params).In base → base.Ns mainGlobals mg → FnG l.prog w (K w.params) mg base (CX w) k fa fd [x] (sp (K w.params)))
    (keeps : ∀ (K : PySem.W.Frag) (H : Hp) (a : Addr) (ns : List Int), ns.length ≤ n → Only H → SqL K H a (ns.map V.int) → sp K [.ref a] H (fun v _ => v = .bl true) fun _ _ _ => False)
    (noX : ∀ (w : World) (H : Hp) (s : Shared) (e : Value) (s' : Shared), CX w [] H s (fun _ _ _ => False) e s' → False) : PySem.W.WalkO q loose XP YP l.row.toRowW d [] (fun f vs => PySem.call f vs) := by
  refine Att.attach_call hn hdf fun w s0 s1 mg mb fa o pm cd doc a vs ns G Y _ _ _ hmg hobj hints hlen hg => ?_
  obtain ⟨fd, hb, hF⟩ := F w mg fa _ (hY w _ Y) G.T.g hmg
  exact law_callG (hY w _ Y) G.T.g G.T.b G.T.builtins G.T.nolimit hg hobj hints (Nat.le_trans hlen hn2) room hF hb (fun H only sq => keeps (K w.params) H a ns hlen only sq) fun H e s' => noX w H s1 e s'
/-! ### small data may be shown -/
structure Sm (n : Nat) (d : PyData) : Prop where
  ls : d.leavesShort 40 = true
  sh : d.showable = true
  nd : d.hasDict = false
  dp : d.depth ≤ n
  wt : d.weight ≤ 4 ^ n * 64
theorem Sm.shw {n : Nat} {d : PyData} (h : Sm n d) (hn : n ≤ 6) : Shw d := by
  refine ⟨h.sh, h.nd, by have := h.dp; omega, ?_⟩
  have q := PyData.shown_le 40 (by decide) d h.ls
  have w := h.wt
  have m : (4 : Nat) ^ n ≤ 4 ^ 6 := Nat.pow_le_pow_right (by decide) hn
  have e : sizeLine = 16777216 := rfl
  rw [e]
  have : (4 : Nat) ^ 6 = 4096 := by decide
  omega
end Rp

namespace Rp
open PySem PySem.Spec PyProof.Rows L2
/-- small plain data: how deep at most, how heavy at most -/
structure Sml (m n : Nat) (d : PyData) : Prop where
  cl : d.canLay0 = true
  dp : d.depth ≤ m
  wt : d.weight ≤ n
  ls : d.leavesShort 40 = true
  sh : d.showable = true
theorem Sml.shw {m n : Nat} {d : PyData} (h : Sml m n d) (hm : m ≤ 16) (hn : n ≤ 300000) : Shw d := by
  refine ⟨h.sh, PyData.hasDict_of_canLay d h.cl, Nat.le_trans h.dp hm, ?_⟩
  have q := PyData.shown_le 40 (by decide) d h.ls
  have w := h.wt
  have e : sizeLine = 16777216 := rfl
  rw [e]
  omega
theorem Sml.shaped {m n : Nat} {d : PyData} (h : Sml m n d) (hm : m ≤ 64) : SeqAt.shaped d = true := by
  unfold SeqAt.shaped
  rw [h.cl, decide_eq_true (Nat.le_trans h.dp hm)]
  rfl
theorem Sml.refl {m n : Nat} {d : PyData} (h : Sml m n d) : PyData.eqv d d = true := SeqAt.eqv_refl d h.cl
theorem Sml.mono {m m' n n' : Nat} {d : PyData} (h : Sml m n d) (hm : m ≤ m') (hn : n ≤ n') : Sml m' n' d := ⟨h.cl, Nat.le_trans h.dp hm, Nat.le_trans h.wt hn, h.ls, h.sh⟩
theorem log_lt {n k : Nat} (hk : 0 < k) (h : n < 2 ^ k) : n.log2 < k := by
  by_cases z : n = 0
  · rw [z]
    exact hk
  · exact (Nat.log2_lt z).mpr h
theorem Sml.int {i : Int} (h : i.natAbs < 2 ^ 30) : Sml 0 40 (.int i) := by
  have l := log_lt (by decide) h
  refine ⟨by simp only [PyData.canLay0], by simp only [PyData.depth]; exact Nat.le_refl _, ?_, ?_, by simpa only [PyData.showable] using decide_eq_true (Nat.lt_trans l (by decide))⟩
  · simp only [PyData.weight]
    split
    · exact Nat.zero_le _
    · omega
  · simp only [PyData.leavesShort, PyData.shown, decide_eq_true_eq, PySem.ofString_length]
    have q := int_text_length_le (a := i) (k := 30) (by decide) l
    omega
theorem Sml.bool {b : Bool} : Sml 0 0 (.bool b) := ⟨rfl, Nat.le_refl _, Nat.le_refl _, rfl, rfl⟩
theorem Sml.none : Sml 0 0 .none := ⟨rfl, Nat.le_refl _, Nat.le_refl _, rfl, rfl⟩
theorem Sml.str {x : Str} {n : Nat} (h : PyData.strOk x = true) (hn : x.cps.size ≤ n) : Sml 0 n (.str x) := by
  have c : (PyData.str x).canLay0 = true := by simpa only [PyData.canLay0] using h
  exact ⟨c, by simp only [PyData.depth]; exact Nat.le_refl _, by simpa only [PyData.weight] using hn, PyData.leavesShort_of_canLay0 40 _ c (by simp only [PyData.intsShort]), by simp only [PyData.showable]⟩
theorem sml_all {m n : Nat} : ∀ {xs : List PyData}, (∀ x ∈ xs, Sml m n x) → PyData.canLayAll0 xs = true ∧ PyData.depthAll xs ≤ m ∧ PyData.weightAll xs ≤ xs.length * (n + 1) ∧ PyData.leavesShortAll 40 xs = true ∧ PyData.showableAll xs = true
  | [], _ => ⟨rfl, Nat.zero_le _, by simp [PyData.weightAll], rfl, rfl⟩
  | x :: xs, h => by
    obtain ⟨a, b, c, d, e⟩ := sml_all (xs := xs) fun y hy => h y (List.mem_cons_of_mem _ hy)
    obtain ⟨a', b', c', d', e'⟩ := h x List.mem_cons_self
    refine ⟨by simp only [PyData.canLayAll0, a, a', Bool.and_self], by simp only [PyData.depthAll]; omega, ?_, by simp only [PyData.leavesShortAll, d, d', Bool.and_self], by simp only [PyData.showableAll, e, e', Bool.and_self]⟩
    simp only [PyData.weightAll, List.length_cons]
    have : (xs.length + 1) * (n + 1) = xs.length * (n + 1) + (n + 1) := Nat.succ_mul _ _
    omega
theorem Sml.tup {m n k : Nat} {xs : List PyData} (h : ∀ x ∈ xs, Sml m n x) (hk : xs.length ≤ k) : Sml (m + 1) (k * (n + 1)) (.tuple xs) := by
  obtain ⟨a, b, c, d, e⟩ := sml_all h
  refine ⟨by simpa only [PyData.canLay0] using a, by simp only [PyData.depth]; omega, ?_, by simpa only [PyData.leavesShort] using d, by simpa only [PyData.showable] using e⟩
  simp only [PyData.weight]
  exact Nat.le_trans c (Nat.mul_le_mul_right _ hk)
theorem Sml.lst {m n k : Nat} {xs : List PyData} (h : ∀ x ∈ xs, Sml m n x) (hk : xs.length ≤ k) : Sml (m + 1) (k * (n + 1)) (.list xs) := by
  obtain ⟨a, b, c, d, e⟩ := sml_all h
  refine ⟨by simpa only [PyData.canLay0] using a, by simp only [PyData.depth]; omega, ?_, by simpa only [PyData.leavesShort] using d, by simpa only [PyData.showable] using e⟩
  simp only [PyData.weight]
  exact Nat.le_trans c (Nat.mul_le_mul_right _ hk)
/-! ### a talk's numbers as data -/
def dInts (ns : List Int) : PyData := .tuple (ns.map .int)
def dRows (bs : List (List Int)) : PyData := .tuple (bs.map dInts)
def dTalk (ls : List Int) (bs : List (List Int)) : PyData := .tuple [dInts ls, dRows bs]
/-- small numbers -/
def Low (ns : List Int) : Prop := ns.length ≤ 60 ∧ ∀ n ∈ ns, n.natAbs < 2 ^ 30
theorem Low.sml {ns : List Int} (h : Low ns) : Sml 1 2460 (dInts ns) :=
  (Sml.tup (k := 60) (fun x hx => by obtain ⟨n, hn, rfl⟩ := List.mem_map.mp hx; exact Sml.int (h.2 n hn)) (by rw [List.length_map]; exact h.1)).mono (Nat.le_refl _) (by decide)
def LowRows (bs : List (List Int)) : Prop := bs.length ≤ 60 ∧ ∀ row ∈ bs, Low row
theorem LowRows.sml {bs : List (List Int)} (h : LowRows bs) : Sml 2 147660 (dRows bs) :=
  (Sml.tup (k := 60) (fun x hx => by obtain ⟨n, hn, rfl⟩ := List.mem_map.mp hx; exact (h.2 n hn).sml) (by rw [List.length_map]; exact h.1)).mono (Nat.le_refl _) (by decide)
theorem talk_sml {ls : List Int} {bs : List (List Int)} (h1 : Low ls) (h2 : LowRows bs) : Sml 3 295322 (dTalk ls bs) :=
  (Sml.tup (k := 2) (m := 2) (n := 147660) (fun x hx => by
    rcases List.mem_cons.mp hx with rfl | hx
    · exact h1.sml.mono (by decide) (by decide)
    · rw [List.mem_singleton.mp hx]; exact h2.sml) (Nat.le_refl _)).mono (Nat.le_refl _) (by decide)
end Rp

namespace Rp
open PySem PySem.Spec PyProof.Rows L2
/-! ### data at an address -/
theorem dp_ints_all {K : PySem.W.Frag} {H : Hp} : ∀ ns : List Int, DpAll K H (ns.map V.int) (ns.map PyData.int)
  | [] => .nil
  | n :: ns => .cons (.int n) (dp_ints_all ns)
theorem dp_ints {K : PySem.W.Frag} {H : Hp} {a : Addr} {ns : List Int} (h : H a = some (.tup (ns.map V.int))) : Dp K H (.ref a) (dInts ns) := .tup (SqT.of h) (dp_ints_all ns)
theorem dp_rows_all {K : PySem.W.Frag} {H : Hp} : ∀ {qs : List Addr} {bs : List (List Int)}, RowsAt H qs bs → DpAll K H (qs.map V.ref) (bs.map dInts)
  | _, _, .nil => .nil
  | _, _, .cons h t => .cons (dp_ints h) (dp_rows_all t)
theorem dp_rows {K : PySem.W.Frag} {H : Hp} {b : Addr} {qs : List Addr} {bs : List (List Int)} (h : H b = some (.tup (qs.map V.ref))) (r : RowsAt H qs bs) : Dp K H (.ref b) (dRows bs) := .tup (SqT.of h) (dp_rows_all r)
theorem TalkRow.dp {K : PySem.W.Frag} {H : Hp} {p : Addr} {ls : List Int} {bs : List (List Int)} (h : TalkRow H p ls bs) : Dp K H (.ref p) (dTalk ls bs) :=
  let ⟨_, _, _, h1, h2, h3, h4⟩ := h
  .tup (SqT.of h1) (.cons (dp_ints h2) (.cons (dp_rows h3 h4) .nil))
/-! ### parts -/
def part {α : Type} (i j : Nat) (l : List α) : List α := (l.drop i).take (j + 1 - i)
theorem RowsAt.drop {H : Hp} : ∀ (n : Nat) {qs : List Addr} {bs : List (List Int)}, RowsAt H qs bs → RowsAt H (qs.drop n) (bs.drop n)
  | 0, _, _, h => h
  | _ + 1, _, _, .nil => .nil
  | n + 1, _, _, .cons _ t => RowsAt.drop n t
theorem RowsAt.take {H : Hp} : ∀ (n : Nat) {qs : List Addr} {bs : List (List Int)}, RowsAt H qs bs → RowsAt H (qs.take n) (bs.take n)
  | 0, _, _, _ => .nil
  | _ + 1, _, _, .nil => .nil
  | n + 1, _, _, .cons h t => .cons h (RowsAt.take n t)
theorem RowsAt.part {H : Hp} {i j : Nat} {qs : List Addr} {bs : List (List Int)} (h : RowsAt H qs bs) : RowsAt H (Rp.part i j qs) (Rp.part i j bs) := (h.drop i).take _
theorem RowsAt.append {H : Hp} : ∀ {qs qs' : List Addr} {bs bs' : List (List Int)}, RowsAt H qs bs → RowsAt H qs' bs' → RowsAt H (qs ++ qs') (bs ++ bs')
  | _, _, _, _, .nil, h => h
  | _, _, _, _, .cons a t, h => .cons a (RowsAt.append t h)
theorem cut_map {α : Type} (f : α → V) (l : List α) (i j : Nat) (hj : j < l.length) (hi : i ≤ j) : cutV (l.map f) (some (i : Int)) (some ((j : Int) + 1)) = (part i j l).map f := by
  have e : ((j : Int) + 1) = ((j + 1 : Nat) : Int) := by omega
  unfold cutV part
  rw [e, HT.sIx_nat, HT.sIx_nat, List.length_map, ← List.map_drop, ← List.map_take, show min i l.length = i by omega, show min (j + 1) l.length = j + 1 by omega]
theorem Same.upd {H : Hp} {p : Addr} {o : HO} (h : H p = none) : Same H (upd H p o) := fun b u e => by rw [upd_ne (ne_of_none e h)]; exact e
/-- a slice of a tuple that is tracked: some tuple of these items -/
theorem sl_by {K : PySem.W.Frag} {H : Hp} {a : Addr} {xs : List V} {lo hi : Option Int} {Q : VK} (h : H a = some (.tup xs)) (k : ∀ p H', Same H H' → H' p = some (.tup (cutV xs lo hi)) → Q (.ref p) H') : rSlA K (.ref a) lo hi H Q := by
  refine ⟨a, xs, rfl, SqT.of h, fun w => k a H (Same.refl H) ?_, fun _ p hp => k p _ (Same.upd hp) upd_same⟩
  have e : cutV xs lo hi = xs := by
    unfold cutV
    rw [w.1, w.2, Nat.sub_zero, List.drop_zero, List.take_length]
  rw [e]
  exact h
/-- both, one behind the other -/
theorem cat_by {K : PySem.W.Frag} {H : Hp} {a b : Addr} {xs ys : List V} {Q : VK} (h : H a = some (.tup xs)) (h' : H b = some (.tup ys)) (hz : xs.length + ys.length ≤ sizeLine) (k : ∀ p H', Same H H' → H' p = some (.tup (xs ++ ys)) → Q (.ref p) H') : rCatA K (.ref a) (.ref b) H Q := by
  refine ⟨a, b, xs, ys, rfl, rfl, SqT.of h, SqT.of h', hz, fun e => k b H (Same.refl H) ?_, fun _ e => k a H (Same.refl H) ?_, fun _ _ p hp => k p _ (Same.upd hp) upd_same⟩
  · rw [e]; exact h'
  · rw [e, List.append_nil]; exact h
theorem TalkRow.same {H H' : Hp} {p : Addr} {ls : List Int} {bs : List (List Int)} (h : TalkRow H p ls bs) (s : Same H H') : TalkRow H' p ls bs := h.imp fun _ _ e => s _ _ e

/-! ### the class -/
/-- a Talk of these numbers at x -/
def TalkAt (C : Addr) (H : Hp) (x : Addr) (ls : List Int) (bs : List (List Int)) : Prop :=
  ∃ dx a b qs, H x = some (.ins C dx [("lengths", .ref a), ("sizes", .ref b)]) ∧ H a = some (.tup (ls.map V.int)) ∧ H b = some (.tup (qs.map V.ref)) ∧ RowsAt H qs bs
theorem TalkAt.same {C : Addr} {H H' : Hp} {x : Addr} {ls : List Int} {bs : List (List Int)} (h : TalkAt C H x ls bs) (s : Same H H') : TalkAt C H' x ls bs :=
  let ⟨dx, a, b, qs, h1, h2, h3, h4⟩ := h
  ⟨dx, a, b, qs, s _ _ h1, s _ _ h2, s _ _ h3, h4.imp fun _ _ e => s _ _ e⟩
structure TkB (K : PySem.W.Frag) (C fI : Addr) : Prop where
  cl : Cls K C
  make : Mk K C fI
  nl : NoAttr K C "lengths"
  ns : NoAttr K C "sizes"
  ca : PySem.W.findIn K (.ref C) "__class__" = some (some (.builtin "object.__class__"))
  cn : PySem.W.specialIn K (.builtin "object.__class__") "__get__" = some (some (.builtin "getset_descriptor.__get__"))
  ct : PySem.W.takesIn K (.builtin "object.__class__") = some true
  cm : PySem.W.mroIn K C (.type "object") = some true
theorem TkB.ty {K : PySem.W.Frag} {C fI : Addr} (T : TkB K C fI) {H : Hp} {x dx : Addr} {fs : List (Str × V)} (h : H x = some (.ins C dx fs)) : TyX K H (.ref x) (.ref C) := .base (.ins h T.cl T.ca T.cn T.ct T.cm)
theorem kit_self {K : PySem.W.Frag} {C : Addr} : PySem.W.kitOne K (.ref C) (.ref C) = some true := by
  unfold PySem.W.kitOne
  rw [if_pos (beq_self_eq_true _)]
abbrev sInit : Stmt := inClass (topS 2) 0
abbrev sEq : Stmt := inClass (topS 2) 2
abbrev sMany : Stmt := inClass (topS 2) 5
theorem scInit : FnScope ["self", "lengths", "sizes"] ["self", "lengths", "sizes"] (defScope sInit) := ⟨rfl, rfl, rfl, by decide +kernel, rfl, by decide +kernel, by decide +kernel⟩
theorem scEq : FnScope ["self", "other"] ["self", "other"] (defScope sEq) := ⟨rfl, rfl, rfl, by decide +kernel, rfl, by decide +kernel, by decide +kernel⟩
theorem scMany : FnScope ["self"] ["self"] (defScope sMany) := ⟨rfl, rfl, rfl, by decide +kernel, rfl, by decide +kernel, by decide +kernel⟩
/-- a new Talk's fields -/
def spInit (C : Addr) : Sp := fun vs H Q _ => ∃ x dx v1 v2, vs = [.ref x, v1, v2] ∧ H x = some (.ins C dx []) ∧
  ∀ H', (∀ b o, b ≠ x → H b = some o → H' b = some o) → H' x = some (.ins C dx [("lengths", v1), ("sizes", v2)]) → Q .non H'
def spMany (C : Addr) : Sp := fun vs H Q _ => ∃ x ls row bs, vs = [.ref x] ∧ TalkAt C H x ls (row :: bs) ∧ Q (.int (row.length : Nat)) H
/-- what == is asked of -/
def EqT (C : Addr) : Addr → Addr → Hp → Prop := fun a b H => ∃ ls bs, TalkAt C H a ls bs ∧ TalkAt C H b ls bs ∧ Low ls ∧ LowRows bs
/-- a new Talk, and all that stood -/
theorem made_talk {C x dx : Addr} {H : Hp} {v1 v2 : V} {R : VK} {E : XK} (nx : H x = none) (ndx : H dx = none) (ne : dx ≠ x) (k : ∀ H', Same H H' → (∃ dx, H' x = some (.ins C dx [("lengths", v1), ("sizes", v2)])) → R .non H') :
    spInit C [.ref x, v1, v2] (upd (upd H dx (.own x)) x (.ins C dx [])) R E :=
  ⟨x, dx, v1, v2, rfl, upd_same, fun H' kp hx => k H' (fun b o e => kp b o (ne_of_none e nx) (by rw [upd_ne (ne_of_none e nx), upd_ne (ne_of_none e ndx)]; exact e)) ⟨dx, hx⟩⟩
section
variable {P : Program} {w : World} {K : PySem.W.Frag} {mg : Str → Option Value} {base : Heap} {C fI fE fM fC fJ : Addr} {fdI : FuncData}
theorem ok_init {fd : FuncData} (F : Fun K "__init__" "Talk.__init__" sInit fI fd) (T : TkB K C fI) : FnOk P w K mg base CX0 1 fI fd ["self", "lengths", "sizes"] (spInit C) := by
  refine F.ok scInit (fun vs H Q E h => ?_) (fun cdv A outer s H vs Q E hr h => ?_)
  · obtain ⟨_, _, _, _, rfl, _⟩ := h
    rfl
  · have nd := scInit.nd
    refine ⟨_, pss_cons (ps_fld (pv 0) (pv 1) rfl)
    (pss_one (ps_fld (pv 0) (pv 2) rfl)), ?_⟩
    obtain ⟨x, dx, v1, v2, rfl, hx, k⟩ := h
    refine ⟨_, rfl, _, rfl, x, C, dx, _, rfl, hx, T.cl, T.nl, (by show 0 < 1000; decide), ?_⟩
    refine ⟨_, rfl, _, rfl, x, C, dx, _, rfl, upd_same, T.cl, T.ns, (by show 1 < 1000; decide), ?_⟩
    refine k _ (fun b o n e => ?_) ?_
    · rw [upd_ne n, upd_ne n]; exact e
    · rw [upd_same]; rfl
theorem ok_many {fd : FuncData} (F : Fun K "many_rates" "Talk.many_rates" sMany fM fd) (T : TkB K C fI) (B : Bi mg) : FnOk P w K mg base CX0 1 fM fd ["self"] (spMany C) := by
  refine F.ok scMany (fun vs H Q E h => ?_) (fun cdv A outer s H vs Q E hr h => ?_)
  · obtain ⟨_, _, _, _, rfl, _⟩ := h
    rfl
  · refine ⟨_, pss_one (ps_ret (pe_callB call_len_seq (by rfl) B.len PySem.boot_len (pa_cons (pe_ix ix_tup (pe_fld (pv 0) rfl) (pe_int) (fun _ _ => rfl)) pa_nil))), ?_⟩
    obtain ⟨x, ls, row, bs, rfl, ⟨dx, a, b, qs, h1, h2, h3, h4⟩, q⟩ := h
    cases h4 with
    | @cons q0 _ qs' _ hq ht =>
      refine ⟨_, rfl, x, C, dx, _, _, rfl, h1, T.cl, T.ns, rfl, b, _, 0, _, rfl, rfl, SqT.of h3, at_of (j := 0) rfl rfl, ?_⟩
      refine ⟨q0, _, rfl, .inr (SqT.of hq), ?_⟩
      rw [List.length_map]
      exact q
theorem ok_eq {fd : FuncData} (F : Fun K "__eq__" "Talk.__eq__" sEq fE fd) (T : TkB K C fI) (mC : mg "Talk" = some (.ref C)) (mI : mg "isinstance" = none) : FnOk P w K mg base CX0 1 fE fd ["self", "other"] (spEq (EqT C)) := by
  refine F.ok scEq (fun vs H Q E h => ?_) (fun cdv A outer s H vs Q E hr h => ?_)
  · obtain ⟨_, _, rfl, _⟩ := h
    rfl
  · refine ⟨_, pss_one (ps_ret (pe_and (pe_callB call_isi (by rfl) mI (by decide +kernel) (pa_cons (pv 1) (pa_cons (pe_glob (v := .ref C) (by rfl) mC rfl) pa_nil))) (pe_and (pe_cmpR (op_eqD hr.units) (pe_fld (pv 0) rfl) (pe_fld (pv 1) rfl) (nomark _)) (pe_one (pe_cmpR (op_eqD hr.units) (pe_fld (pv 0) rfl) (pe_fld (pv 1) rfl) (nomark _)))))), ?_⟩
    obtain ⟨x, y, rfl, ⟨ls, bs, ⟨dx, a, b, qs, h1, h2, h3, h4⟩, ⟨dy, a', b', qs', g1, g2, g3, g4⟩, lo, lor⟩, q⟩ := h
    refine ⟨_, rfl, _, _, _, _, true, rfl, .own C, T.ty g1, kit_self, true, rfl, iteT ?_⟩
    refine ⟨_, rfl, x, C, dx, _, _, rfl, h1, T.cl, T.nl, rfl, _, rfl, y, C, dy, _, _, rfl, g1, T.cl, T.nl, rfl, _, _, dp_ints h2, dp_ints g2, lo.sml.shaped (by decide), lo.sml.shaped (by decide), _, rfl, ?_⟩
    rw [lo.sml.refl]
    refine iteT ?_
    refine ⟨_, rfl, x, C, dx, _, _, rfl, h1, T.cl, T.ns, rfl, _, rfl, y, C, dy, _, _, rfl, g1, T.cl, T.ns, rfl, _, _, dp_rows h3 h4, dp_rows g3 g4, lor.sml.shaped (by decide), lor.sml.shaped (by decide), ?_⟩
    rw [lor.sml.refl]
    exact q H Ext.rfl'
end
end Rp

namespace Rp
open PySem PySem.Spec PyProof.Rows L2
/-- o.m(e, ..) where what it raises is wished for at the slots as they stand -/
def tMethW (C : Addr) (m : Str) (sp : Sp) (E : L2.St → XK) (ta : TE) (t : TA) : TE := fun σ H Q => ta σ H fun x H1 => ∃ a dx fs, x = .ref a ∧ H1 a = some (.ins C dx fs) ∧ fs.lookup m = none ∧ t σ H1 fun vs H2 => sp (x :: vs) H2 Q (E σ)
theorem pe_methW {X : Cx} {CX : CXT} {k : Nat} {f C : Addr} {fd : FuncData} {ps : List Str} {sp : Sp} {E : L2.St → XK} {m : Str} {pos apos : Pos} {e o : Expr} {es : List Expr} {ta : TE} {t : TA} {pl : Sem Bool}
    (he : PE X o ta) (c : Cls X.K C) (hm : Meth X.K C m f) (F : FnOk X.prog X.w X.K X.mg X.base CX k f fd ps sp) (room : Room k X.A) (hb : L2.Binds X.K fd ps []) (hx : ∀ σ, PassesAt CX X σ (E σ)) (ha : PA X (e :: es) t)
    (hst : starEach (e :: es) X.env = (false, eval e X.env) :: starEach es X.env := by rfl) (hpl : (backTo pos (starEach es X.env)).any (·.1) = false := by rfl)
    (tree : eval (.Call (.Attribute o m apos) (e :: es) [] pos) X.env = (eval o X.env >>= fun ov => standAt apos.atName >>= fun _ => holding [ov] (getMethod ov m pl) >>= fun fx => callWith pos fx.1 fx.2 (backTo pos (starEach (e :: es) X.env)) (backToKw pos (keywordEach [] X.env))) := by rfl) :
    PE X (.Call (.Attribute o m apos) (e :: es) [] pos) (tMethW C m sp E ta t) :=
  ⟨fun pins s σ H Q I h => PySem.W.methodCall_KW (pl := pl) (thn (he.run pins s σ H _ I h) fun u s1 ⟨x, H1, I1, rx, a, dx, fs, ex, ea, l, q⟩ => by
    cases ex
    cases rx
    exact getmeth_ok I1 ea c hm l (PySem.W.callWith_K (first := [.ref a]) (h₀ := X.base) I.ok.mod.kin hm.kp (thn (ha.run pos pins s1 σ H1 _ I1 q) fun us s2 ⟨vs, H2, I2, r, q2⟩ =>
      ⟨I2.kIn, run_fnS (us := .ref a :: us) (vs := .ref a :: vs) F room hb (hx σ) I2 (.cons rfl r) q2⟩) hst hpl)) tree⟩
/-! ### isinstance of a caught error that has fields -/
section
variable {X : Cx} {a : Addr} {cls : Value} {d : Option Addr} {oe : Obj} {pn : List (Addr × Obj)}
/-- isinstance(e, c), e the error that the suite holds at a, of the class cls, its dict d -/
def rIsEd (K : PySem.W.Frag) (a : Addr) (cls : Value) (d : Option Addr) : List V → Hp → VK → Prop := fun xs H Q => ∃ (D dd : Addr) (c : V) (cv : Value) (b : Bool) (fs : List (Str × V)), cls = .ref D ∧ d = some dd ∧ ExcC K D ∧ xs = [.ref a, c] ∧ ClsV c cv ∧ H dd = some (.xd fs) ∧ PySem.W.kitOne K (.ref D) cv = some b ∧ Q (.bl b) H
/-- isinstance(e, (c, ..)) -/
def rIsEdT (K : PySem.W.Frag) (a : Addr) (cls : Value) (d : Option Addr) : List V → Hp → VK → Prop := fun xs H Q => ∃ (D dd tp : Addr) (cs : List V) (us : List Value) (b : Bool) (fs : List (Str × V)), cls = .ref D ∧ d = some dd ∧ ExcC K D ∧ xs = [.ref a, .ref tp] ∧ H tp = some (.tup cs) ∧ Paired ClsV cs us ∧ H dd = some (.xd fs) ∧ PySem.W.kitAny K (.ref D) us = some b ∧ Q (.bl b) H
theorem err_inst {pins : List (Addr × Obj)} {σ : L2.St} {H : Hp} {s : Shared} {D dd : Addr} {fs : List (Str × V)} (I : Inv (X.suite a ((a, oe) :: pn)) pins σ H s) (hz : Zc (.ref D) (some dd) oe) (hf : ∃ vs, oe.data = .fields vs) (hd : H dd = some (.xd fs)) : ∃ od, PySem.W.InstAt s.heap a oe D (some od) := by
  obtain ⟨here, _⟩ := I.pin (a, oe) (List.mem_append.mpr (.inl List.mem_cons_self))
  obtain ⟨vs, hv⟩ := hf
  obtain ⟨mA, ⟨od, _, _, at_, _⟩, _⟩ := (show ObjOk X.prog X.w H s.heap dd (.xd fs) from I.hok dd _ hd)
  refine ⟨od, here, hz.1, ?_, ?_⟩
  · unfold PySem.W.notCls
    rw [hv] <;> rfl
  · rw [hz.2]
    exact at_
theorem exc_kit {K : PySem.W.Frag} {D : Addr} {od : Option Obj} (C : ExcC K D) : PySem.W.KitX K (.ref a) (.ref D) (fun h => PySem.W.InstAt h a oe D od) := by
  obtain ⟨cd, hc, _⟩ := PySem.W.any_some C.hd
  exact PySem.W.kitx_exc (by rw [hc]; rfl) C.hg C.hk C.hs C.ha C.hn C.ht C.hm
theorem call_isEd (hz : Zc cls d oe) (hf : ∃ vs, oe.data = .fields vs) : CallR (X.suite a ((a, oe) :: pn)) (.builtin "isinstance") (rIsEd X.K a cls d) := by
  intro pins s σ H xs us Q I r h
  obtain ⟨D, dd, c, cv, b, fs, rfl, rfl, C, rfl, hcv, hd, e, q⟩ := h
  obtain ⟨od, J⟩ := err_inst I hz hf hd
  cases r with
  | cons rx rr =>
    cases rr with
    | cons rt rr =>
      cases rr
      cases rx
      have ec := hcv.eq rt
      subst ec
      exact PySem.W.kia_one (exc_kit C) I.kIn J e (fun z => nomatch z) fun tk => ⟨.bl b, H, I.tok tk, rfl, q⟩
theorem call_isEdT (hz : Zc cls d oe) (hf : ∃ vs, oe.data = .fields vs) : CallR (X.suite a ((a, oe) :: pn)) (.builtin "isinstance") (rIsEdT X.K a cls d) := by
  intro pins s σ H xs us Q I r h
  obtain ⟨D, dd, tp, cs, ws, b, fs, rfl, rfl, C, rfl, ht, hcs, hd, e, q⟩ := h
  obtain ⟨od, J⟩ := err_inst I hz hf hd
  cases r with
  | cons rx rr =>
    cases rr with
    | cons rt rr =>
      cases rr
      cases rx
      cases rt
      obtain ⟨_, its, rv, o, o1, o2, n, o3⟩ := (show ObjOk X.prog X.w H s.heap tp (.tup cs) from I.hok tp _ ht)
      have es := ClsV.all hcs rv
      subst es
      cases o
      simp only at o2 o3
      subst o2 o3
      exact PySem.W.kia_tup (exc_kit C) I.kIn J o1 e (fun z => nomatch z) fun tk => ⟨.bl b, H, I.tok tk, rfl, q⟩
end
/-! ### data stays where all that was tracked stays -/
theorem SqL.same {K : PySem.W.Frag} {H H' : Hp} {a : Addr} {xs : List V} (h : SqL K H a xs) (s : Same H H') : SqL K H' a xs := Same.seq s h
theorem SqT.same {K : PySem.W.Frag} {H H' : Hp} {a : Addr} {xs : List V} (h : SqT K H a xs) (s : Same H H') : SqT K H' a xs := by
  rcases h with (h | ⟨o, h⟩) | h
  · exact .inl (.inl (s _ _ h))
  · exact .inl (.inr ⟨o, s _ _ h⟩)
  · exact .inr h
mutual
theorem dp_same {K : PySem.W.Frag} {H H' : Hp} (s : Same H H') : ∀ (d : PyData) (v : V), Dp K H v d → Dp K H' v d
  | .none, _, h => by cases h; exact .non
  | .bool b, _, h => by cases h; exact .bl b
  | .int i, _, h => by cases h; exact .int i
  | .str x, _, h => by cases h; exact .str x
  | .list ds, _, h => by
    cases h with
    | lst q a => exact .lst (SqL.same q s) (dp_same_all s ds _ a)
  | .tuple ds, _, h => by
    cases h with
    | tup q a => exact .tup (SqT.same q s) (dp_same_all s ds _ a)
  | .dict _, _, h => by cases h
theorem dp_same_all {K : PySem.W.Frag} {H H' : Hp} (s : Same H H') : ∀ (ds : List PyData) (vs : List V), DpAll K H vs ds → DpAll K H' vs ds
  | [], _, h => by cases h; exact .nil
  | d :: ds, _, h => by
    cases h with
    | cons a b => exact .cons (dp_same s d _ a) (dp_same_all s ds _ b)
end
end Rp

namespace Rp
open PySem PySem.Spec PyProof.Rows L2
/-! ### == of a built-in thing with an own instance: it declines -/
section
variable {prog : Program} {w : World} {A : Around} {E : Value → Shared → Prop} {s : Shared} {x l : Addr} {Q : Value → Shared → Prop}
theorem dec_tuple {items : Array Value} (hl : s.heap.IsTuple l items) (hi : PySem.W.Looks (model prog w) s.heap (isInstance (.ref x) (.type "tuple")) false) (q : Q .notImplemented s) : wpAny (model prog w) A (call (.builtin "tuple.__eq__") [.ref l, .ref x]) Q E s := by
  obtain ⟨⟨cls, dd, data, sl⟩, ho, hc, n, hd⟩ := id hl
  simp only at hc hd
  subst hc hd
  refine GQ.call_here PySem.F.slot_tuple_eq ⟨_, ho, rfl⟩ PySem.F.entry_tuple_eq (PySem.F.args_tuple_eq_2 _ _) ?_
  obtain ⟨hp, g, d, tk, os⟩ := s
  have q1 : ∀ {A' : Around} {E' : Value → Shared → Prop} {Q' : Bool → Shared → Prop} {tk' : Tok}, Q' false ⟨hp, g, d, tk', os⟩ → wpAny (model prog w) A' (isInstance (.ref x) (.type "tuple")) Q' E' ⟨hp, g, d, tk', os⟩ := fun q => hi.at q
  wp_walk using q1
  exact q
theorem dec_list {items : Array Value} (hl : s.heap.IsList l items) (hi : PySem.W.Looks (model prog w) s.heap (isInstance (.ref x) (.type "list")) false) (q : Q .notImplemented s) : wpAny (model prog w) A (call (.builtin "list.__eq__") [.ref l, .ref x]) Q E s := by
  obtain ⟨o, ho, hc, n, hd⟩ := id hl
  refine GQ.call_here PySem.F.slot_list_eq ⟨_, ho, hc⟩ PySem.F.entry_list_eq (PySem.F.args_list_eq_2 _ _) ?_
  obtain ⟨hp, g, d, tk, os⟩ := s
  have q1 : ∀ {A' : Around} {E' : Value → Shared → Prop} {Q' : Bool → Shared → Prop} {tk' : Tok}, Q' false ⟨hp, g, d, tk', os⟩ → wpAny (model prog w) A' (isInstance (.ref x) (.type "list")) Q' E' ⟨hp, g, d, tk', os⟩ := fun q => hi.at q
  wp_walk using q1
  exact q
theorem dec_none (q : Q .notImplemented s) : wpAny (model prog w) A (call (.builtin "NoneType.__eq__") [.none, .ref x]) Q E s := by
  refine GQ.call_here PySem.F.slot_NoneType_eq (typeIs_none s) PySem.F.entry_NoneType_eq (PySem.F.args_NoneType_eq_2 _ _) ?_
  obtain ⟨hp, g, d, tk, os⟩ := s
  wp_walk
  exact q
theorem dec_int {i : Int} {t : Tok} {C dx : Addr} (hx : s.heap.get? x = some (PySem.W.instObj C dx)) (q : Q .notImplemented s) : wpAny (model prog w) A (call (.builtin "int.__eq__") [.int i t, .ref x]) Q E s := by
  refine GQ.call_here PySem.F.slot_int_eq (typeIs_int s i t) PySem.F.entry_int_eq (PySem.F.args_int_eq_2 _ _) ?_
  obtain ⟨hp, g, d, tk, os⟩ := s
  wp_walk
  exact q
theorem dec_str {y : Str} {t : Tok} {C dx : Addr} (hx : s.heap.get? x = some (PySem.W.instObj C dx)) (q : Q .notImplemented s) : wpAny (model prog w) A (call (.builtin "str.__eq__") [.str y t, .ref x]) Q E s := by
  refine GQ.call_here PySem.F.slot_str_eq (typeIs_str s y t) PySem.F.entry_str_eq (PySem.F.args_str_eq_2 _ _) ?_
  obtain ⟨hp, g, d, tk, os⟩ := s
  wp_walk
  exact q
theorem dec_bool {b : Bool} {C dx : Addr} (hx : s.heap.get? x = some (PySem.W.instObj C dx)) (q : Q .notImplemented s) : wpAny (model prog w) A (call (.builtin "int.__eq__") [.bool b, .ref x]) Q E s := by
  refine GQ.call_here PySem.F.slot_bool_eq (PySem.typeIs_bool s b) PySem.F.entry_int_eq (PySem.F.args_int_eq_2 _ _) ?_
  obtain ⟨hp, g, d, tk, os⟩ := s
  wp_walk
  exact q
theorem dec_dict {o : Obj} {es : Array DictEntry} {ep : Nat} (ho : s.heap.get? l = some o) (hc : o.cls = .type "dict") (hd : o.data = .dict es ep) (hi : PySem.W.Looks (model prog w) s.heap (isInstance (.ref x) (.type "dict")) false) (q : Q .notImplemented s) : wpAny (model prog w) A (call (.builtin "dict.__eq__") [.ref l, .ref x]) Q E s := by
  refine GQ.call_here PySem.F.slot_dict_eq ⟨_, ho, hc⟩ PySem.F.entry_dict_eq (PySem.F.args_dict_eq_2 _ _) ?_
  obtain ⟨hp, g, d, tk, os⟩ := s
  have q1 : ∀ {A' : Around} {E' : Value → Shared → Prop} {Q' : Bool → Shared → Prop} {tk' : Tok}, Q' false ⟨hp, g, d, tk', os⟩ → wpAny (model prog w) A' (isInstance (.ref x) (.type "dict")) Q' E' ⟨hp, g, d, tk', os⟩ := fun q => hi.at q
  wp_walk using q1
  exact q
open PySem.W in
theorem rc_refl {K : Frag} {u : Value} {C f : Addr} {T id : String} {ox : Obj} {od : Option Obj} (hu : A.units < cLine) (X : K.In s.heap) (I : InstAt s.heap x ox C od) (ha : s.TypeIs u T) (slot : Slot T (cmpInfo .Eq).2.1 id) (sub : subIn K (.ref C) (.type T) = some false)
    (dec : ∀ {Q' : Value → Shared → Prop}, Q' .notImplemented s → wpAny (model prog w) A (call (.builtin id) [u, .ref x]) Q' E s) (hs : findIn K (.ref C) (cmpInfo .Eq).2.2 = some (some (.ref f))) (hf : isFn K (.ref f) = true)
    (h : wpAny (model prog w) A (call (.ref f) [.ref x, u]) (PySem.W.CmpBack Q) E s) : wpAny (model prog w) A (richCompare .Eq u (.ref x)) Q E s := by
  have one : wpAny (model prog w) A (tryCompare (.ref x) (cmpInfo .Eq).2.2 u) (fun r s' => ∃ v, r = some v ∧ Q v s') E s := by
    unfold tryCompare
    refine wpAny_bind (ifBound_K X I hs hf (wpAny_mono h (fun v s' hv => ?_) fun _ _ e => e))
    cases v <;> first | exact hv.elim | exact wpAny_pure ⟨_, rfl, hv⟩
  unfold richCompare
  simp only [ha.oneThing_none]
  refine wpAny_holding (wpAny_bind (wpAny_cRoomFor hu ?_))
  refine wpAny_bind (wpAny_typeOf ha (wpAny_bind (I.type.here ?_)))
  have hne : (Value.type T != Value.ref C) = true := by simp
  simp only [hne, if_true]
  refine wpAny_bind ((looks_subIn X sub).here ?_)
  simp only [Bool.false_eq_true, if_false, Bool.not_false, if_true]
  refine wpAny_bind (wpAny_tryCompare_declines ha slot (dec ⟨rfl, ?_⟩))
  refine wpAny_bind (wpAny_mono one (fun r s' z => ?_) fun _ _ e => e)
  obtain ⟨v, rfl, hq⟩ := z
  exact wpAny_pure hq
open PySem.W in
theorem ifBound_B {K : Frag} {M : Model} {C : Addr} {ox : Obj} {od : Option Obj} {name : Str} {id : String} {args : List Value} {Q : Option Value → Shared → Prop} (X : K.In s.heap) (I : InstAt s.heap x ox C od) (hs : findIn K (.ref C) name = some (some (.builtin id)))
    (hb : bindSpecial (.builtin id) (.ref x) = pure (.builtin id, [.ref x])) (h : wpAny M A (call (.builtin id) (.ref x :: args)) (fun v => Q (some v)) E s) : wpAny M A (callSpecialIfBound? (.ref x) name args) Q E s := by
  simp only [callSpecialIfBound?, bindSpecialIfBound?]
  refine wpAny_holding (wpAny_bind (wpAny_bind (wpAny_bind (I.type.here ((looks_findIn X hs).here ?_)))))
  refine wpAny_bind (wpAny_askSetting (wpAny_ite ?_))
  have fin : wpAny M A (call (.builtin id) ([.ref x] ++ args) >>= fun v => pure (some v)) Q E s := wpAny_bind (wpAny_mono h (fun v s' h' => wpAny_pure h') fun _ _ h' => h')
  split
  · exact wpAny_bind ((Looks.of_pure hb).here (wpAny_pure (by exact fin)))
  · exact wpAny_tryCatch (wpAny_bind ((Looks.of_pure hb).here (wpAny_pure (by exact fin))))
open PySem.W in
theorem rc_ne {K : Frag} {C f : Addr} {ox : Obj} {od : Option Obj} {b tb : Value} (hu : A.units + 1 < cLine) (X : K.In s.heap) (I : InstAt s.heap x ox C od) (hb : Looks (model prog w) s.heap (typeOf b) tb) (hn : notFirst K C tb = true)
    (hne : findIn K (.ref C) (cmpInfo .NotEq).2.1 = some (some (.builtin "object.__ne__"))) (hs : findIn K (.ref C) (Str.ofString "__eq__") = some (some (.ref f))) (hf : isFn K (.ref f) = true) (hm : mroIn K C (.type "object") = some true)
    (h : wpAny (model prog w) A.in1 (call (.ref f) [.ref x, b]) (fun v s' => ∃ r, v = .bool r ∧ Q (.bool (!r)) s') E s) : wpAny (model prog w) A (richCompare .NotEq (.ref x) b) Q E s := by
  have body : wpAny (model prog w) A (call (.builtin "object.__ne__") [.ref x, b]) (fun v s' => ∃ r, v = .bool r ∧ Q (.bool r) s') E s := by
    refine wpAny_call (codeAny_call_builtin PySem.F.cmp_object.ne.plain PySem.F.cmpEntry_ne (check_slot PySem.F.cmpKind_ne PySem.F.cmpSplit_ne (I.type.andThen (looks_mroIn X hm)) (PySem.F.cmpArgs_ne _ _) ?_))
    show wpAny _ _ (Builtin.«object.__ne__» ⟨[.ref x, b], []⟩) _ _ _
    unfold Builtin.«object.__ne__»
    repeat (first
      | with_reducible refine wpAny_cRoomFor hu ?_
      | (refine wpAny_bind (m := callSpecialIfBound? (.ref x) (Str.ofString "__eq__") [b]) (ifBound_K X I hs hf (wpAny_mono h (fun v s' hv => by
          obtain ⟨r, rfl, hq⟩ := hv
          have hq' : ∃ r', Value.bool (!r) = .bool r' ∧ Q (.bool r') s' := ⟨_, rfl, hq⟩
          repeat (first | exact ⟨_, rfl, hq⟩ | exact hq' | exact wpAny_pure hq' | exact wpAny_truthy_bool hq' | (refine wpAny_bind (m := truthy (.bool _)) (wpAny_truthy_bool ?_)) | wp_step)) fun _ _ e => e)))
      | wp_step)
  have one : wpAny (model prog w) A (tryCompare (.ref x) (cmpInfo .NotEq).2.1 b) (fun r s' => ∃ v, r = some v ∧ Q v s') E s := by
    unfold tryCompare
    refine wpAny_bind (ifBound_B X I hne (PySem.F.cmp_object.ne.bind _) (wpAny_mono body (fun v s' ⟨r, e, q⟩ => ?_) fun _ _ e => e))
    subst e
    exact wpAny_pure ⟨_, rfl, q⟩
  unfold richCompare
  simp only [oneThing_ref]
  refine wpAny_holding (wpAny_bind (wpAny_cRoomFor (Nat.lt_of_succ_lt hu) ?_))
  refine wpAny_bind (I.type.here (wpAny_bind (hb.here ?_)))
  split
  · rename_i q
    have e : subIn K tb (.ref C) = some false := by
      rcases Bool.or_eq_true_iff.mp hn with e | e
      · rw [beq_iff_eq.mp e] at q
        simp at q
      · exact beq_iff_eq.mp e
    refine wpAny_bind ((looks_subIn X e).here ?_)
    simp only [Bool.false_eq_true, if_false]
    refine wpAny_bind (wpAny_mono one (fun r s' z => ?_) fun _ _ e => e)
    obtain ⟨v, rfl, hq⟩ := z
    exact wpAny_pure hq
  · refine wpAny_bind (wpAny_pure ?_)
    simp only [Bool.false_eq_true, if_false]
    refine wpAny_bind (wpAny_mono one (fun r s' z => ?_) fun _ _ e => e)
    obtain ⟨v, rfl, hq⟩ := z
    exact wpAny_pure hq
end
end Rp

namespace Rp
open PySem PySem.Spec PyProof.Rows L2
/-! ### what == of two talks' numbers tells -/
theorem eqv_ints : ∀ a b : List Int, PyData.eqvAll (a.map PyData.int) (b.map PyData.int) = decide (a = b)
  | [], [] => rfl
  | [], _ :: _ => rfl
  | _ :: _, [] => rfl
  | x :: a, y :: b => by
    have ih := eqv_ints a b
    show (PyData.eqv (.int x) (.int y) && PyData.eqvAll (a.map PyData.int) (b.map PyData.int)) = _
    rw [ih, show PyData.eqv (.int x) (.int y) = (x == y) from by simp only [PyData.eqv]]
    rw [Bool.eq_iff_iff]
    simp
theorem eqv_dInts (a b : List Int) : PyData.eqv (dInts a) (dInts b) = decide (a = b) := by
  unfold dInts
  simp only [PyData.eqv]
  exact eqv_ints a b
theorem eqv_rows : ∀ a b : List (List Int), PyData.eqvAll (a.map dInts) (b.map dInts) = decide (a = b)
  | [], [] => rfl
  | [], _ :: _ => rfl
  | _ :: _, [] => rfl
  | x :: a, y :: b => by
    have ih := eqv_rows a b
    show (PyData.eqv (dInts x) (dInts y) && PyData.eqvAll (a.map dInts) (b.map dInts)) = _
    rw [ih, eqv_dInts, Bool.eq_iff_iff]
    simp
theorem eqv_dRows (a b : List (List Int)) : PyData.eqv (dRows a) (dRows b) = decide (a = b) := by
  unfold dRows
  simp only [PyData.eqv]
  exact eqv_rows a b
/-! ### built-in things -/
inductive Bth (H : Hp) : V → String → Prop
  | non : Bth H .non "NoneType"
  | bl (b : Bool) : Bth H (.bl b) "bool"
  | int (i : Int) : Bth H (.int i) "int"
  | str (x : Str) : Bth H (.str x) "str"
  | tup {a : Addr} {xs : List V} (h : H a = some (.tup xs)) : Bth H (.ref a) "tuple"
  | lst {a : Addr} {xs : List V} (h : H a = some (.lst xs)) : Bth H (.ref a) "list"
  | dK {a : Addr} {kvs : List (Key × V)} (h : H a = some (.dK kvs)) : Bth H (.ref a) "dict"
theorem Bth.same {H H' : Hp} {v : V} {T : String} (h : Bth H v T) (s : Same H H') : Bth H' v T := by
  cases h with
  | non => exact .non
  | bl b => exact .bl b
  | int i => exact .int i
  | str x => exact .str x
  | tup h => exact .tup (s _ _ h)
  | lst h => exact .lst (s _ _ h)
  | dK h => exact .dK (s _ _ h)
theorem Bth.ty {K : PySem.W.Frag} {H : Hp} {v : V} {T : String} (h : Bth H v T) : TyX K H v (.type T) := by
  cases h with
  | non => exact .base .non
  | bl b => exact .base (.bl b)
  | int i => exact .base (.int i)
  | str x => exact .base (.str x)
  | tup h => exact .base (.tup h)
  | lst h => exact .base (.lst h)
  | dK h => exact .base (.dK h)
def bts : List String := ["NoneType", "bool", "int", "str", "tuple", "list", "dict"]
theorem Bth.mem {H : Hp} {v : V} {T : String} (h : Bth H v T) : T ∈ bts := by
  cases h <;> decide
/-- what the written part says of the class, as far as == goes -/
structure EqC (K : PySem.W.Frag) (C fE : Addr) : Prop where
  eq : PySem.W.findIn K (.ref C) "__eq__" = some (some (.ref fE))
  eqf : PySem.W.isFn K (.ref fE) = true
  ne : PySem.W.findIn K (.ref C) "__ne__" = some (some (.builtin "object.__ne__"))
  cm : PySem.W.mroIn K C (.type "object") = some true
  sub : ∀ T ∈ bts, PySem.W.subIn K (.ref C) (.type T) = some false
  bus : ∀ T ∈ bts, PySem.W.subIn K (.type T) (.ref C) = some false
  kit : ∀ T ∈ bts, PySem.W.kitOne K (.type T) (.ref C) = some false
/-- two things, one of them a talk at least, and whether they are equal -/
inductive EqR (C : Addr) (H : Hp) : V → V → Bool → Prop
  | tt {a b : Addr} {ls ls' : List Int} {bs bs' : List (List Int)} (h : TalkAt C H a ls bs) (h' : TalkAt C H b ls' bs') (lo : Low ls) (lor : LowRows bs) (lo' : Low ls') (lor' : LowRows bs') : EqR C H (.ref a) (.ref b) (decide (ls = ls' ∧ bs = bs'))
  | tb {a : Addr} {v : V} {T : String} {ls : List Int} {bs : List (List Int)} (h : TalkAt C H a ls bs) (h' : Bth H v T) : EqR C H (.ref a) v false
  | bt {a : Addr} {v : V} {T : String} {ls : List Int} {bs : List (List Int)} (h : TalkAt C H a ls bs) (h' : Bth H v T) : EqR C H v (.ref a) false
theorem EqR.same {C : Addr} {H H' : Hp} {x y : V} {b : Bool} (h : EqR C H x y b) (s : Same H H') : EqR C H' x y b := by
  cases h with
  | tt h h' a b c d => exact .tt (h.same s) (h'.same s) a b c d
  | tb h h' => exact .tb (h.same s) (h'.same s)
  | bt h h' => exact .bt (h.same s) (h'.same s)
/-- the own == -/
def spEqv (K : PySem.W.Frag) (C : Addr) : Sp := fun vs H Q _ => ∃ a v b, vs = [.ref a, v] ∧ EqR C H (.ref a) v b ∧ (∃ ls bs, TalkAt C H a ls bs) ∧ Q (.bl b) H
section
variable {P : Program} {w : World} {K : PySem.W.Frag} {mg : Str → Option Value} {base : Heap} {C fI fE : Addr}
theorem talk_not {H : Hp} {a : Addr} {T : String} {ls : List Int} {bs : List (List Int)} (h : TalkAt C H a ls bs) (b : Bth H (.ref a) T) : False := by
  obtain ⟨dx, x, y, qs, h1, _⟩ := h
  cases b with
  | tup h => rw [h1] at h; cases h
  | lst h => rw [h1] at h; cases h
  | dK h => rw [h1] at h; cases h
theorem ok_eqv {fd : FuncData} (F : Fun K "__eq__" "Talk.__eq__" sEq fE fd) (T : TkB K C fI) (Z : EqC K C fE) (mC : mg "Talk" = some (.ref C)) (mI : mg "isinstance" = none) : FnOk P w K mg base CX0 1 fE fd ["self", "other"] (spEqv K C) := by
  refine F.ok scEq (fun vs H Q E h => ?_) (fun cdv A outer s H vs Q E hr h => ?_)
  · obtain ⟨_, _, _, rfl, _⟩ := h
    rfl
  · refine ⟨_, pss_one (ps_ret (pe_and (pe_callB call_isi (by rfl) mI (by decide +kernel) (pa_cons (pv 1) (pa_cons (pe_glob (v := .ref C) (by rfl) mC rfl) pa_nil))) (pe_and (pe_cmpR (op_eqD hr.units) (pe_fld (pv 0) rfl) (pe_fld (pv 1) rfl) (nomark _)) (pe_one (pe_cmpR (op_eqD hr.units) (pe_fld (pv 0) rfl) (pe_fld (pv 1) rfl) (nomark _)))))), ?_⟩
    obtain ⟨x, v, b, rfl, e, ⟨ls0, bs0, h0⟩, q⟩ := h
    cases e with
    | @tt _ y ls ls' bs bs' hx hy lo lor lo' lor' =>
      obtain ⟨dx, a, b, qs, h1, h2, h3, h4⟩ := hx
      obtain ⟨dy, a', b', qs', g1, g2, g3, g4⟩ := hy
      refine ⟨_, rfl, _, _, _, _, true, rfl, .own C, T.ty g1, kit_self, true, rfl, iteT ?_⟩
      refine ⟨_, rfl, x, C, dx, _, _, rfl, h1, T.cl, T.nl, rfl, _, rfl, y, C, dy, _, _, rfl, g1, T.cl, T.nl, rfl, _, _, dp_ints h2, dp_ints g2, lo.sml.shaped (by decide), lo'.sml.shaped (by decide), _, rfl, ?_⟩
      rw [eqv_dInts]
      by_cases c : ls = ls'
      · rw [decide_eq_true c]
        refine iteT ?_
        refine ⟨_, rfl, x, C, dx, _, _, rfl, h1, T.cl, T.ns, rfl, _, rfl, y, C, dy, _, _, rfl, g1, T.cl, T.ns, rfl, _, _, dp_rows h3 h4, dp_rows g3 g4, lor.sml.shaped (by decide), lor'.sml.shaped (by decide), ?_⟩
        rw [eqv_dRows]
        rw [show decide (ls = ls' ∧ bs = bs') = decide (bs = bs') by simp [c]] at q
        exact q
      · rw [decide_eq_false c]
        rw [show decide (ls = ls' ∧ bs = bs') = false by simp [c]] at q
        exact iteF q
    | tb hx hb =>
      exact ⟨_, rfl, _, _, _, _, false, rfl, .own C, hb.ty, Z.kit _ hb.mem, false, rfl, iteF q⟩
    | bt hx hb => exact (talk_not h0 hb).elim
end
end Rp

namespace Rp
open PySem PySem.Spec PyProof.Rows L2
section
variable {X : Cx} {C fE : Addr} {fdE : FuncData} {pins : List (Addr × Obj)} {σ : L2.St} {H : Hp} {s : Shared}
theorem env0_at {A : Around} (I : Inv X pins σ H s) (fr : A.frames = X.A.frames) : Env0 X.prog X.w X.K X.mg X.base A X.stack s H := by
  have e := I.env0
  exact ⟨by rw [fr]; exact e.frames, e.mod, e.bs, e.bsz, e.funs, e.frf, e.hok, e.bare⟩
/-- the own __eq__ is called -/
theorem own_eq {A : Around} (FE : FnOk X.prog X.w X.K X.mg X.base CX0 1 fE fdE ["self", "other"] (spEqv X.K C)) (bE : L2.Binds X.K fdE ["self", "other"] []) (sb : Sub X 1 A) (I : Inv X pins σ H s) {a : Addr} {v : V} {u : Value} {b : Bool} (rv : RelV v u)
    (e : EqR C H (.ref a) v b) (ha : ∃ ls bs, TalkAt C H a ls bs) : wpAny (model X.prog X.w) A (call (.ref fE) [.ref a, u]) (fun r s' => r = .bool b ∧ Inv X pins σ H s') X.xe s := by
  have hsp : spEqv X.K C [.ref a, v] H (fun r H' => r = .bl b ∧ H' = H) (fun _ _ _ => False) := ⟨a, v, b, rfl, e, ha, rfl, rfl⟩
  refine wpAny_call (codeAny_mono (FE.run A X.stack s H ⟨[.ref a, u], []⟩ [.ref a, u] [.ref a, v] _ _ sb.room (env0_at I sb.fr) (by
    have := bE s [.ref a, u] I.kIn (by rfl)
    simpa using this) (.cons rfl (.cons rv .nil)) hsp) fun r s' hq => ?_)
  cases r with
  | error e => exact (pass0 (X := X)) pins σ H s e s' I hq
  | ok fl =>
    cases fl with
    | ret w =>
      obtain ⟨z, H', I', rz, ez, eh⟩ := I.after hq
      subst ez eh
      cases rz
      exact ⟨rfl, I'⟩
    | next => exact False.elim hq
    | brk => exact False.elim hq
    | cont => exact False.elim hq
theorem inst_at {a : Addr} {ls : List Int} {bs : List (List Int)} (I : Inv X pins σ H s) (h : TalkAt C H a ls bs) : ∃ dx od, s.heap.get? a = some (PySem.W.instObj C dx) ∧ PySem.W.InstAt s.heap a (PySem.W.instObj C dx) C od := by
  obtain ⟨dx, _, _, _, h1, _⟩ := h
  obtain ⟨_, _, _, ho, _⟩ := (show ObjOk X.prog X.w H s.heap a (.ins C dx _) from I.hok a _ h1)
  obtain ⟨mA, J, _⟩ := ins_get I.hok h1
  obtain ⟨od, J, _⟩ := J.look
  exact ⟨dx, od, ho, J⟩
/-- the kind of a thing beside a talk -/
theorem ty_of {fI : Addr} (T : TkB X.K C fI) (Z : EqC X.K C fE) {a : Addr} {v : V} {b : Bool} (e : EqR C H (.ref a) v b) (ha : ∃ ls bs, TalkAt C H a ls bs) : ∃ t, TyX X.K H v t ∧ PySem.W.notFirst X.K C t = true := by
  obtain ⟨ls0, bs0, h0⟩ := ha
  cases e with
  | tt h h' =>
    obtain ⟨dy, _, _, _, g1, _⟩ := h'
    exact ⟨_, T.ty g1, by unfold PySem.W.notFirst; simp⟩
  | tb h h' => exact ⟨_, h'.ty, by unfold PySem.W.notFirst; rw [Z.bus _ h'.mem]; simp⟩
  | bt h h' => exact (talk_not h0 h').elim
theorem eq_talk {A : Around} {fI : Addr} (T : TkB X.K C fI) (Z : EqC X.K C fE) (FE : FnOk X.prog X.w X.K X.mg X.base CX0 1 fE fdE ["self", "other"] (spEqv X.K C)) (bE : L2.Binds X.K fdE ["self", "other"] []) (sb : Sub X 1 A) (I : Inv X pins σ H s) {a : Addr} {v : V} {u : Value} {b : Bool} (rv : RelV v u)
    (e : EqR C H (.ref a) v b) (ha : ∃ ls bs, TalkAt C H a ls bs) : wpAny (model X.prog X.w) A (richCompare .Eq (.ref a) u) (fun r s' => r = .bool b ∧ Inv X pins σ H s') X.xe s := by
  obtain ⟨ls0, bs0, h0⟩ := id ha
  obtain ⟨dx, od, _, J⟩ := inst_at I h0
  obtain ⟨t, ty, nf⟩ := ty_of T Z e ha
  obtain ⟨Pz, KX, pz, _⟩ := kit_of I rv ty
  obtain ⟨m, hF⟩ := I.fr
  refine PySem.W.cmp_K (op := .Eq) (tb := t) sb.room.units0 hF I.ok.mod.kin J (KX.ty _ _ I.kIn pz) nf Z.eq Z.eqf (wpAny_mono (own_eq FE bE sb I rv e ha) (fun r s' hr => ?_) fun _ _ x => x)
  obtain ⟨er, I'⟩ := hr
  subst er
  exact ⟨rfl, I'⟩
theorem ne_talk {A : Around} {fI : Addr} (T : TkB X.K C fI) (Z : EqC X.K C fE) (FE : FnOk X.prog X.w X.K X.mg X.base CX0 1 fE fdE ["self", "other"] (spEqv X.K C)) (bE : L2.Binds X.K fdE ["self", "other"] []) (sb : Sub X 2 A) (I : Inv X pins σ H s) {a : Addr} {v : V} {u : Value} {b : Bool} (rv : RelV v u)
    (e : EqR C H (.ref a) v b) (ha : ∃ ls bs, TalkAt C H a ls bs) : wpAny (model X.prog X.w) A (richCompare .NotEq (.ref a) u) (fun r s' => r = .bool (!b) ∧ Inv X pins σ H s') X.xe s := by
  obtain ⟨ls0, bs0, h0⟩ := id ha
  obtain ⟨dx, od, _, J⟩ := inst_at I h0
  obtain ⟨t, ty, nf⟩ := ty_of T Z e ha
  obtain ⟨Pz, KX, pz, _⟩ := kit_of I rv ty
  have un := sb.room.un
  refine rc_ne (tb := t) (by omega) I.kIn J (KX.ty _ _ I.kIn pz) nf Z.ne Z.eq Z.eqf Z.cm (wpAny_mono (own_eq FE bE sb.in1 I rv e ha) (fun r s' hr => ?_) fun _ _ x => x)
  obtain ⟨er, I'⟩ := hr
  subst er
  exact ⟨b, rfl, rfl, I'⟩
/-- a built-in thing == a talk -/
theorem eq_thing {A : Around} (Z : EqC X.K C fE) (FE : FnOk X.prog X.w X.K X.mg X.base CX0 1 fE fdE ["self", "other"] (spEqv X.K C)) (bE : L2.Binds X.K fdE ["self", "other"] []) (sb : Sub X 1 A) (I : Inv X pins σ H s) {a : Addr} {v : V} {u : Value} {T : String} (rv : RelV v u) {ls : List Int} {bs : List (List Int)}
    (h : TalkAt C H a ls bs) (hb : Bth H v T) : wpAny (model X.prog X.w) A (richCompare .Eq u (.ref a)) (fun r s' => r = .bool false ∧ Inv X pins σ H s') X.xe s := by
  obtain ⟨dx, od, ho, J⟩ := inst_at I h
  have own := own_eq FE bE sb I rv (.tb h hb) ⟨ls, bs, h⟩
  have fin : wpAny (model X.prog X.w) A (call (.ref fE) [.ref a, u]) (PySem.W.CmpBack (fun r s' => r = .bool false ∧ Inv X pins σ H s')) X.xe s := wpAny_mono own (fun r s' hr => by
    obtain ⟨er, I'⟩ := hr
    subst er
    exact ⟨rfl, I'⟩) fun _ _ x => x
  have sub := Z.sub _ hb.mem
  have isn : ∀ T' : String, PySem.W.subIn X.K (.ref C) (.type T') = some false → PySem.W.Looks (model X.prog X.w) s.heap (isInstance (.ref a) (.type T')) false := fun T' e => J.type.andThen (PySem.W.looks_subIn I.kIn e)
  have hu := sb.room.units0
  cases hb with
  | non =>
    cases rv
    exact rc_refl hu I.kIn J (typeIs_none s) PySem.F.slot_NoneType_eq sub (fun q => dec_none q) Z.eq Z.eqf fin
  | bl b =>
    cases rv
    exact rc_refl hu I.kIn J (PySem.typeIs_bool s b) PySem.F.slot_bool_eq sub (fun q => dec_bool ho q) Z.eq Z.eqf fin
  | int i =>
    obtain ⟨t, rfl⟩ := rv
    exact rc_refl hu I.kIn J (typeIs_int s i t) PySem.F.slot_int_eq sub (fun q => dec_int ho q) Z.eq Z.eqf fin
  | str y =>
    obtain ⟨t, rfl⟩ := rv
    exact rc_refl hu I.kIn J (typeIs_str s y t) PySem.F.slot_str_eq sub (fun q => dec_str ho q) Z.eq Z.eqf fin
  | tup hx =>
    cases rv
    obtain ⟨its, _, ht, _⟩ := I.tuple (SqT.of hx)
    obtain ⟨o, h1, h2, h3⟩ := id ht
    exact rc_refl hu I.kIn J ⟨o, h1, h2⟩ PySem.F.slot_tuple_eq sub (fun q => dec_tuple ⟨o, h1, h2, h3⟩ (isn _ sub) q) Z.eq Z.eqf fin
  | lst hx =>
    cases rv
    obtain ⟨its, _, pl, _⟩ := I.list (SqL.of hx)
    obtain ⟨o, h1, h2, h3⟩ := id pl.isList
    exact rc_refl hu I.kIn J ⟨o, h1, h2⟩ PySem.F.slot_list_eq sub (fun q => dec_list ⟨o, h1, h2, h3⟩ (isn _ sub) q) Z.eq Z.eqf fin
  | dK hx =>
    cases rv
    obtain ⟨_, _, _, _, o, es, ep, h1, h2, h3, _⟩ := I.hok _ _ hx
    exact rc_refl hu I.kIn J ⟨o, h1, h2.1⟩ PySem.F.slot_dict_eq sub (fun q => dec_dict h1 h2.1 h3 (isn _ sub) q) Z.eq Z.eqf fin
theorem eq_any {A : Around} {fI : Addr} (T : TkB X.K C fI) (Z : EqC X.K C fE) (FE : FnOk X.prog X.w X.K X.mg X.base CX0 1 fE fdE ["self", "other"] (spEqv X.K C)) (bE : L2.Binds X.K fdE ["self", "other"] []) (sb : Sub X 1 A) (I : Inv X pins σ H s) {x y : V} {u v : Value} {b : Bool} (rx : RelV x u) (ry : RelV y v)
    (e : EqR C H x y b) : wpAny (model X.prog X.w) A (richCompare .Eq u v) (fun r s' => r = .bool b ∧ Inv X pins σ H s') X.xe s := by
  cases e with
  | tt h h' a1 a2 a3 a4 =>
    cases rx
    exact eq_talk T Z FE bE sb I ry (.tt h h' a1 a2 a3 a4) ⟨_, _, h⟩
  | tb h h' =>
    cases rx
    exact eq_talk T Z FE bE sb I ry (.tb h h') ⟨_, _, h⟩
  | bt h h' =>
    cases ry
    exact eq_thing Z FE bE sb I rx h h'
/-- x == y, one of them a talk -/
def rEqR (C : Addr) : R2 := fun x y H Q => ∃ b, EqR C H x y b ∧ Q (.bl b) H
theorem op_eqR {fI : Addr} (T : TkB X.K C fI) (Z : EqC X.K C fE) (FE : FnOk X.prog X.w X.K X.mg X.base CX0 1 fE fdE ["self", "other"] (spEqv X.K C)) (bE : L2.Binds X.K fdE ["self", "other"] []) (hr : Room 1 X.A) : OpR X (compareOp .Eq) (rEqR C) := by
  intro pins s σ H x y v u Q I rx ry h
  obtain ⟨b, e, q⟩ := h
  show wpAny (model X.prog X.w) X.A (richCompare .Eq v u) (EP X pins σ Q) X.xe s
  refine wpAny_mono (eq_any T Z FE bE ⟨hr, rfl⟩ I rx ry e) (fun r s' z => ?_) fun _ _ x => x
  obtain ⟨er, I'⟩ := z
  subst er
  exact ⟨.bl b, H, I', rfl, q⟩
/-- a talk != y -/
def rNeR (C : Addr) : R2 := fun x y H Q => ∃ a b, x = .ref a ∧ EqR C H x y b ∧ (∃ ls bs, TalkAt C H a ls bs) ∧ Q (.bl (!b)) H
theorem op_neR {fI : Addr} (T : TkB X.K C fI) (Z : EqC X.K C fE) (FE : FnOk X.prog X.w X.K X.mg X.base CX0 1 fE fdE ["self", "other"] (spEqv X.K C)) (bE : L2.Binds X.K fdE ["self", "other"] []) (hr : Room 2 X.A) : OpR X (compareOp .NotEq) (rNeR C) := by
  intro pins s σ H x y v u Q I rx ry h
  obtain ⟨a, b, rfl, e, ha, q⟩ := h
  cases rx
  show wpAny (model X.prog X.w) X.A (richCompare .NotEq (.ref a) u) (EP X pins σ Q) X.xe s
  refine wpAny_mono (ne_talk T Z FE bE ⟨hr, rfl⟩ I ry e ha) (fun r s' z => ?_) fun _ _ x => x
  obtain ⟨er, I'⟩ := z
  subst er
  exact ⟨.bl (!b), H, I', rfl, q⟩
end
end Rp

namespace Rp
open PySem PySem.Spec PyProof.Rows L2
open PySem.SeqAt MeetsSeq MeetsSeq2 MeetsSeq3 SeqRoads2
/-! ### in, item by item -/
section
variable {prog : Program} {w : World} {A : Around} {R : Result → Shared → Prop} {Iv : Shared → Prop} {u : Value} {bl : List Bool} {Pi : Nat → Value → Prop}
/-- each turn tells its own truth, and Iv stays -/
def Turns (prog : Program) (w : World) (A : Around) (E : Value → Shared → Prop) (u : Value) (Pi : Nat → Value → Prop) (bl : List Bool) (Iv : Shared → Prop) : Prop :=
  ∀ (i : Nat) (y : Value) (b : Bool) (s : Shared), Pi i y → bl[i]? = some b → Iv s → wpAny (model prog w) A (eqBool y u) (fun r s' => r = b ∧ Iv s') E s
theorem has_loop {l : Addr} (hl : ∀ s, Iv s → ∃ (its : List Value) (n : Nat), s.heap.get? l = some { cls := .type "list", data := .seq its.toArray n } ∧ its.length = bl.length ∧ ∀ i y, its[i]? = some y → Pi i y) (turn : Turns prog w A.in1 (fun e s' => R (.error e) s') u Pi bl Iv)
    (yes : ∀ s, Iv s → R (.ok (.ret (.bool (bl.any id)))) s) (k : Nat) : ∀ i : Nat, bl.length - i = k → i ≤ bl.length → (bl.take i).any id = false → ∀ s, Iv s →
      wpAny (model prog w) A.in1 (Builtin.«list.__contains__.loop» ⟨[.ref l, u, rawInt i], []⟩) (GQ.FinOf prog w A R) (fun e s' => R (.error e) s') s := by
  induction k with
  | zero =>
    intro i hk hi hz s h
    obtain ⟨its, n, hl1, hlen, hP⟩ := hl s h
    have hi' : i = bl.length := by omega
    have e : bl.any id = false := by
      rw [hi', List.take_length] at hz
      exact hz
    have hR := yes s h
    rw [e] at hR
    obtain ⟨hp, g, d, tk, os⟩ := s
    wp_walk using AutoSeq1.wpAny_loadPart' hl1
    have hi1 : its.toArray[((i : Nat) : Int).toNat]? = none := by simp; omega
    rw [hi1]
    wp_walk
    exact hR
  | succ k ih =>
    intro i hk hi hz s h
    obtain ⟨its, n, hl1, hlen, hP⟩ := hl s h
    have hlt : i < its.length := by omega
    have hlt2 : i < bl.length := by omega
    have ht := turn i its[i] bl[i] s (hP _ _ (List.getElem?_eq_getElem hlt)) (List.getElem?_eq_getElem hlt2) h
    obtain ⟨hp, g, d, tk, os⟩ := s
    wp_walk using AutoSeq1.wpAny_loadPart' hl1
    have hi1 : its.toArray[((i : Nat) : Int).toNat]? = some its[i] := by simp [hlt]
    have hc : ((i : Int) + 1) = ((i + 1 : Nat) : Int) := by omega
    rw [hi1]
    refine wpAny_bind (wpAny_mono ht (fun r s2 h2 => ?_) fun _ _ x => x)
    obtain ⟨hr, h2⟩ := h2
    have tk1 : (bl.take (i + 1)).any id = bl[i] := by
      rw [List.take_succ_eq_append_getElem hlt2, List.any_append, hz]
      simp
    cases hb : bl[i] with
    | true =>
      rw [hb] at hr
      subst hr
      have hR := yes s2 h2
      have e : bl.any id = true := by
        rw [List.any_eq_true]
        exact ⟨_, List.getElem_mem hlt2, by rw [hb]; rfl⟩
      rw [e] at hR
      obtain ⟨hp2, g2, d2, tk2, os2⟩ := s2
      wp_walk
      exact hR
    | false =>
      rw [hb] at hr tk1
      subst hr
      have hrec := ih (i + 1) (by omega) (by omega) tk1 s2 h2
      obtain ⟨hp2, g2, d2, tk2, os2⟩ := s2
      wp_walk
      rw [hc]
      exact ⟨plainId_quiet plain_contains_loop _, codeAny_builtin entry_contains_loop (by
        rw [Around.under_plainId plain_contains_loop _]
        exact hrec)⟩
theorem has_list {E : Value → Shared → Prop} {Q : Value → Shared → Prop} {l : Addr} {s : Shared} (hl : ∀ s, Iv s → ∃ (its : List Value) (n : Nat), s.heap.get? l = some { cls := .type "list", data := .seq its.toArray n } ∧ its.length = bl.length ∧ ∀ i y, its[i]? = some y → Pi i y) (turn : Turns prog w A.in1 E u Pi bl Iv) (h : Iv s) (yes : ∀ s, Iv s → Q (.bool (bl.any id)) s) :
    wpAny (model prog w) A (call (.builtin "list.__contains__") [.ref l, u]) Q E s := by
  obtain ⟨its, n, hl1, _, _⟩ := hl s h
  refine GQ.call_here PySem.F.slot_list_contains ⟨_, hl1, rfl⟩ PySem.F.entry_list_contains (PySem.F.args_list_contains_2 _ _) ?_
  have hrec := has_loop (A := A) (R := wants Q E) (u := u) hl turn (fun s h => yes s h) _ 0 rfl (Nat.zero_le _) rfl s h
  obtain ⟨hp, g, d, tk, os⟩ := s
  wp_walk
  exact ⟨plainId_quiet plain_contains_loop _, codeAny_builtin entry_contains_loop (by
    rw [Around.under_plainId plain_contains_loop _]
    exact hrec)⟩
theorem has_tuple {E : Value → Shared → Prop} {Q : Value → Shared → Prop} {l : Addr} {its : List Value} {s : Shared} (hlen : its.length = bl.length) (ht : s.heap.IsTuple l its.toArray) (hP : ∀ i y, its[i]? = some y → Pi i y) (turn : Turns prog w A.in1 E u Pi bl Iv) (h : Iv s) (yes : ∀ s, Iv s → Q (.bool (bl.any id)) s) :
    wpAny (model prog w) A (call (.builtin "tuple.__contains__") [.ref l, u]) Q E s := by
  obtain ⟨⟨cls, dd, data, sl⟩, ho, hc, n, hd⟩ := id ht
  simp only at hc hd
  subst hc hd
  refine GQ.call_here PySem.F.slot_tuple_contains ⟨_, ho, rfl⟩ PySem.F.entry_tuple_contains (PySem.F.args_tuple_contains_2 _ _) ?_
  have h0 := h
  obtain ⟨hp, g, d, tk, os⟩ := s
  wp_walk using AutoSeq1.wpAny_loadPart' ho
  show wpAny _ _ (forIn its.toArray ((none, ()) : Option Fin × PUnit) _) _ _ _
  rw [List.forIn_toArray]
  refine wpAny_forIn_list _ (fun rest b s' => b.1 = none ∧ ∃ i, rest = its.drop i ∧ i ≤ its.length ∧ (bl.take i).any id = false ∧ Iv s') _ ?_ ?_ _ _ ⟨rfl, 0, rfl, Nat.zero_le _, rfl, h0⟩
  · rintro y rest b s' ⟨hb', i, hz, hi, ha, hI⟩
    have hlt : i < its.length := by
      rcases Nat.lt_or_ge i its.length with h' | h'
      · exact h'
      · rw [List.drop_of_length_le h'] at hz; cases hz
    have hlt2 : i < bl.length := by omega
    rw [List.drop_eq_getElem_cons hlt] at hz
    injection hz with hy hrest
    subst hy
    have ht := turn i its[i] bl[i] s' (hP _ _ (List.getElem?_eq_getElem hlt)) (List.getElem?_eq_getElem hlt2) hI
    have tk1 : (bl.take (i + 1)).any id = bl[i] := by
      rw [List.take_succ_eq_append_getElem hlt2, List.any_append, ha]
      simp
    refine wpAny_bind (wpAny_mono ht (fun r s2 h2 => ?_) fun _ _ x => x)
    obtain ⟨hr, h2⟩ := h2
    cases hb : bl[i] with
    | true =>
      rw [hb] at hr
      subst hr
      have hR := yes s2 h2
      have e : bl.any id = true := by
        rw [List.any_eq_true]
        exact ⟨_, List.getElem_mem hlt2, by rw [hb]; rfl⟩
      rw [e] at hR
      wp_walk
      exact hR
    | false =>
      rw [hb] at hr tk1
      subst hr
      wp_walk
      exact ⟨rfl, i + 1, hrest, hlt, tk1, h2⟩
  · rintro ⟨b1, b2⟩ s' ⟨hb', i, hz, hi, ha, hI⟩
    simp only at hb'
    subst hb'
    have hge : its.length ≤ i := by
      rcases Nat.lt_or_ge i its.length with h' | h'
      · rw [List.drop_eq_getElem_cons h'] at hz; cases hz
      · exact h'
    have e : bl.any id = false := by
      rw [show i = bl.length by omega, List.take_length] at ha
      exact ha
    have hR := yes s' hI
    rw [e] at hR
    wp_walk
    exact hR
end
section
variable {X : Cx} {C fE : Addr} {fdE : FuncData} {pins : List (Addr × Obj)} {σ : L2.St} {H : Hp} {s : Shared}
theorem eqB_of {prog : Program} {w : World} {A : Around} {E : Value → Shared → Prop} {s : Shared} {u v : Value} {Q : Bool → Shared → Prop} (hne : u ≠ v) (hf : ∀ x t, u ≠ .float x t) (h : wpAny (model prog w) A (richCompare .Eq u v) (fun r s' => ∃ b, r = .bool b ∧ Q b s') E s) : wpAny (model prog w) A (eqBool u v) Q E s := by
  unfold eqBool
  refine wpAny_holding ?_
  refine wpAny_ite_split (fun hab => absurd (eq_of_beq hab) hne) (fun _ => ?_)
  have fin : wpAny (model prog w) A (richCompare .Eq u v >>= fun r => truthOfDropped r) Q E s := wpAny_bind (wpAny_mono h (fun r s' hv => by
    obtain ⟨b, rfl, q⟩ := hv
    exact wpAny_truthy_bool q) fun _ _ x => x)
  cases u <;> first | exact fin | exact absurd rfl (hf _ _)
theorem eqB_any {A : Around} {fI : Addr} (T : TkB X.K C fI) (Z : EqC X.K C fE) (FE : FnOk X.prog X.w X.K X.mg X.base CX0 1 fE fdE ["self", "other"] (spEqv X.K C)) (bE : L2.Binds X.K fdE ["self", "other"] []) (sb : Sub X 1 A) (I : Inv X pins σ H s) {x y : V} {u : Value} {a : Addr} {b : Bool} (rx : RelV x u) (ey : y = .ref a)
    (e : EqR C H x y b) (hne : x ≠ y) : wpAny (model X.prog X.w) A (eqBool u (.ref a)) (fun r s' => r = b ∧ Inv X pins σ H s') X.xe s := by
  subst ey
  refine eqB_of (fun z => ?_) (fun x t z => ?_) (wpAny_mono (eq_any T Z FE bE sb I rx (y := .ref a) rfl e) (fun r s' hr => ?_) fun _ _ x => x)
  · subst z
    cases e with
    | tt h h' _ _ _ _ => exact hne (by cases rx; rfl)
    | tb h h' => exact hne (by cases rx; rfl)
    | bt h h' =>
      cases h' with
      | non => cases rx
      | bl b => cases rx
      | int i => obtain ⟨_, z⟩ := rx; cases z
      | str y => obtain ⟨_, z⟩ := rx; cases z
      | tup hx => exact hne (by cases rx; rfl)
      | lst hx => exact hne (by cases rx; rfl)
      | dK hx => exact hne (by cases rx; rfl)
  · subst z
    cases e with
    | tt h h' _ _ _ _ => cases rx
    | tb h h' => cases rx
    | bt h h' =>
      cases h' with
      | non => cases rx
      | bl b => cases rx
      | int i => obtain ⟨_, z⟩ := rx; cases z
      | str y => obtain ⟨_, z⟩ := rx; cases z
      | tup hx => cases rx
      | lst hx => cases rx
      | dK hx => cases rx
  · obtain ⟨er, I'⟩ := hr
    exact ⟨b, er, rfl, I'⟩
/-- x in y, x a talk, y a list or tuple of things of which each is a talk or a built-in one, and other than x -/
def rInR (K : PySem.W.Frag) (C : Addr) (neg : Bool) : R2 := fun x y H Q => ∃ (a p : Addr) (xs : List V) (bl : List Bool), x = .ref a ∧ y = .ref p ∧ (H p = some (.lst xs) ∨ SqT K H p xs) ∧ xs.length = bl.length ∧
  (∀ (i : Nat) (v : V) (b : Bool), xs[i]? = some v → bl[i]? = some b → EqR C H v (.ref a) b ∧ v ≠ .ref a) ∧ Q (.bl (if neg = true then !(bl.any id) else bl.any id)) H
theorem has_any {A : Around} {fI : Addr} (T : TkB X.K C fI) (Z : EqC X.K C fE) (FE : FnOk X.prog X.w X.K X.mg X.base CX0 1 fE fdE ["self", "other"] (spEqv X.K C)) (bE : L2.Binds X.K fdE ["self", "other"] []) (sb : Sub X 2 A) (I : Inv X pins σ H s) {a p : Addr} {xs : List V} {bl : List Bool} (hq : H p = some (.lst xs) ∨ SqT X.K H p xs) (hlen : xs.length = bl.length)
    (hx : ∀ (i : Nat) (v : V) (b : Bool), xs[i]? = some v → bl[i]? = some b → EqR C H v (.ref a) b ∧ v ≠ .ref a) {Q : Bool → Shared → Prop} (yes : ∀ s', Inv X pins σ H s' → Q (bl.any id) s') : wpAny (model X.prog X.w) A (contains (.ref p) (.ref a)) Q X.xe s := by
  have turn : Turns X.prog X.w A.in1 X.xe (.ref a) (fun i y => ∃ v, xs[i]? = some v ∧ RelV v y) bl (fun s => Inv X pins σ H s) := by
    rintro i y b s' ⟨v, hv, rv⟩ hb I'
    obtain ⟨e, hne⟩ := hx i v b hv hb
    exact eqB_any T Z FE bE sb.in1 I' rv rfl e hne
  have rel : ∀ {its : List Value}, Vals xs its → ∀ (i : Nat) (y : Value), its[i]? = some y → ∃ v, xs[i]? = some v ∧ RelV v y := by
    intro its r i y hy
    have hi : i < xs.length := by
      have := (List.getElem?_eq_some_iff.mp hy).1
      rw [r.length]; exact this
    obtain ⟨u', hu, ru⟩ := r.get (List.getElem?_eq_getElem hi)
    rw [hy] at hu
    cases hu
    exact ⟨_, List.getElem?_eq_getElem hi, ru⟩
  rcases hq with hq | hq
  · have at_ : ∀ s' : Shared, Inv X pins σ H s' → ∃ (its : List Value) (n : Nat), s'.heap.get? p = some { cls := .type "list", data := .seq its.toArray n } ∧ its.length = bl.length ∧ ∀ i y, its[i]? = some y → ∃ v, xs[i]? = some v ∧ RelV v y := fun s' I' => by
      obtain ⟨_, its, n, r, h1⟩ := (show ObjOk X.prog X.w H s'.heap p (.lst xs) from I'.hok p _ hq)
      exact ⟨its, n, h1, by rw [← r.length]; exact hlen, rel r⟩
    obtain ⟨its, n, h1, _, _⟩ := at_ s I
    refine wpAny_contains_slot (T := "list") ⟨_, h1, rfl⟩ PySem.F.slot_list_contains (has_list (Iv := fun s => Inv X pins σ H s) (Pi := fun i y => ∃ v, xs[i]? = some v ∧ RelV v y) at_ turn I fun s' I' => ?_)
    exact wpAny_truthy_bool (yes s' I')
  · obtain ⟨its, r, ht, _⟩ := I.tuple hq
    obtain ⟨o, h1, h2, h3⟩ := id ht
    refine wpAny_contains_slot (T := "tuple") ⟨o, h1, h2⟩ PySem.F.slot_tuple_contains (has_tuple (Iv := fun s => Inv X pins σ H s) (Pi := fun i y => ∃ v, xs[i]? = some v ∧ RelV v y) (by rw [← r.length]; exact hlen) ht (rel r) turn I fun s' I' => ?_)
    exact wpAny_truthy_bool (yes s' I')
theorem op_inR {fI : Addr} (T : TkB X.K C fI) (Z : EqC X.K C fE) (FE : FnOk X.prog X.w X.K X.mg X.base CX0 1 fE fdE ["self", "other"] (spEqv X.K C)) (bE : L2.Binds X.K fdE ["self", "other"] []) (hr : Room 2 X.A) : OpR X (compareOp .In) (rInR X.K C false) := by
  intro pins s σ H x y v u Q I rx ry h
  obtain ⟨a, p, xs, bl, rfl, rfl, hq, hlen, hx, q⟩ := h
  cases rx
  cases ry
  show wpAny _ _ (do return Value.bool (← contains (.ref p) (.ref a))) _ _ s
  exact wpAny_bind (has_any T Z FE bE ⟨hr, rfl⟩ I hq hlen hx fun s' I' => wpAny_pure ⟨.bl _, H, I', rfl, q⟩)
theorem op_notInR {fI : Addr} (T : TkB X.K C fI) (Z : EqC X.K C fE) (FE : FnOk X.prog X.w X.K X.mg X.base CX0 1 fE fdE ["self", "other"] (spEqv X.K C)) (bE : L2.Binds X.K fdE ["self", "other"] []) (hr : Room 2 X.A) : OpR X (compareOp .NotIn) (rInR X.K C true) := by
  intro pins s σ H x y v u Q I rx ry h
  obtain ⟨a, p, xs, bl, rfl, rfl, hq, hlen, hx, q⟩ := h
  cases rx
  cases ry
  show wpAny _ _ (do return Value.bool (!(← contains (.ref p) (.ref a)))) _ _ s
  exact wpAny_bind (has_any T Z FE bE ⟨hr, rfl⟩ I hq hlen hx fun s' I' => wpAny_pure ⟨.bl _, H, I', rfl, q⟩)
end
end Rp

namespace Rp
open PySem PySem.Spec PyProof.Rows L2
/-! ### == of two tuples of one length, item by item -/
section
variable {prog : Program} {w : World} {A : Around} {R : Result → Shared → Prop} {Iv : Shared → Prop} {bl : List Bool}
theorem tup_eqB (l b : Addr) (items items2 : Array Value) (n n2 : Nat) (dd dd2 : Option Addr) (sl sl2 : Array (Option Value)) (hsz : items.size = items2.size) (hlen : items.size = bl.length)
    (turn : ∀ i (h1 : i < items.size) (h2 : i < items2.size) (h3 : i < bl.length) s, Iv s → wpAny (model prog w) A.in1 (eqBool items[i] items2[i]) (fun r s' => r = bl[i] ∧ Iv s') (fun e s' => R (.error e) s') s)
    (fin : ∀ s, Iv s → R (.ok (.ret (.bool (bl.all id)))) s) {s : Shared} (hl1 : s.heap.get? l = some { cls := .type "tuple", dict := dd, data := .seq items n, slots := sl }) (hb1 : s.heap.get? b = some { cls := .type "tuple", dict := dd2, data := .seq items2 n2, slots := sl2 }) (h : Iv s) :
    wpAny (model prog w) A.in1 (Builtin.«tuple.__eq__» ⟨[.ref l, .ref b], []⟩) (GQ.FinOf prog w A R) (fun e s' => R (.error e) s') s := by
  have f2 := AutoSeq1.sub_tuple_tuple
  have hZ : (items.toList.zip items2.toList).length = items.size := by simp [hsz]
  have h0 := h
  obtain ⟨hp, g, d, tk, os⟩ := s
  wp_walk using AutoSeq1.wpAny_loadPart' hl1, AutoSeq1.wpAny_loadPart' hb1, wpAny_forIn_list _ (fun rest b s' => b.1 = none ∧ ∃ i, rest = (items.toList.zip items2.toList).drop i ∧ i ≤ items.size ∧ (bl.take i).all id = true ∧ Iv s') _
  case turn =>
    rintro ⟨y, x⟩ rest b s' ⟨hb', i, hz, hi, ha, hI⟩
    have hlt : i < (items.toList.zip items2.toList).length := by
      rcases Nat.lt_or_ge i (items.toList.zip items2.toList).length with h' | h'
      · exact h'
      · rw [List.drop_of_length_le h'] at hz; cases hz
    have h1 : i < items.size := hZ ▸ hlt
    have h2 : i < items2.size := hsz ▸ h1
    have h3 : i < bl.length := hlen ▸ h1
    rw [List.drop_eq_getElem_cons hlt] at hz
    injection hz with hyx hrest
    have hy : y = items[i] := by have := congrArg Prod.fst hyx; simpa using this
    have hx : x = items2[i] := by have := congrArg Prod.snd hyx; simpa using this
    subst hy hx
    have tk1 : (bl.take (i + 1)).all id = bl[i] := by
      rw [List.take_succ_eq_append_getElem h3, List.all_append, ha]
      simp
    refine wpAny_bind (wpAny_mono (turn i h1 h2 h3 s' hI) (fun r s2 q2 => ?_) fun _ _ x => x)
    obtain ⟨hr, q2⟩ := q2
    cases hbi : bl[i] with
    | true =>
      rw [hbi] at hr tk1
      subst hr
      wp_walk
      exact ⟨rfl, i + 1, hrest, h1, tk1, q2⟩
    | false =>
      rw [hbi] at hr
      subst hr
      have hR := fin s2 q2
      have e : bl.all id = false := by
        rw [List.all_eq_false]
        exact ⟨_, List.getElem_mem h3, by rw [hbi]; simp⟩
      rw [e] at hR
      wp_walk
      exact hR
  case fin =>
    rintro ⟨b1, b2⟩ s' ⟨hb', i, hz, hi, ha, hI⟩
    simp only at hb'
    subst hb'
    have hge : items.size ≤ i := by
      rcases Nat.lt_or_ge i (items.toList.zip items2.toList).length with h' | h'
      · rw [List.drop_eq_getElem_cons h'] at hz; cases hz
      · exact hZ ▸ h'
    have e : bl.all id = true := by
      rw [show i = bl.length by omega, List.take_length] at ha
      exact ha
    have hR : R (.ok (.ret (.bool (bl.all id)))) s' := fin s' hI
    rw [e] at hR
    wp_walk
    simpa [Builtin.Tuple.tupleCompareSizes, hsz] using hR
  case h =>
    exact ⟨rfl, 0, rfl, Nat.zero_le _, rfl, h0⟩
end
section
variable {X : Cx} {C fE : Addr} {fdE : FuncData}
/-- two tuples, each pair of items told -/
def rTupR (K : PySem.W.Frag) (C : Addr) : R2 := fun x y H Q => ∃ (p q : Addr) (xs ys : List V) (bl : List Bool), x = .ref p ∧ y = .ref q ∧ SqT K H p xs ∧ SqT K H q ys ∧ xs.length = bl.length ∧ ys.length = bl.length ∧
  (∀ (i : Nat) (v z : V) (b : Bool), xs[i]? = some v → ys[i]? = some z → bl[i]? = some b → (∃ a, z = .ref a ∧ EqR C H v (.ref a) b ∧ v ≠ .ref a) ∨ (flatV v = true ∧ flatV z = true ∧ eqV v z = b)) ∧ Q (.bl (bl.all id)) H
theorem op_eqTup {fI : Addr} (T : TkB X.K C fI) (Z : EqC X.K C fE) (FE : FnOk X.prog X.w X.K X.mg X.base CX0 1 fE fdE ["self", "other"] (spEqv X.K C)) (bE : L2.Binds X.K fdE ["self", "other"] []) (hr : Room 2 X.A) : OpR X (compareOp .Eq) (rTupR X.K C) := by
  intro pins s σ H x y v u Q I rx ry h
  obtain ⟨p, q, xs, ys, bl, rfl, rfl, hp, hq, l1, l2, hx, want⟩ := h
  cases rx
  cases ry
  obtain ⟨its, r1, t1, _⟩ := I.tuple hp
  obtain ⟨its2, r2, t2, _⟩ := I.tuple hq
  obtain ⟨⟨cls, dd, data, sl⟩, ho, hc, n, hd⟩ := id t1
  obtain ⟨⟨cls2, dd2, data2, sl2⟩, ho2, hc2, n2, hd2⟩ := id t2
  simp only at hc hd hc2 hd2
  subst hc hd hc2 hd2
  have e1 : its.length = bl.length := by rw [← r1.length]; exact l1
  have e2 : its2.length = bl.length := by rw [← r2.length]; exact l2
  show wpAny (model X.prog X.w) X.A (richCompare .Eq (.ref p) (.ref q)) (EP X pins σ Q) X.xe s
  refine wpAny_richCompare_same_room (op := .Eq) ⟨_, ho, rfl⟩ ⟨_, ho2, rfl⟩ PySem.F.slot_tuple_eq (GQ.call_here PySem.F.slot_tuple_eq ⟨_, ho, rfl⟩ PySem.F.entry_tuple_eq (PySem.F.args_tuple_eq_2 _ _) ?_) hr.units0
  refine tup_eqB (R := wants (fun v s' => v ≠ .notImplemented ∧ EP X pins σ Q v s') X.xe) (Iv := fun s => Inv X pins σ H s) p q its.toArray its2.toArray n n2 dd dd2 sl sl2 (by simp [e1, e2]) (by simp [e1]) (fun i h1 h2 h3 s' I' => ?_) (fun s' I' => ⟨(fun z => nomatch z), .bl _, H, I', rfl, want⟩) ho ho2 I
  have i1 : i < its.length := by simpa using h1
  have i2 : i < its2.length := by simpa using h2
  obtain ⟨u1, hu1, ru1⟩ := r1.get (List.getElem?_eq_getElem (show i < xs.length by omega))
  obtain ⟨u2, hu2, ru2⟩ := r2.get (List.getElem?_eq_getElem (show i < ys.length by omega))
  have g1 : its.toArray[i] = u1 := by
    have := List.getElem?_eq_getElem i1
    rw [this] at hu1
    simpa using Option.some.inj hu1
  have g2 : its2.toArray[i] = u2 := by
    have := List.getElem?_eq_getElem i2
    rw [this] at hu2
    simpa using Option.some.inj hu2
  rw [g1, g2]
  rcases hx i _ _ _ (List.getElem?_eq_getElem (show i < xs.length by omega)) (List.getElem?_eq_getElem (show i < ys.length by omega)) (List.getElem?_eq_getElem h3) with ⟨a, ez, e, hne⟩ | ⟨f1, f2, e⟩
  · rw [ez] at ru2
    cases ru2
    exact eqB_any T Z FE bE (Sub.in1 ⟨hr, rfl⟩) I' ru1 rfl e hne
  · have q := eqAt_V (A := X.A.in1) (s := s') ru1 ru2 f1 f2
    rw [e] at q
    exact q X.prog X.w X.xe _ ⟨rfl, I'⟩
end
end Rp

namespace Rp
open PySem PySem.Spec PyProof.Rows L2
/-! ### ranges, sums -/
section
variable {X : Cx}
/-- range(n), as a value -/
theorem call_range1 : CallR X (.type "range") (fun vs H Q => ∃ n : Int, vs = [V.int n] ∧ ∀ p, H p = none → Q (.ref p) (upd H p (.rng 0 n))) := by
  intro pins s σ H vs us Q I r h
  obtain ⟨n, rfl, q⟩ := h
  cases r with
  | cons r1 rr =>
    cases rr
    obtain ⟨t, rfl⟩ := r1
    refine call_range_1 ⟨.ref s.heap.objs.size, upd H s.heap.objs.size (.rng 0 n), I.laid (a := s.heap.objs.size) (o := .rng 0 n) (fun b o e => Heap.get?_push_of_some _ e) (Nat.le_refl _) ?_, rfl, q _ (I.hok.fresh (Nat.le_refl _))⟩
    exact ⟨_, _, _, Heap.get?_push_size _ rfl⟩
/-- len of a range -/
theorem call_lenRng : CallR X (.builtin "len") (fun vs H Q => ∃ (a : Addr) (n : Nat), vs = [V.ref a] ∧ H a = some (.rng 0 n) ∧ n < 2 ^ 62 ∧ Q (.int n) H) := by
  intro pins s σ H vs us Q I r h
  obtain ⟨a, n, rfl, ha, hn, q⟩ := h
  cases r with
  | cons r1 rr =>
    cases rr
    cases r1
    obtain ⟨t1, t2, t3, ho⟩ := I.hok a _ ha
    refine call_len_range (n := n) ho ?_ (by omega) ⟨.int n, H, I.tok _, ⟨_, rfl⟩, q⟩
    unfold Builtin.Range.rangeSize
    simp
    try omega
/-- sum of a tuple of whole numbers -/
theorem call_sumT (hc : X.calm = true) : CallR X (.builtin "sum") (fun vs H Q => ∃ (a : Addr) (ns : List Int), vs = [V.ref a] ∧ SqT X.K H a (ns.map V.int) ∧ Q (.int ns.sum) H) := by
  intro pins s σ H vs us Q I r h
  obtain ⟨a, ns, rfl, ha, q⟩ := h
  cases r with
  | cons r1 rr =>
    cases rr
    cases r1
    obtain ⟨its, rv, hl, _⟩ := I.tuple ha
    have hi := rv.ints
    obtain ⟨xs, hx⟩ := hi.allInts.items
    have hn : numsOf its.toArray.toList = ns := by rw [show its.toArray.toList = its from rfl, hi.numsOf]
    rw [hx] at hl hn
    rw [nums_intItems] at hn
    refine PySem.W.ktm_sumG (I.ok.hd hc) hl fun h' tk t' hk => ?_
    rw [preSum_eq, List.take_of_length_le (by simp), hn]
    exact ⟨.int ns.sum, H, I.kept hk, ⟨_, rfl⟩, q⟩
end
/-! ### len(x), x's own __len__ -/
section
variable {X : Cx} {CX : CXT} {k : Nat} {f C : Addr} {fd : FuncData} {ps : List Str} {sp : Sp} {E : XK}
def rLenI (C : Addr) (sp : Sp) (E : XK) : List V → Hp → VK → Prop := fun xs H Q => ∃ (a dx : Addr) (fs : List (Str × V)), xs = [.ref a] ∧ H a = some (.ins C dx fs) ∧ sp [.ref a] H (fun v H' => ∃ n : Nat, v = .int n ∧ n < 2 ^ 62 ∧ Q (.int n) H') E
theorem call_lenI (F : FnOk X.prog X.w X.K X.mg X.base CX k f fd ps sp) (hs : PySem.W.findIn X.K (.ref C) "__len__" = some (some (.ref f))) (hf : PySem.W.isFn X.K (.ref f) = true) (hb : L2.Binds X.K fd ps []) (hx : Passes CX X E) (hr : Room (k + 1) X.A) :
    CallR X (.builtin "len") (rLenI C sp E) := by
  intro pins s σ H vs us Q I r h
  obtain ⟨a, dx, fs, rfl, ha, hsp⟩ := h
  cases r with
  | cons r1 rr =>
    cases rr
    cases r1
    obtain ⟨mA, J, _⟩ := ins_get I.hok ha
    obtain ⟨od, J, _⟩ := J.look
    obtain ⟨m, hF⟩ := I.fr
    have e0 : Env0 X.prog X.w X.K X.mg X.base X.A.in1 X.stack s H := by
      have e := I.env0
      exact ⟨e.frames, e.mod, e.bs, e.bsz, e.funs, e.frf, e.hok, e.bare⟩
    have hl := F.len _ _ _ _ hsp
    refine PySem.W.len_K hF I.ok.mod.kin J hs hf (wpAny_call (codeAny_mono (F.run X.A.in1 X.stack s H ⟨[.ref a], []⟩ [.ref a] [.ref a] _ E hr.in1 e0 (by
      have := hb s [.ref a] I.kIn (by simpa using hl)
      simpa using this) (.cons rfl .nil) hsp) fun r s' hq => ?_))
    cases r with
    | error e => exact hx pins σ H s e s' I hq
    | ok fl =>
      cases fl with
      | ret w =>
        obtain ⟨z, H', I', rz, n, ez, hn, q⟩ := I.after hq
        subst ez
        obtain ⟨t, rfl⟩ := rz
        show PySem.W.LenBack _ _ _
        exact ⟨⟨by omega, by omega⟩, .int n, H', I'.tok _, ⟨_, rfl⟩, q⟩
      | next => exact False.elim hq
      | brk => exact False.elim hq
      | cont => exact False.elim hq
end
/-! ### a def that may be called while an error is handled, too; nothing is being shown around it -/
structure RoomA (k : Nat) (A : Around) : Prop where
  dp : A.depth + 3 * k + 5 < recursionLimit
  un : A.units + 16 * k + 200 < cLine
theorem RoomA.of {k : Nat} {A : Around} (r : Room k A) : RoomA k A := ⟨r.dp, r.un⟩
structure FnA (P : Program) (w : World) (K : PySem.W.Frag) (mg : Str → Option Value) (base : Heap) (CX : CXT) (k : Nat) (f : Addr) (fd : FuncData) (ps : List Str) (sp : Sp) : Prop where
  len : ∀ vs H Q E, sp vs H Q E → vs.length = ps.length
  go : ∀ (A : Around) (outer : List Env) (s : Shared) (H : Hp) (args : Args) (us : List Value) (vs : List V) (Q : VK) (E : XK), A.guards = some [] → RoomA k A → Env0 P w K mg base A outer s H →
    BindsTo s fd args (ps.zip us) → Vals vs us → sp vs H Q E → codeAny (model P w) A (.call (.ref f) args) (CR CX outer P w H s Q E) s
/-- the body's context -/
def cxA (CX : CXT) (P : Program) (w : World) (K : PySem.W.Frag) (mg : Str → Option Value) (base : Heap) (N : List Str) (qual : Str) (scope : Scope) (f : Addr) (cd : Value) (A : Around) (outer : List Env) (s : Shared) (H : Hp) (E : XK) : Cx :=
  { cxOf CX P w K mg base N qual scope f cd A outer s H E with calm := false }
section
variable {P : Program} {w : World} {K : PySem.W.Frag} {mg : Str → Option Value} {base : Heap} {CX : CXT}
theorem startA {N ps : List Str} {qual : Str} {scope : Scope} {f : Addr} {cd : Value} {A : Around} {outer : List Env} {s s1 : Shared} {H : Hp} {E : XK} {us : List Value} {vs : List V}
    (S : FnScope N ps scope) (e0 : Env0 P w K mg base A outer s H) (hl : vs.length = ps.length) (r : Vals vs us)
    (x : InCallC s s.heap.objs.size (bindL (envOfC qual scope s.heap.objs.size f cd).kindOf (ps.zip us) fun _ => none) (cellsFrom (s.heap.objs.size + 1) scope.names []) (bindC (envOfC qual scope s.heap.objs.size f cd).kindOf (ps.zip us) fun _ => none) s1) :
    Inv (cxA CX P w K mg base N qual scope f cd A outer s H E) [] (start N vs) H s1 := by
  have I := inv_start (CX := CX) (A := { A with handled := none }) (E := E) S rfl (⟨e0.frames, e0.mod, e0.bs, e0.bsz, e0.funs, e0.frf, e0.hok, e0.bare⟩ : Env0 P w K mg base { A with handled := none } outer s H) hl r x
  have o := I.ok
  exact ⟨⟨o.mod, o.kind, o.glob, o.blt, o.above, o.inj, o.has, o.cab, (fun z => Bool.noConfusion (show false = true from z)), o.frames, o.stk, o.exf, o.bs, o.bsz, o.noex, o.exfs, o.funs, o.frf⟩, I.os, I.bare, I.base, I.loc, I.cell, I.free, I.freeC, I.pin, I.hok, I.len⟩
theorem okA {x qual : Str} {st : Stmt} {f : Addr} {fd : FuncData} {N ps : List Str} {k : Nat} {sp : Sp} (F : Fun K x qual st f fd) (S : FnScope N ps (defScope st)) (len : ∀ vs H Q E, sp vs H Q E → vs.length = ps.length)
    (hb : ∀ (cdv : Value) (A : Around) (outer : List Env) (s : Shared) (H : Hp) (vs : List V) (Q : VK) (E : XK), (A.deeper (envOfC qual (defScope st) s.heap.objs.size f cdv)).guards = some [] → (A.deeper (envOfC qual (defScope st) s.heap.objs.size f cdv)).units + 200 < cLine → sp vs H Q E →
      ∃ t, PSs (cxA CX P w K mg base N qual (defScope st) f cdv A outer s H E) (defBody st) t ∧ t { nx := fun _ H' => Q .non H', rt := Q } (start N vs) H) : FnA P w K mg base CX (k + 1) f fd ps sp := by
  obtain ⟨oc, od, kV, doc, pm, an, cdv, ct, osl, rfl, lk, hcd⟩ := F.ex
  refine ⟨len, fun A outer s H args us vs Q E gA room en bi rel want => ?_⟩
  have kept : ∀ b o, base.get? b = some o → s.heap.get? b = some o := fun b o e => (en.bs b o e).1
  have inK : K.In s.heap := en.mod.kin.keeps kept
  refine codeAny_call_function (by have := room.dp; omega) (inK _ _ lk) rfl S.co S.gen rfl (PySem.W.codeRec_of inK hcd) (bi _ _ _ _ ?_)
  refine wpAny_newFunctionEnv_cells S.kind (fun y hy => ?_) fun env he s1 made => ?_
  · rcases S.par y.1 (List.of_mem_zip (show (y.1, y.2) ∈ ps.zip us from hy)).1 with q | q
    · exact .inl q
    · exact .inr ⟨q, PySem.W.cellsFrom_some _ _ _ (.inl q)⟩
  subst he
  refine ⟨(en.mod.nolimit.keeps kept).keeps made.toInCall.keep, codeAny_func ?_⟩
  obtain ⟨t, body, reads⟩ := hb cdv A outer s H vs Q E (deeper_guards gA) (by have := room.un; show A.units + 3 + 200 < _; omega) want
  refine wpAny_mono (body.run [] s1 (start N vs) H _ (startA S en (len _ _ _ _ want) rel made) reads) (fun fl s' hs => ?_) fun e s' hs => hs
  cases fl with
  | ret u =>
    obtain ⟨v, σ', H', J, rv, q⟩ := hs
    exact ⟨v, H', J.os, J.bare, J.base, J.hok, rv, q⟩
  | next =>
    obtain ⟨σ', H', J, q⟩ := hs
    exact ⟨V.non, H', J.os, J.bare, J.base, J.hok, rfl, q⟩
  | brk => exact absurd hs (fun ⟨_, _, _, z⟩ => (z : False))
  | cont => exact absurd hs (fun ⟨_, _, _, z⟩ => (z : False))
end
/-! ### repr(x), {x!r} -/
section
variable {X : Cx} {CX : CXT} {k : Nat} {f C : Addr} {fd : FuncData} {ps : List Str} {sp : Sp} {E : XK}
/-- {x!r} of small data -/
def tFmtRD (K : PySem.W.Frag) (te : TE) : TE := fun σ H Q => te σ H fun x H1 => ∃ (a : Addr) (d : PyData), x = .ref a ∧ Dp K H1 x d ∧ Shw d ∧ Q (.str d.shown) H1
theorem pe_fmtRD {e : Expr} {te : TE} {pos : Pos} (gA : X.A.guards = some []) (hu : X.A.units + 64 < cLine) (he : PE X e te) : PE X (.FormattedValue e 114 none pos) (tFmtRD X.K te) := by
  refine ⟨fun pins s σ H Q I h => ?_⟩
  refine wpAny_FormattedValue_repr (thn (he.run pins s σ H _ I h) fun v s1 hv => ?_)
  obtain ⟨x, H1, I1, r1, a, d, rfl, hd, hw, q⟩ := hv
  obtain ⟨as, rd⟩ := Dp.reads I1 d (.ref a) _ hd r1
  cases r1
  have dp := hw.dp
  refine pyReprObj_of_reads rd hw.sh (PyData.noDict_hsm hw.nd) gA (by omega) (fun _ _ z => z) (fun h' u tk kp => ?_) hw.sz
  exact wpAny_formatField_str ⟨.str d.shown, H1, I1.kept kp, ⟨_, rfl⟩, q⟩ ⟨.str d.shown, H1, (I1.kept (t' := tk) kp).tok _, ⟨_, rfl⟩, q⟩ hw.sz
def rReprI (C : Addr) (sp : Sp) (E : XK) : List V → Hp → VK → Prop := fun xs H Q => ∃ (a dx : Addr) (fs : List (Str × V)), xs = [.ref a] ∧ H a = some (.ins C dx fs) ∧ sp [.ref a] H (fun v H' => ∃ t : Str, v = .str t ∧ Q (.str t) H') E
theorem call_reprI (F : FnA X.prog X.w X.K X.mg X.base CX k f fd ps sp) (hs : PySem.W.findIn X.K (.ref C) "__repr__" = some (some (.ref f))) (hf : PySem.W.isFn X.K (.ref f) = true) (hb : L2.Binds X.K fd ps []) (hx : Passes CX X E) (gA : X.A.guards = some []) (hr : RoomA (k + 1) X.A) :
    CallR X (.builtin "repr") (rReprI C sp E) := by
  intro pins s σ H vs us Q I r h
  obtain ⟨a, dx, fs, rfl, ha, hsp⟩ := h
  cases r with
  | cons r1 rr =>
    cases rr
    cases r1
    obtain ⟨mA, J, _⟩ := ins_get I.hok ha
    obtain ⟨od, J, _⟩ := J.look
    obtain ⟨m, hF⟩ := I.fr
    have e0 : Env0 X.prog X.w X.K X.mg X.base X.A.in1 X.stack s H := by
      have e := I.env0
      exact ⟨e.frames, e.mod, e.bs, e.bsz, e.funs, e.frf, e.hok, e.bare⟩
    have hl := F.len _ _ _ _ hsp
    have d1 := hr.dp
    have u1 := hr.un
    refine PySem.W.repr_K (by show X.A.units + 1 < _; omega) hF I.ok.mod.kin J hs hf (wpAny_call (codeAny_mono (F.go X.A.in1 X.stack s H ⟨[.ref a], []⟩ [.ref a] [.ref a] _ E gA ⟨by show X.A.depth + 3 * k + 5 < _; omega, by show X.A.units + 1 + 16 * k + 200 < _; omega⟩ e0 (by
      have := hb s [.ref a] I.kIn (by simpa using hl)
      simpa using this) (.cons rfl .nil) hsp) fun r s' hq => ?_))
    cases r with
    | error e => exact hx pins σ H s e s' I hq
    | ok fl =>
      cases fl with
      | ret w =>
        obtain ⟨z, H', I', rz, t, ez, q⟩ := I.after hq
        subst ez
        obtain ⟨tk, rfl⟩ := rz
        show PySem.W.StrBack _ _ _
        exact ⟨.str t, H', I', ⟨_, rfl⟩, q⟩
      | next => exact False.elim hq
      | brk => exact False.elim hq
      | cont => exact False.elim hq
/-- a dict of small numbers -/
def DkAt (H : Hp) (v : V) (d : PyData) : Prop := ∃ (a : Addr) (ns : List (Int × Int)), v = .ref a ∧ H a = some (.dK (ns.map fun p => (Sum.inl p.1, V.int p.2))) ∧ d = .dict (ns.map fun p => (.int p.1, .int p.2))
theorem dk_pairs {h : Heap} : ∀ {ns : List (Int × Int)} {vs : List (Key × Value)}, KV (ns.map fun p => ((Sum.inl p.1 : Key), V.int p.2)) vs → ∃ bs, PyProof.V.PairsRead h (fun k : Key => match k with | .inl i => PyData.int i | .inr x => PyData.str x) vs (ns.map fun p => (.int p.1, .int p.2)) bs
  | [], _, r => by
    cases r
    exact ⟨_, .nil⟩
  | p :: ns, _, r => by
    cases r with
    | @cons _ q _ qs e t =>
      obtain ⟨qk, qv⟩ := q
      obtain ⟨e1, tk, e2⟩ := e
      obtain ⟨bs, ih⟩ := dk_pairs (h := h) t
      simp only at e1 e2
      subst e1 e2
      exact ⟨_, .cons (.int _ _) ih⟩
theorem dk_reads {pins : List (Addr × Obj)} {σ : L2.St} {H : Hp} {s : Shared} {v : V} {d : PyData} {u : Value} (I : Inv X pins σ H s) (h : DkAt H v d) (r : RelV v u) : ∃ a as, u = .ref a ∧ Reads s.heap (.ref a) d as ∧ sysModules ∉ as := by
  obtain ⟨a, ns, rfl, ha, rfl⟩ := h
  cases r
  obtain ⟨_, hne, vs, rel, dd⟩ := I.hok a _ ha
  obtain ⟨bs, pr⟩ := dk_pairs (h := s.heap) rel
  have nb : bs = [] := by
    clear dd rel
    generalize hD : (ns.map fun p => (PyData.int p.1, PyData.int p.2)) = D at pr
    have : ∀ {kvs : List (Key × Value)} {D : List (PyData × PyData)} {bs : List Addr} {ns : List (Int × Int)}, (ns.map fun p => (PyData.int p.1, PyData.int p.2)) = D → PyProof.V.PairsRead s.heap (fun k : Key => match k with | .inl i => PyData.int i | .inr x => PyData.str x) kvs D bs → bs = [] := by
      intro kvs D bs ns e p
      induction p generalizing ns with
      | nil => rfl
      | @cons k' v' d' as kvs D bs r _ ih =>
        cases ns with
        | nil => cases e
        | cons n ns =>
          injection e with e1 e2
          injection e1 with _ e3
          subst e3
          cases r
          rw [ih e2]
          rfl
    exact this hD pr
  subst nb
  refine ⟨a, [a], rfl, PyProof.V.reads_dictOf (fun k key hk => ?_) dd pr, fun z => ?_⟩
  · rcases keyIs_shape hk with ⟨i, t, rfl, rfl⟩ | ⟨x, t, rfl, rfl⟩
    · exact .int _ _
    · exact .str _ _
  · rw [List.mem_singleton.mp z] at hne
    simp at hne
end
end Rp

namespace Rp
open PySem PySem.Spec PyProof.Rows L2
open PySem.W PySem.Builtin PySem.Builtin.Str in
theorem str_own {prog : Program} {w : World} {A : Around} {E : Value → Shared → Prop} {s : Shared} {K : Frag} {x C f : Addr} {ox : Obj} {od : Option Obj} {Q : Value → Shared → Prop} (hu : A.in1.in1.units < cLine) (X : K.In s.heap) (I : InstAt s.heap x ox C od) (hs : findIn K (.ref C) "__str__" = some (some (.ref f))) (hf : isFn K (.ref f) = true)
    (h : wpAny (model prog w) A.in1.in1 (call (.ref f) [.ref x]) (StrBack Q) E s) : wpAny (model prog w) A (call (.type "str") [.ref x]) Q E s := by
  refine callType_codes (T := "str") (Bi := Builtin.«object.__init__») (Q₁ := fun r s₁ => ∃ y u, r = .str y u ∧ Q r s₁) PySem.F.called_str (PySem.F.typeCall_str_1 _) PySem.F.entry_object_init ?_ ?_
  · refine codeAny_of_tree ?_
    show wpAny _ A.in1.in1 (do checkBuiltinCall "str.__new__" ⟨[.type "str", .ref x], []⟩; again (.builtin "str.__new__" ⟨[.type "str", .ref x], []⟩)) _ _ s
    refine wpAny_bind (wpAny_of_eq (PySem.F.newCall_str_1 _) (wpAny_pure ⟨plainId_quiet (by decide +kernel) _, codeAny_builtin PySem.F.entry_str_new ?_⟩))
    rw [Around.under_plainId (by decide +kernel) _]
    rw [str_new_tree]
    refine wpAny_bind (wpAny_pure ?_)
    refine wpAny_bind (wpAny_of_eq isSubtype_str_str ?_)
    have key : wpAny (model prog w) A.in1.in1 (PySem.Builtin.Str.strOf (.ref x)) (fun r s₁ => ∃ y u, r = .str y u ∧ Q r s₁) E s := by
      unfold PySem.Builtin.Str.strOf
      rw [show isExactStr (.ref x) = false from rfl]
      refine wpAny_bind (m := cRoomFor _ _) (wpAny_cRoomFor hu ?_)
      refine wpAny_bind (m := callSpecial? (.ref x) (Str.ofString "__str__")) (special_fn X I hs (beq_iff_eq.mp hf) (wpAny_mono h (fun r s' z => ?_) fun _ _ y => y))
      cases r <;> first | exact z.elim | exact wpAny_pure ⟨_, _, rfl, z⟩
    exact wpAny_bind (wpAny_mono key (fun r s₁ hr => wpAny_pure hr) fun _ _ y => y)
  · rintro obj s₁ ⟨y, u, rfl, hq⟩
    exact ⟨typeIs_str _ _ _, PySem.F.args_object_init_2 _ _, object_init_meets PySem.F.called_str.init.lookup PySem.F.called_str.made (by decide) prog w A.in1 _ s₁ ⟨typeIs_str _ _ _, rfl, hq⟩⟩
/-! ### {x}, x with an own __str__; str of data -/
section
variable {X : Cx} {CX : CXT} {k : Nat} {f C : Addr} {fd : FuncData} {ps : List Str} {sp : Sp} {E : XK}
/-- {x} of an instance -/
def tFmtI (C : Addr) (sp : Sp) (E : XK) (te : TE) : TE := fun σ H Q => te σ H fun x H1 => ∃ (a dx : Addr) (fs : List (Str × V)), x = .ref a ∧ H1 a = some (.ins C dx fs) ∧ sp [.ref a] H1 (fun v H' => ∃ t : Str, v = .str t ∧ Q (.str t) H') E
theorem pe_fmtI {e : Expr} {te : TE} {pos : Pos} (F : FnOk X.prog X.w X.K X.mg X.base CX k f fd ps sp) (hs : PySem.W.findIn X.K (.ref C) "__str__" = some (some (.ref f))) (hf : PySem.W.isFn X.K (.ref f) = true) (hfm : PySem.W.findIn X.K (.ref C) "__format__" = some (some (.builtin "object.__format__"))) (hm : PySem.W.mroIn X.K C (.type "object") = some true)
    (hb : L2.Binds X.K fd ps []) (hx : Passes CX X E) (hr : Room (k + 1) X.A) (he : PE X e te) : PE X (.FormattedValue e (-1) none pos) (tFmtI C sp E te) := by
  refine ⟨fun pins s σ H Q I h => ?_⟩
  refine wpAny_FormattedValue_plain (thn (he.run pins s σ H _ I h) fun v s1 hv => ?_)
  obtain ⟨x, H1, I1, r1, a, dx, fs, rfl, ha, hsp⟩ := hv
  cases r1
  obtain ⟨mA, J, _⟩ := ins_get I1.hok ha
  obtain ⟨od, J, _⟩ := J.look
  have un := hr.un
  have hl := F.len _ _ _ _ hsp
  have I2 : Inv X pins σ H1 { s1 with toks := s1.toks + 1 } := I1.tok _
  refine PySem.W.kfo_fieldS (by show X.A.units + 1 < _; omega) I1.kIn J hfm hm hs hf (wpAny_call (codeAny_mono (F.run X.A.in1 X.stack { s1 with toks := s1.toks + 1 } H1 ⟨[.ref a], []⟩ [.ref a] [.ref a] _ E hr.in1 (by
    have e := I2.env0
    exact ⟨e.frames, e.mod, e.bs, e.bsz, e.funs, e.frf, e.hok, e.bare⟩) (by
    have := hb { s1 with toks := s1.toks + 1 } [.ref a] I2.kIn (by simpa using hl)
    simpa using this) (.cons rfl .nil) hsp) fun r s' hq => ?_))
  cases r with
  | error e => exact hx pins σ H1 { s1 with toks := s1.toks + 1 } e s' I2 hq
  | ok fl =>
    cases fl with
    | ret w =>
      obtain ⟨z, H', I', rz, t, ez, q⟩ := I2.after hq
      subst ez
      obtain ⟨tk, rfl⟩ := rz
      exact ⟨.str t, H', I', ⟨_, rfl⟩, q⟩
    | next => exact False.elim hq
    | brk => exact False.elim hq
    | cont => exact False.elim hq
/-- str(x) of small data -/
theorem call_strD (gA : X.A.guards = some []) (hu : X.A.units + 64 < cLine) : CallR X (.type "str") (fun xs H Q => ∃ a d, xs = [.ref a] ∧ Dp X.K H (.ref a) d ∧ Shw d ∧ Q (.str d.shown) H) := by
  intro pins s σ H xs us Q I r h
  obtain ⟨a, d, rfl, hd, hw, q⟩ := h
  cases r with
  | cons rx rn =>
    cases rn
    have dp := hw.dp
    obtain ⟨as, rd⟩ := Dp.reads I d (.ref a) _ hd rx
    cases rx
    exact str_of_reads rd hw.sh (PyData.noDict_hsm hw.nd) gA (by omega) (fun _ _ z => z) (fun h' u tk kp => ⟨.str _, H, I.kept kp, ⟨_, rfl⟩, q⟩) hw.sz
def rStrI (C : Addr) (sp : Sp) (E : XK) : List V → Hp → VK → Prop := fun xs H Q => ∃ (a dx : Addr) (fs : List (Str × V)), xs = [.ref a] ∧ H a = some (.ins C dx fs) ∧ sp [.ref a] H (fun v H' => ∃ t : Str, v = .str t ∧ Q (.str t) H') E
theorem call_strI (F : FnOk X.prog X.w X.K X.mg X.base CX k f fd ps sp) (hs : PySem.W.findIn X.K (.ref C) "__str__" = some (some (.ref f))) (hf : PySem.W.isFn X.K (.ref f) = true) (hb : L2.Binds X.K fd ps []) (hx : Passes CX X E) (hr : Room (k + 2) X.A) :
    CallR X (.type "str") (rStrI C sp E) := by
  intro pins s σ H vs us Q I r h
  obtain ⟨a, dx, fs, rfl, ha, hsp⟩ := h
  cases r with
  | cons r1 rr =>
    cases rr
    cases r1
    obtain ⟨mA, J, _⟩ := ins_get I.hok ha
    obtain ⟨od, J, _⟩ := J.look
    have e0 : Env0 X.prog X.w X.K X.mg X.base X.A.in1.in1 X.stack s H := by
      have e := I.env0
      exact ⟨e.frames, e.mod, e.bs, e.bsz, e.funs, e.frf, e.hok, e.bare⟩
    have hl := F.len _ _ _ _ hsp
    have un := hr.un
    refine str_own (by show X.A.units + 1 + 1 < _; omega) I.kIn J hs hf (wpAny_call (codeAny_mono (F.run X.A.in1.in1 X.stack s H ⟨[.ref a], []⟩ [.ref a] [.ref a] _ E hr.in1.in1 e0 (by
      have := hb s [.ref a] I.kIn (by simpa using hl)
      simpa using this) (.cons rfl .nil) hsp) fun r s' hq => ?_))
    cases r with
    | error e => exact hx pins σ H s e s' I hq
    | ok fl =>
      cases fl with
      | ret w =>
        obtain ⟨z, H', I', rz, t, ez, q⟩ := I.after hq
        subst ez
        obtain ⟨tk, rfl⟩ := rz
        show PySem.W.StrBack _ _ _
        exact ⟨.str t, H', I', ⟨_, rfl⟩, q⟩
      | next => exact False.elim hq
      | brk => exact False.elim hq
      | cont => exact False.elim hq
end
end Rp

namespace Rp
open PySem PySem.Spec PyProof.Rows L2
abbrev sLen : Stmt := inClass (topS 2) 1
theorem scLen : FnScope ["self"] ["self"] (defScope sLen) := ⟨rfl, rfl, rfl, by decide +kernel, rfl, by decide +kernel, by decide +kernel⟩
def natI (ns : List Nat) : List Int := ns.map fun n : Nat => (n : Int)
theorem natI_sum : ∀ ns : List Nat, (natI ns).sum = (ns.sum : Nat)
  | [] => rfl
  | n :: ns => by
    have ih := natI_sum ns
    unfold natI at *
    rw [List.map_cons, List.sum_cons, List.sum_cons, ih]
    omega
theorem natI_len (ns : List Nat) : (natI ns).length = ns.length := by unfold natI; rw [List.length_map]
theorem natI_get {ns : List Nat} {i : Nat} {l : Nat} (h : ns[i]? = some l) : ((natI ns).map V.int)[i]? = some (.int l) := by
  unfold natI
  rw [List.getElem?_map, List.getElem?_map, h]
  rfl
theorem nat_of {k : Int} {ls : List Int} (h : ∀ l ∈ ls, 1 ≤ l ∧ l ≤ k) : ∃ ns : List Nat, ls = natI ns ∧ ∀ n ∈ ns, 1 ≤ n ∧ (n : Int) ≤ k := by
  induction ls with
  | nil => exact ⟨[], rfl, fun _ z => nomatch z⟩
  | cons l ls ih =>
    obtain ⟨ns, e1, e3⟩ := ih fun x hx => h x (List.mem_cons_of_mem _ hx)
    obtain ⟨h1, h2⟩ := h l List.mem_cons_self
    refine ⟨l.toNat :: ns, ?_, fun n hn => ?_⟩
    · rw [e1]
      show l :: natI ns = ((l.toNat : Nat) : Int) :: natI ns
      rw [show ((l.toNat : Nat) : Int) = l by omega]
    · rcases List.mem_cons.mp hn with rfl | hn
      · omega
      · exact e3 n hn
/-- a talk's numbers -/
structure TxOk (r : Nat) (ns : List Nat) (bss : List (List Nat)) : Prop where
  same : ns.length = bss.length
  pos : 1 ≤ ns.length
  most : ns.length ≤ 12
  r1 : 1 ≤ r
  r4 : r ≤ 4
  ns : ∀ n ∈ ns, 1 ≤ n ∧ n ≤ 20
  bs : ∀ row ∈ bss, row.length = r ∧ ∀ b ∈ row, 1 ≤ b ∧ b ≤ 1000
def natR (bss : List (List Nat)) : List (List Int) := bss.map natI
theorem rows_of {r : Nat} {bs : List (List Int)} (h : ∀ row ∈ bs, RowOk r row) : ∃ bss : List (List Nat), bs = natR bss ∧ ∀ row ∈ bss, row.length = r ∧ ∀ b ∈ row, 1 ≤ b ∧ b ≤ 1000 := by
  induction bs with
  | nil => exact ⟨[], rfl, fun _ z => nomatch z⟩
  | cons row bs ih =>
    obtain ⟨bss, e1, e2⟩ := ih fun x hx => h x (List.mem_cons_of_mem _ hx)
    obtain ⟨h1, h2⟩ := h row List.mem_cons_self
    obtain ⟨ns, e3, e4⟩ := nat_of h2
    refine ⟨ns :: bss, by rw [e1, e3]; rfl, fun x hx => ?_⟩
    rcases List.mem_cons.mp hx with rfl | hx
    · refine ⟨by rw [← h1, e3, natI_len], fun b hb => ?_⟩
      have := e4 b hb
      omega
    · exact e2 x hx
theorem Fine.tx {ls : List Int} {bs : List (List Int)} (f : Fine ls bs) : ∃ r ns bss, ls = natI ns ∧ bs = natR bss ∧ TxOk r ns bss := by
  obtain ⟨r, h1, h4, hb⟩ := f.bs
  obtain ⟨ns, e1, e2⟩ := nat_of f.ls
  obtain ⟨bss, e3, e4⟩ := rows_of hb
  have s := f.same
  have p := f.pos
  have m := f.most
  rw [e1, natI_len] at s p m
  rw [e3] at s
  unfold natR at s
  rw [List.length_map] at s
  exact ⟨r, ns, bss, e1, e3, s, p, m, h1, h4, fun n hn => by have := e2 n hn; omega, e4⟩
def spLen (C : Addr) : Sp := fun vs H Q _ => ∃ x ns bs, vs = [.ref x] ∧ TalkAt C H x (natI ns) bs ∧ ns.sum < 2 ^ 62 ∧ ∀ H', Same H H' → Q (.int (ns.sum : Nat)) H'
theorem sum_le {n k : Nat} : ∀ {ns : List Nat}, ns.length ≤ n → (∀ l ∈ ns, l ≤ k) → ns.sum ≤ n * k := by
  induction n with
  | zero =>
    intro ns h _
    cases ns with
    | nil => simp
    | cons a l => simp at h
  | succ n ih =>
    intro ns h hk
    cases ns with
    | nil => simp
    | cons a l =>
      have := ih (ns := l) (by rw [List.length_cons] at h; omega) (fun x hx => hk x (List.mem_cons_of_mem _ hx))
      have := hk a List.mem_cons_self
      rw [List.sum_cons, Nat.succ_mul]
      omega
/-- a statement that is never come to -/
theorem ps_dead {X : Cx} {st : Stmt} : PS X st (fun _ _ _ => False) := ⟨fun _ _ _ _ _ _ h => h.elim⟩
section
variable {P : Program} {w : World} {K : PySem.W.Frag} {mg : Str → Option Value} {base : Heap} {C fI fL : Addr}
theorem ok_len {fd : FuncData} (F : Fun K "__len__" "Talk.__len__" sLen fL fd) (T : TkB K C fI) (B : Bi mg) (mS : mg "sum" = none) : FnOk P w K mg base CX0 1 fL fd ["self"] (spLen C) := by
  refine F.ok scLen (fun vs H Q E h => ?_) (fun cdv A outer s H vs Q E hr h => ?_)
  · obtain ⟨_, _, _, rfl, _⟩ := h
    rfl
  · refine ⟨_, pss_one (ps_ret (pe_callB call_lenRng (by rfl) B.len PySem.boot_len (pa_cons (pe_callTy call_range1 (by rfl) B.range PyProof.Rows.boot_range (pa_cons (pe_callB (call_sumT rfl) (by rfl) mS PyProof.Rows.boot_sum (pa_cons (pe_fld (pv 0) rfl) pa_nil)) pa_nil)) pa_nil))), ?_⟩
    obtain ⟨x, ns, bs, rfl, ⟨dx, a, b, qs, h1, h2, h3, h4⟩, hn, q⟩ := h
    refine ⟨_, rfl, x, C, dx, _, _, rfl, h1, T.cl, T.nl, rfl, a, natI ns, rfl, SqT.of h2, _, rfl, fun p hp => ?_⟩
    refine ⟨p, ns.sum, rfl, ?_, hn, q _ (Same.upd hp)⟩
    rw [upd_same, natI_sum]
end
end Rp

namespace Rp
open PySem PySem.Spec PyProof.Rows L2 TL
/-! ### the text of a talk, as texts -/
def num (n : Nat) : Str := Str.ofString (toString ((n : Nat) : Int))
theorem tl_of (n : Nat) : tl (num n) = numL n := tl_num n
theorem tl_space : tl (" " : Str) = [32] := by decide +kernel
theorem tl_line : tl ("\n" : Str) = [10] := by decide +kernel
def wordsOf (l : Nat) (row : List Nat) : List Str := num l :: (":" : Str) :: row.map num
def lineOf (l : Nat) (row : List Nat) : Str := Txt.join (" " : Str) (wordsOf l row)
def headOf (r : Nat) : Str := ("rates " : Str) ++ num r
def linesOf (ls : List Nat) (bs : List (List Nat)) : List Str := List.zipWith lineOf ls bs
def textOf (r : Nat) (ls : List Nat) (bs : List (List Nat)) : Str := Txt.join ("\n" : Str) (headOf r :: linesOf ls bs)
theorem joinL_mem {S : List Nat} {c : Nat} : ∀ {ps : List (List Nat)}, c ∈ joinL S ps → c ∈ S ∨ ∃ p ∈ ps, c ∈ p
  | [], h => by simp [joinL] at h
  | [p], h => .inr ⟨p, List.mem_singleton.mpr rfl, h⟩
  | p :: q :: r, h => by
    rcases List.mem_append.mp (show c ∈ p ++ (S ++ joinL S (q :: r)) from h) with h | h
    · exact .inr ⟨p, List.mem_cons_self, h⟩
    · rcases List.mem_append.mp h with h | h
      · exact .inl h
      · rcases joinL_mem h with h | ⟨z, hz, h⟩
        · exact .inl h
        · exact .inr ⟨z, List.mem_cons_of_mem _ hz, h⟩
theorem joinL_len {S : List Nat} : ∀ {ps : List (List Nat)} {k : Nat}, (∀ p ∈ ps, p.length ≤ k) → (joinL S ps).length ≤ ps.length * (k + S.length)
  | [], _, _ => by simp [joinL]
  | [p], k, h => by
    have := h p (List.mem_singleton.mpr rfl)
    show p.length ≤ 1 * (k + S.length)
    omega
  | p :: q :: r, k, h => by
    have h1 := h p List.mem_cons_self
    have h2 := joinL_len (S := S) (ps := q :: r) (k := k) fun z hz => h z (List.mem_cons_of_mem _ hz)
    show (p ++ (S ++ joinL S (q :: r))).length ≤ (p :: q :: r).length * (k + S.length)
    rw [List.length_append, List.length_append, show (p :: q :: r).length = (q :: r).length + 1 from rfl, Nat.succ_mul]
    omega
theorem joinL_snoc {S w : List Nat} : ∀ {ps : List (List Nat)}, ps ≠ [] → joinL S (ps ++ [w]) = joinL S ps ++ (S ++ w)
  | [], h => absurd rfl h
  | [p], _ => rfl
  | p :: q :: r, _ => by
    have ih := joinL_snoc (S := S) (w := w) (ps := q :: r) (by simp)
    show p ++ (S ++ joinL S ((q :: r) ++ [w])) = p ++ (S ++ joinL S (q :: r)) ++ (S ++ w)
    rw [ih]
    simp only [List.append_assoc]
theorem tl_joins (y : Str) (ps : List Str) : tl (Txt.join y ps) = joinL (tl y) (ps.map tl) := by rw [join_eq, tl_join]
theorem join_snoc {y w : Str} {ps : List Str} (h : ps ≠ []) : Txt.join y (ps ++ [w]) = Txt.join y ps ++ y ++ w := by
  refine ext_tl ?_
  rw [tl_joins, tl_append, tl_append, tl_joins, List.map_append, List.map_cons, List.map_nil, joinL_snoc (fun e => h (List.map_eq_nil_iff.mp e)), List.append_assoc]
/-! the words of a line -/
theorem words_free {c l : Nat} {row : List Nat} (h : c < 48) : ∀ w ∈ wordsOf l row, c ∉ tl w := by
  intro w hw
  unfold wordsOf at hw
  rcases List.mem_cons.mp hw with rfl | hw
  · rw [tl_of]
    exact numL_free (.inl h)
  · rcases List.mem_cons.mp hw with rfl | hw
    · rw [show tl (":" : Str) = [58] by decide +kernel]
      intro z
      have := List.mem_singleton.mp z
      omega
    · obtain ⟨b, _, rfl⟩ := List.mem_map.mp hw
      rw [tl_of]
      exact numL_free (.inl h)
theorem split_line (l : Nat) (row : List Nat) : Txt.split (lineOf l row) (" " : Str) = wordsOf l row :=
  split_join (s := 32) (S := []) tl_space (by decide +kernel) (by unfold wordsOf; simp) (words_free (by decide))
theorem head_join (r : Nat) : headOf r = Txt.join (" " : Str) [("rates" : Str), num r] := by
  refine ext_tl ?_
  unfold headOf
  rw [tl_append, tl_joins, tl_space]
  show tl ("rates " : Str) ++ tl (num r) = tl ("rates" : Str) ++ ([32] ++ tl (num r))
  rw [← List.append_assoc]
  rw [show tl ("rates " : Str) = tl ("rates" : Str) ++ [32] by decide +kernel]
theorem split_head (r : Nat) : Txt.split (headOf r) (" " : Str) = [("rates" : Str), num r] := by
  rw [head_join]
  refine split_join (s := 32) (S := []) tl_space (by decide +kernel) (by simp) fun p hp => ?_
  rcases List.mem_cons.mp hp with rfl | hp
  · decide +kernel
  · rw [List.mem_singleton.mp hp, tl_of]
    exact numL_free (.inl (by decide))
theorem split_text (r : Nat) (ls : List Nat) (bs : List (List Nat)) : Txt.split (textOf r ls bs) ("\n" : Str) = headOf r :: linesOf ls bs := by
  refine split_join (s := 10) (S := []) tl_line (by decide +kernel) (by simp) fun p hp => ?_
  rcases List.mem_cons.mp hp with rfl | hp
  · unfold headOf
    rw [tl_append, tl_of]
    intro z
    rcases List.mem_append.mp z with z | z
    · exact absurd z (by decide +kernel)
    · exact numL_free (.inl (by decide)) z
  · unfold linesOf at hp
    obtain ⟨i, hi, rfl⟩ := List.mem_iff_getElem.mp hp
    rw [List.getElem_zipWith]
    unfold lineOf
    rw [tl_joins, tl_space]
    intro z
    rcases joinL_mem z with z | ⟨w, hw, z⟩
    · exact absurd (List.mem_singleton.mp z) (by decide)
    · obtain ⟨v, hv, rfl⟩ := List.mem_map.mp hw
      exact words_free (by decide) v hv z
/-! numbers as texts -/
theorem num_len {n : Nat} (h : n < 10000) : (num n).length ≤ 4 := by
  rw [len_tl, tl_of]
  exact numL_len (by decide) h
theorem numL_head {n : Nat} : 1 ≤ n → ∃ c r, numL n = c :: r ∧ c ≠ 48 := by
  induction n using Nat.strongRecOn with
  | _ n ih =>
    intro h1
    by_cases h : n < 10
    · exact ⟨48 + n, [], numL_lt h, by omega⟩
    · obtain ⟨c, r, e, hc⟩ := ih (n / 10) (by omega) (by omega)
      exact ⟨c, r ++ [48 + n % 10], by rw [numL_step (by omega), e]; rfl, hc⟩
theorem numL_mono {n : Nat} : ∀ {m : Nat}, n ≤ m → (numL n).length ≤ (numL m).length := by
  induction n using Nat.strongRecOn with
  | _ n ih =>
    intro m h
    by_cases hm : m < 10
    · rw [numL_lt hm, numL_lt (by omega)]
      exact Nat.le_refl _
    · rw [numL_step (n := m) (by omega), List.length_append]
      by_cases hn : n < 10
      · rw [numL_lt hn]
        show 1 ≤ _ + 1
        omega
      · rw [numL_step (n := n) (by omega), List.length_append]
        have := @ih (n / 10) (by omega) (m / 10) (Nat.div_le_div_right h)
        simp only [List.length_singleton]
        omega
theorem num_ascii (n : Nat) : Txt.isascii (num n) = true := by
  unfold Txt.isascii
  rw [← Array.all_toList]
  rw [show (num n).cps.toList = numL n from tl_of n]
  rw [List.all_eq_true]
  intro c hc
  have := numL_digits n c hc
  exact decide_eq_true (by omega)
theorem dig_ok : ∀ c, c < 58 → 48 ≤ c → Unicode.isDigit c = true := by decide +kernel
theorem num_digit (n : Nat) : Txt.isdigit (num n) = true := by
  unfold Txt.isdigit
  rw [Bool.and_eq_true]
  constructor
  · refine decide_eq_true ?_
    rw [len_tl, tl_of]
    exact List.length_pos_iff.mpr (numL_ne n)
  · rw [← Array.all_toList]
    rw [show (num n).cps.toList = numL n from tl_of n]
    rw [List.all_eq_true]
    intro c hc
    have := numL_digits n c hc
    exact dig_ok c (by omega) (by omega)
theorem num_at {n : Nat} (h : 1 ≤ n) : ∃ c, atI (num n).cps.toList 0 = some c ∧ (V.str ⟨#[c]⟩) ≠ V.str ("0" : Str) := by
  obtain ⟨c, r, e, hc⟩ := numL_head h
  refine ⟨c, ?_, fun z => ?_⟩
  · rw [show (num n).cps.toList = numL n from tl_of n, e]
    exact atI_nat (xs := c :: r) (j := 0) (v := c) rfl
  · injection z with z
    have := congrArg tl z
    rw [show tl ("0" : Str) = [48] by decide +kernel] at this
    have e2 : ([c] : List Nat) = [48] := this
    injection e2 with e2
    exact hc e2
theorem num_int {n : Nat} (h : n < 10000) : intText? (num n) = some (n : Int) := int_num (Nat.le_trans (numL_len (k := 4) (by decide) h) (by decide))
theorem num_lens {n m : Nat} (h : n ≤ m) : (num n).length ≤ (num m).length := by
  rw [len_tl, len_tl, tl_of, tl_of]
  exact numL_mono h
/-! lengths -/
theorem line_len {l : Nat} {row : List Nat} (hl : l < 10000) (hr : ∀ b ∈ row, b < 10000) : (lineOf l row).length ≤ (row.length + 2) * 5 := by
  unfold lineOf
  rw [len_tl, tl_joins, tl_space]
  have := joinL_len (S := [32]) (ps := (wordsOf l row).map tl) (k := 4) fun p hp => by
    obtain ⟨w, hw, rfl⟩ := List.mem_map.mp hp
    rw [← len_tl]
    unfold wordsOf at hw
    rcases List.mem_cons.mp hw with rfl | hw
    · exact num_len hl
    · rcases List.mem_cons.mp hw with rfl | hw
      · decide +kernel
      · obtain ⟨b, hb, rfl⟩ := List.mem_map.mp hw
        exact num_len (hr b hb)
  rw [List.length_map] at this
  have e : (wordsOf l row).length = row.length + 2 := by unfold wordsOf; simp
  rw [e] at this
  exact this
end Rp

namespace Rp
open PySem PySem.Spec PyProof.Rows L2
theorem Fine.low {ls : List Int} {bs : List (List Int)} (h : Fine ls bs) : Low ls := ⟨Nat.le_trans h.most (by decide), fun n hn => by have := h.ls n hn; omega⟩
theorem Fine.lowR {ls : List Int} {bs : List (List Int)} (h : Fine ls bs) : LowRows bs := by
  obtain ⟨r, h1, h2, h3⟩ := h.bs
  refine ⟨by have := h.most; have := h.same; omega, fun row hr => ?_⟩
  obtain ⟨e, ok⟩ := h3 row hr
  exact ⟨by omega, fun n hn => by have := ok n hn; omega⟩
theorem But.same {w : Addr} {H H1 H2 : Hp} (b : But w H H1) (s : Same H1 H2) : But w H H2 := fun c o n h => s c o (b c o n h)
theorem Well.same {w : Addr} {H H' : Hp} (h : Well H w) (s : Same H H') : Well H' w := let ⟨a, b, c, h⟩ := h; ⟨a, b, c, s _ _ h⟩
theorem Same.but {w : Addr} {H H' : Hp} (s : Same H H') : But w H H' := fun c o _ h => s c o h
theorem TalkAt.but {C : Addr} {w : Addr} {H H' : Hp} {x : Addr} {ls : List Int} {bs : List (List Int)} (h : TalkAt C H x ls bs) (b : But w H H') (hw : Well H w) : TalkAt C H' x ls bs := by
  obtain ⟨dx, a, c, qs, h1, h2, h3, h4⟩ := h
  have hw' := hw
  obtain ⟨_, _, _, e⟩ := hw'
  exact ⟨dx, a, c, qs, b _ _ (ne_of h1 e (by intro z; cases z)) h1, b.tup hw _ _ h2, b.tup hw _ _ h3, h4.imp (b.tup hw)⟩
theorem new_at {H : Hp} {p : Addr} {o : HO} (_ : H p = none) : upd H p o p = some o := upd_same
theorem same_of_but {w : Addr} {H H1 H2 : Hp} (hw : H w = none) (s : Same H H1) (b : But w H1 H2) : Same H H2 := fun c o h => b c o (ne_of_none h hw) (s c o h)
theorem Fine.cons {ls : List Int} {bs : List (List Int)} (h : Fine ls bs) : ∃ r rs, bs = r :: rs := by
  cases bs with
  | nil =>
    have e : ls.length = 0 := h.same
    have := h.pos
    omega
  | cons r rs => exact ⟨r, rs, rfl⟩
end Rp

namespace Rp
open PySem PySem.Spec PyProof.Rows L2 TL
abbrev sStr : Stmt := inClass (topS 2) 3
abbrev sRepr : Stmt := inClass (topS 2) 4
theorem scStr : FnScope ["self"] ["self"] (defScope sStr) := ⟨rfl, rfl, rfl, by decide +kernel, rfl, by decide +kernel, by decide +kernel⟩
theorem scRepr : FnScope ["self"] ["self"] (defScope sRepr) := ⟨rfl, rfl, rfl, by decide +kernel, rfl, by decide +kernel, by decide +kernel⟩
/-- the class, as the written part has it -/
structure TkF (K : PySem.W.Frag) (C fI fL fS fR fM : Addr) : Prop extends TkB K C fI where
  ln : PySem.W.findIn K (.ref C) "__len__" = some (some (.ref fL))
  lnf : PySem.W.isFn K (.ref fL) = true
  st : PySem.W.findIn K (.ref C) "__str__" = some (some (.ref fS))
  stf : PySem.W.isFn K (.ref fS) = true
  rp : PySem.W.findIn K (.ref C) "__repr__" = some (some (.ref fR))
  rpf : PySem.W.isFn K (.ref fR) = true
  fm : PySem.W.findIn K (.ref C) "__format__" = some (some (.builtin "object.__format__"))
  mM : Meth K C "many_rates" fM
/-- a talk's numbers, a little otherwise -/
structure Okk (ns : List Nat) (bs : List (List Int)) : Prop where
  same : ns.length = bs.length
  pos : 1 ≤ ns.length
  most : ns.length ≤ 12
  ns : ∀ n ∈ ns, n ≤ 30
  bs : LowRows bs
theorem Okk.low {ns : List Nat} {bs : List (List Int)} (o : Okk ns bs) : Low (natI ns) := by
  refine ⟨by rw [natI_len]; exact Nat.le_trans o.most (by decide), fun n hn => ?_⟩
  obtain ⟨m, hm, rfl⟩ := List.mem_map.mp (show n ∈ ns.map (fun n : Nat => (n : Int)) from hn)
  have := o.ns m hm
  omega
theorem Okk.cons {ns : List Nat} {bs : List (List Int)} (o : Okk ns bs) : ∃ row rest, bs = row :: rest := by
  cases bs with
  | nil => exact absurd o.pos (by have := o.same; rw [List.length_nil] at this; omega)
  | cons a l => exact ⟨a, l, rfl⟩
def strText (a b c : Nat) : Str := (((((Str.empty ++ num a) ++ " stretches, ") ++ num b) ++ " beats, ") ++ num c) ++ " rates"
def reprText' (ls : List Int) (bs : List (List Int)) : Str := ((((Str.empty ++ "Talk(") ++ (dInts ls).shown) ++ ", ") ++ (dRows bs).shown) ++ ")"
def spStr (C : Addr) : Sp := fun vs H Q _ => ∃ x ns row rest, vs = [.ref x] ∧ TalkAt C H x (natI ns) (row :: rest) ∧ Okk ns (row :: rest) ∧ ∀ H', Same H H' → Q (.str (strText ns.length ns.sum row.length)) H'
def spRepr (C : Addr) : Sp := fun vs H Q _ => ∃ x ls bs, vs = [.ref x] ∧ TalkAt C H x ls bs ∧ Low ls ∧ LowRows bs ∧ Q (.str (reprText' ls bs)) H
theorem Sml.len {m n : Nat} {d : PyData} (h : Sml m n d) (hn : n ≤ 150000) : d.shown.length ≤ 8000000 := by
  have q := PyData.shown_le 40 (by decide) d h.ls
  have w := h.wt
  omega
section
variable {P : Program} {w : World} {K : PySem.W.Frag} {mg : Str → Option Value} {base : Heap} {C fI fL fS fR fM : Addr} {fdL fdM : FuncData}
theorem ok_str {fd : FuncData} (F : Fun K "__str__" "Talk.__str__" sStr fS fd) (T : TkF K C fI fL fS fR fM) (B : Bi mg) (mSum : mg "sum" = none) (FL : Fun K "__len__" "Talk.__len__" sLen fL fdL) (bL : L2.Binds K fdL ["self"] []) (FM : Fun K "many_rates" "Talk.many_rates" sMany fM fdM) (bM : L2.Binds K fdM ["self"] []) :
    FnOk P w K mg base CX0 3 fS fd ["self"] (spStr C) := by
  have GL : FnOk P w K mg base CX0 1 fL fdL ["self"] (spLen C) := ok_len FL T.toTkB B mSum
  have GM : FnOk P w K mg base CX0 1 fM fdM ["self"] (spMany C) := ok_many FM T.toTkB B
  refine F.ok scStr (fun vs H Q E h => ?_) (fun cdv A outer s H vs Q E hr h => ?_)
  · obtain ⟨_, _, _, _, rfl, _⟩ := h
    rfl
  · have hr1 : Room 1 _ := hr.mono (by decide)
    refine ⟨_, pss_one (ps_ret (pe_joined (PJ.cons (pe_fmt (pe_callB call_len_seq (by rfl) B.len PySem.boot_len (pa_cons (pe_fld (pv 0) rfl) pa_nil))) (PJ.cons (pe_str) (PJ.cons (pe_fmt (pe_callB (call_lenI (E := fun _ _ _ => False) GL T.ln T.lnf bL pass0 hr) (by rfl) B.len PySem.boot_len (pa_cons (pv 0) pa_nil))) (PJ.cons (pe_str) (PJ.cons (pe_fmt (pe_meth0 (pv 0) T.cl T.mM GM hr1 bM .nil pass0)) (PJ.cons (pe_str) (PJ.nil))))))))), ?_⟩
    obtain ⟨x, ns, row, rest, rfl, hx, ok, k⟩ := h
    obtain ⟨dx, a, b, qs, h1, h2, h3, h4⟩ := id hx
    have ez : sizeLine = 16777216 := sizeLine_eq
    have tb := sum_le ok.most ok.ns
    have om := ok.most
    have rl := (ok.bs.2 row List.mem_cons_self).1
    have n1 := num_len (n := ns.length) (by omega)
    have n2 := num_len (n := ns.sum) (by omega)
    have n3 := num_len (n := row.length) (by omega)
    have e0 : (Str.empty : Str).length = 0 := rfl
    have e1 : ((" stretches, " : Str)).length = 12 := by decide +kernel
    have e2 : ((" beats, " : Str)).length = 8 := by decide +kernel
    have e3 : ((" rates" : Str)).length = 6 := by decide +kernel
    have lg : ∀ n : Nat, n < 2 ^ 30 → ((n : Nat) : Int).natAbs.log2 < 1920 := fun n h => Nat.lt_trans (log_lt (k := 30) (by decide) (by omega)) (by decide)
    refine ⟨_, rfl, x, C, dx, _, _, rfl, h1, T.cl, T.nl, rfl, a, _, rfl, .inr (SqT.of h2), ?_⟩
    rw [List.length_map, natI_len]
    refine .inr ⟨_, rfl, lg _ (by omega), _, rfl, ?_, ?_⟩
    · rw [strLen_append, e0, ez]
      exact Nat.le_trans (Nat.add_le_add_left n1 _) (by decide)
    refine ⟨_, rfl, by rw [strLen_append, strLen_append, e0, e1, ez]; exact Nat.le_trans (Nat.add_le_add_right (Nat.add_le_add_left n1 _) _) (by decide), ?_⟩
    refine ⟨_, rfl, x, dx, _, rfl, h1, x, ns, row :: rest, rfl, hx, by omega, fun H1 s1 => ⟨ns.sum, rfl, by omega, ?_⟩⟩
    refine .inr ⟨_, rfl, lg _ (by omega), _, rfl, by rw [strLen_append, strLen_append, strLen_append, e0, e1, ez]; exact Nat.le_trans (Nat.add_le_add (Nat.add_le_add_right (Nat.add_le_add_left n1 _) _) n2) (by decide), ?_⟩
    refine ⟨_, rfl, by rw [strLen_append, strLen_append, strLen_append, strLen_append, e0, e1, e2, ez]; exact Nat.le_trans (Nat.add_le_add_right (Nat.add_le_add (Nat.add_le_add_right (Nat.add_le_add_left n1 _) _) n2) _) (by decide), ?_⟩
    refine ⟨_, rfl, x, dx, _, rfl, s1 _ _ h1, rfl, x, _, row, rest, rfl, TalkAt.same hx s1, ?_⟩
    refine .inr ⟨_, rfl, lg _ (by omega), _, rfl, by rw [strLen_append, strLen_append, strLen_append, strLen_append, strLen_append, e0, e1, e2, ez]; exact Nat.le_trans (Nat.add_le_add (Nat.add_le_add_right (Nat.add_le_add (Nat.add_le_add_right (Nat.add_le_add_left n1 _) _) n2) _) n3) (by decide), ?_⟩
    exact ⟨_, rfl, by rw [strLen_append, strLen_append, strLen_append, strLen_append, strLen_append, strLen_append, e0, e1, e2, e3, ez]; exact Nat.le_trans (Nat.add_le_add_right (Nat.add_le_add (Nat.add_le_add_right (Nat.add_le_add (Nat.add_le_add_right (Nat.add_le_add_left n1 _) _) n2) _) n3) _) (by decide), k _ s1⟩
theorem ok_repr {fd : FuncData} (F : Fun K "__repr__" "Talk.__repr__" sRepr fR fd) (T : TkF K C fI fL fS fR fM) : FnA P w K mg base CX0 1 fR fd ["self"] (spRepr C) := by
  refine okA F scRepr (fun vs H Q E h => ?_) (fun cdv A outer s H vs Q E gA hu h => ?_)
  · obtain ⟨_, _, _, rfl, _⟩ := h
    rfl
  · have hu : _ + 64 < cLine := Nat.lt_of_le_of_lt (Nat.add_le_add_left (show 64 ≤ 200 by decide) _) hu
    refine ⟨_, pss_one (ps_ret (pe_joined (PJ.cons (pe_str) (PJ.cons (pe_fmtRD gA hu (pe_fld (pv 0) rfl)) (PJ.cons (pe_str) (PJ.cons (pe_fmtRD gA hu (pe_fld (pv 0) rfl)) (PJ.cons (pe_str) (PJ.nil)))))))), ?_⟩
    obtain ⟨x, ls, bs, rfl, ⟨dx, a, b, qs, h1, h2, h3, h4⟩, lo, lor, q⟩ := h
    have w1 := lo.sml.len (by decide)
    have w2 := lor.sml.len (by decide)
    have e1 : (Str.empty ++ ("Talk(" : Str)).length = 5 := by decide +kernel
    have e2 : ((", " : Str)).length = 2 := by decide +kernel
    have e3 : ((")" : Str)).length = 1 := by decide +kernel
    have ez : sizeLine = 16777216 := sizeLine_eq
    refine ⟨_, rfl, by rw [e1]; decide, ?_⟩
    refine ⟨_, rfl, x, C, dx, _, _, rfl, h1, T.cl, T.nl, rfl, ?_⟩
    refine ⟨a, dInts ls, rfl, dp_ints h2, lo.sml.shw (by decide) (by decide), _, rfl, by rw [strLen_append, e1, ez]; omega, ?_⟩
    refine ⟨_, rfl, by rw [strLen_append, strLen_append, e1, e2, ez]; omega, ?_⟩
    refine ⟨_, rfl, x, C, dx, _, _, rfl, h1, T.cl, T.ns, rfl, b, dRows bs, rfl, dp_rows h3 h4, lor.sml.shw (by decide) (by decide), _, rfl, by rw [strLen_append, strLen_append, strLen_append, e1, e2, ez]; omega, ?_⟩
    exact ⟨_, rfl, by rw [strLen_append, strLen_append, strLen_append, strLen_append, e1, e2, e3, ez]; omega, q⟩
end
end Rp

namespace Rp
open PySem PySem.Spec PyProof.Rows L2 TL
abbrev sTold : Stmt := topS 8
theorem scTold : FnScope ["_law_row", "_law_lengths", "_law_sizes", "_law_talk_here", "_law_whole", "_law_beats", "_law_words", "_law_text", "_law_shown", "_law_found"] ["_law_row"] (defScope sTold) := ⟨rfl, rfl, rfl, by decide +kernel, rfl, by decide +kernel, by decide +kernel⟩
theorem take_sum_le : ∀ (ns : List Nat) (i l : Nat), ns[i]? = some l → (ns.take (i + 1)).sum = (ns.take i).sum + l
  | [], _, _, h => by simp at h
  | n :: ns, 0, l, h => by
    have e : n = l := Option.some.inj h
    subst e
    simp
  | n :: ns, i + 1, l, h => by
    rw [List.getElem?_cons_succ] at h
    have ih := take_sum_le ns i l h
    rw [List.take_succ_cons, List.sum_cons, List.take_succ_cons, List.sum_cons, ih]
    omega
def wordsT (a b c : Nat) : List Str := [num a, "stretches,", num b, "beats,", num c, "rates"]
theorem bulk_ints : ∀ ns : List Int, PyData.bulkAll (ns.map PyData.int) = ns.length
  | [] => rfl
  | n :: ns => by
    rw [List.map_cons, PyData.bulkAll, PyData.bulk, bulk_ints ns, List.length_cons]
    omega
theorem bulk_dInts (ns : List Int) : (dInts ns).bulk = ns.length := by
  unfold dInts
  rw [PyData.bulk, bulk_ints]
theorem bulk_rows : ∀ bs : List (List Int), (∀ row ∈ bs, row.length ≤ 60) → PyData.bulkAll (bs.map dInts) ≤ bs.length * 61
  | [], _ => Nat.zero_le _
  | b :: bs, h => by
    have ih := bulk_rows bs fun r hr => h r (List.mem_cons_of_mem _ hr)
    have hb := h b List.mem_cons_self
    rw [List.map_cons, PyData.bulkAll, bulk_dInts, List.length_cons]
    omega
theorem bulk_dRows {bs : List (List Int)} (h : LowRows bs) : (dRows bs).bulk ≤ 3660 := by
  unfold dRows
  rw [PyData.bulk]
  have := bulk_rows bs fun r hr => (h.2 r hr).1
  have := h.1
  omega
theorem shown_ints {ls : List Int} (h : Low ls) : (dInts ls).shown.length ≤ 2560 := by
  have q := PyData.shown_le_bulk 40 (by decide) _ h.sml.ls
  rw [bulk_dInts] at q
  have := h.1
  omega
theorem shown_rows {bs : List (List Int)} (h : LowRows bs) : (dRows bs).shown.length ≤ 153760 := by
  have q := PyData.shown_le_bulk 40 (by decide) _ h.sml.ls
  have := bulk_dRows h
  omega
theorem words_sum {a b c : Nat} (ha : a < 10000) (hb : b < 10000) (hc : c < 10000) : ((wordsT a b c).map (fun x => x.length)).sum + (wordsT a b c).length * ((" " : Str)).length ≤ 16777216 := by
  have n1 := num_len ha
  have n2 := num_len hb
  have n3 := num_len hc
  have e1 : (("stretches," : Str)).length = 10 := by decide +kernel
  have e2 : (("beats," : Str)).length = 6 := by decide +kernel
  have e3 : (("rates" : Str)).length = 5 := by decide +kernel
  have e4 : ((" " : Str)).length = 1 := by decide +kernel
  unfold wordsT
  simp only [List.map_cons, List.map_nil, List.sum_cons, List.sum_nil, List.length_cons, List.length_nil, e1, e2, e3, e4]
  omega
theorem words_join (a b c : Nat) : Txt.join (" " : Str) (wordsT a b c) = strText a b c := by
  refine ext_tl ?_
  unfold wordsT strText
  have e1 : tl (" stretches, " : Str) = tl (" " : Str) ++ (tl ("stretches," : Str) ++ tl (" " : Str)) := by decide +kernel
  have e2 : tl (" beats, " : Str) = tl (" " : Str) ++ (tl ("beats," : Str) ++ tl (" " : Str)) := by decide +kernel
  have e3 : tl (" rates" : Str) = tl (" " : Str) ++ tl ("rates" : Str) := by decide +kernel
  have e0 : tl Str.empty = [] := rfl
  simp only [tl_append]
  rw [tl_joins, e0, e1, e2, e3, List.nil_append]
  simp only [List.append_assoc]
  rfl
theorem shown_empty (x y : Str) : ((("Talk(" : Str) ++ x) ++ ", ") ++ y ++ ")" = ((((Str.empty ++ "Talk(") ++ x) ++ ", ") ++ y) ++ ")" := by
  refine ext_tl ?_
  simp only [tl_append]
  rfl
def Ok8 (x : Str) : Prop := ∀ c ∈ tl x, c < 16 ^ 8
theorem Ok8.add {x y : Str} (hx : Ok8 x) (hy : Ok8 y) : Ok8 (x ++ y) := fun c hc => by
  rw [tl_append] at hc
  rcases List.mem_append.mp hc with h | h
  · exact hx c h
  · exact hy c h
theorem Ok8.of (s : String) : Ok8 (Str.ofString s) := fun c hc => by
  rw [PySem.Str.ofString_eq_toList] at hc
  have hc : c ∈ s.toList.map Char.toNat := by simpa [tl] using hc
  obtain ⟨k, _, rfl⟩ := List.mem_map.mp hc
  have e : (16 : Nat) ^ 8 = 4294967296 := by decide
  have := k.val.toNat_lt
  rw [e]
  exact this
theorem Ok8.join : ∀ {ts : List Str}, (∀ t ∈ ts, Ok8 t) → Ok8 (Str.join ", " ts)
  | [], _ => fun c hc => by cases hc
  | [x], h => h x List.mem_cons_self
  | x :: y :: r, h => by
    show Ok8 (x ++ ", " ++ Str.join ", " (y :: r))
    exact ((h x List.mem_cons_self).add (Ok8.of _)).add (Ok8.join fun t ht => h t (List.mem_cons_of_mem _ ht))
theorem Ok8.tup {ts : List Str} (h : ∀ t ∈ ts, Ok8 t) : Ok8 (tupleText ts) := ((Ok8.of _).add (Ok8.join h)).add (Ok8.of _)
theorem shownAll_mem : ∀ {xs : List PyData} {t : Str}, t ∈ PyData.shownAll xs → ∃ d ∈ xs, t = d.shown
  | [], _, h => by cases h
  | x :: xs, t, h => by
    rcases List.mem_cons.mp (show t ∈ x.shown :: PyData.shownAll xs from h) with rfl | h
    · exact ⟨x, List.mem_cons_self, rfl⟩
    · obtain ⟨d, hd, e⟩ := shownAll_mem h
      exact ⟨d, List.mem_cons_of_mem _ hd, e⟩
theorem Ok8.ints (ls : List Int) : Ok8 (dInts ls).shown := by
  show Ok8 (tupleText (PyData.shownAll (ls.map PyData.int)))
  refine Ok8.tup fun t ht => ?_
  obtain ⟨d, hd, rfl⟩ := shownAll_mem ht
  obtain ⟨n, _, rfl⟩ := List.mem_map.mp hd
  exact Ok8.of _
theorem Ok8.rows (bs : List (List Int)) : Ok8 (dRows bs).shown := by
  show Ok8 (tupleText (PyData.shownAll (bs.map dInts)))
  refine Ok8.tup fun t ht => ?_
  obtain ⟨d, hd, rfl⟩ := shownAll_mem ht
  obtain ⟨r, _, rfl⟩ := List.mem_map.mp hd
  exact Ok8.ints r
theorem ok8_empty : Ok8 Str.empty := fun c hc => by cases hc
theorem reprText_ok (ls : List Int) (bs : List (List Int)) : Ok8 (reprText' ls bs) := ((((ok8_empty.add (Ok8.of _)).add (Ok8.ints ls)).add (Ok8.of _)).add (Ok8.rows bs)).add (Ok8.of _)
theorem strText_ok {a b c : Nat} : Ok8 (strText a b c) := (((((ok8_empty.add (Ok8.of _)).add (Ok8.of _)).add (Ok8.of _)).add (Ok8.of _)).add (Ok8.of _)).add (Ok8.of _)
theorem strText_len {a b c : Nat} (ha : a < 10000) (hb : b < 10000) (hc : c < 10000) : (strText a b c).length ≤ 40 := by
  have n1 := num_len ha
  have n2 := num_len hb
  have n3 := num_len hc
  have e0 : (Str.empty : Str).length = 0 := rfl
  have e1 : ((" stretches, " : Str)).length = 12 := by decide +kernel
  have e2 : ((" beats, " : Str)).length = 8 := by decide +kernel
  have e3 : ((" rates" : Str)).length = 6 := by decide +kernel
  unfold strText
  rw [strLen_append, strLen_append, strLen_append, strLen_append, strLen_append, strLen_append, e0, e1, e2, e3]
  omega
theorem reprText_len' {ls : List Int} {bs : List (List Int)} (lo : Low ls) (lor : LowRows bs) : (reprText' ls bs).length ≤ 156330 := by
  have w1 := shown_ints lo
  have w2 := shown_rows lor
  have e0 : (Str.empty : Str).length = 0 := rfl
  have e1 : (("Talk(" : Str)).length = 5 := by decide +kernel
  have e2 : ((", " : Str)).length = 2 := by decide +kernel
  have e3 : ((")" : Str)).length = 1 := by decide +kernel
  unfold reprText'
  rw [strLen_append, strLen_append, strLen_append, strLen_append, strLen_append, e0, e1, e2, e3]
  omega
def dTold (ls : List Int) (bs : List (List Int)) (n m : Nat) (t : Str) : PyData := .list [dInts ls, dRows bs, .int (n : Nat), .int (m : Nat), .str t, .str (reprText' ls bs), .str t]
theorem leaf8 {x : Str} (h : Ok8 x) : (PyData.str x).leavesShort 40 = true := by
  rw [PyData.leavesShort, List.all_eq_true]
  intro c hc
  exact decide_eq_true (h c hc)
theorem dTold_shw {ls : List Int} {bs : List (List Int)} {n m : Nat} {t : Str} (lo : Low ls) (lor : LowRows bs) (hn : n < 2 ^ 30) (hm : m < 2 ^ 30) (ht : Ok8 t) (hl : t.length ≤ 40) : Shw (dTold ls bs n m t) := by
  have a := lo.sml
  have b := lor.sml
  have i1 : Sml 0 40 (.int (n : Nat)) := Sml.int (by omega)
  have i2 : Sml 0 40 (.int (m : Nat)) := Sml.int (by omega)
  have q := reprText_len' lo lor
  have w1 := bulk_dInts ls
  have w2 := bulk_dRows lor
  have w3 := lo.1
  have ez : sizeLine = 16777216 := sizeLine_eq
  refine ⟨?_, ?_, ?_, ?_⟩
  · simp only [dTold, PyData.showable, PyData.showableAll, a.sh, b.sh, Bool.and_true, Bool.true_and]
    have x1 := i1.sh
    have x2 := i2.sh
    simp only [PyData.showable] at x1 x2
    rw [x1, x2]
    rfl
  · simp only [dTold, PyData.hasDict, PyData.hasDictAll, PyData.hasDict_of_canLay _ a.cl, PyData.hasDict_of_canLay _ b.cl]
    rfl
  · have x1 := a.dp
    have x2 := b.dp
    simp only [dTold, PyData.depth, PyData.depthAll]
    omega
  · have l : (dTold ls bs n m t).leavesShort 40 = true := by
      unfold dTold
      rw [PyData.leavesShort]
      simp only [PyData.leavesShortAll, a.ls, b.ls, i1.ls, i2.ls, leaf8 ht, leaf8 (reprText_ok ls bs), Bool.and_true]
    have s := PyData.shown_le_bulk 40 (by decide) _ l
    have e : (dTold ls bs n m t).bulk ≤ 160300 := by
      have y1 : t.cps.size = t.length := rfl
      have y2 : (reprText' ls bs).cps.size = (reprText' ls bs).length := rfl
      simp only [dTold, PyData.bulk, PyData.bulkAll, y1, y2]
      omega
    omega
theorem dTold_all {K : PySem.W.Frag} {H : Hp} {a b : Addr} {qs : List Addr} {ls : List Int} {bs : List (List Int)} {n m : Nat} {t : Str} (h2 : H a = some (.tup (ls.map V.int))) (h3 : H b = some (.tup (qs.map V.ref))) (h4 : RowsAt H qs bs) :
    DpAll K H [V.ref a, V.ref b, V.int (n : Nat), V.int (m : Nat), V.str t, V.str (reprText' ls bs), V.str t] [dInts ls, dRows bs, .int (n : Nat), .int (m : Nat), .str t, .str (reprText' ls bs), .str t] :=
  .cons (dp_ints h2) (.cons (dp_rows h3 h4) (.cons (.int _) (.cons (.int _) (.cons (.str _) (.cons (.str _) (.cons (.str _) .nil))))))
def spTold : Sp := fun vs H Q _ => ∃ p ns bs, vs = [.ref p] ∧ TalkRow H p (natI ns) bs ∧ Okk ns bs ∧ ∀ H', Same H H' → Q (.bl true) H'
section
variable {P : Program} {w : World} {K : PySem.W.Frag} {mg : Str → Option Value} {base : Heap} {C fI fL fS fR fM : Addr} {fdI fdL fdS fdR fdM : FuncData}
theorem ok_told {f : Addr} {fd : FuncData} (F : Fun K "_law_told_right" "_law_told_right" sTold f fd) (B : Bi mg) (T : TkF K C fI fL fS fR fM) (mC : mg "Talk" = some (.ref C)) (mS : mg "str" = none) (mR : mg "repr" = none) (mSum : mg "sum" = none)
    (FI : Fun K "__init__" "Talk.__init__" sInit fI fdI) (bI : L2.Binds K fdI ["self", "lengths", "sizes"] []) (FL : Fun K "__len__" "Talk.__len__" sLen fL fdL) (bL : L2.Binds K fdL ["self"] []) (FM : Fun K "many_rates" "Talk.many_rates" sMany fM fdM) (bM : L2.Binds K fdM ["self"] [])
    (FS : Fun K "__str__" "Talk.__str__" sStr fS fdS) (bS : L2.Binds K fdS ["self"] []) (FR : Fun K "__repr__" "Talk.__repr__" sRepr fR fdR) (bR : L2.Binds K fdR ["self"] []) : FnG P w K mg base CX0 6 f fd ["_law_row"] spTold := by
  have GI : FnOk P w K mg base CX0 1 fI fdI ["self", "lengths", "sizes"] (spInit C) := ok_init FI T.toTkB
  have GL : FnOk P w K mg base CX0 1 fL fdL ["self"] (spLen C) := ok_len FL T.toTkB B mSum
  have GM : FnOk P w K mg base CX0 1 fM fdM ["self"] (spMany C) := ok_many FM T.toTkB B
  have GS : FnOk P w K mg base CX0 3 fS fdS ["self"] (spStr C) := ok_str FS T B mSum FL bL FM bM
  have GR : FnA P w K mg base CX0 1 fR fdR ["self"] (spRepr C) := ok_repr FR T
  refine okG F scTold (fun vs H Q E h => ?_) (fun cdv A outer s H0 vs Q E gA hr h => ?_)
  · obtain ⟨_, _, _, rfl, _⟩ := h
    rfl
  · have nd := scTold.nd
    have hr1 : Room 1 _ := hr.mono (by decide)
    have hr2 : Room 2 _ := hr.mono (by decide)
    have hr4 : Room 4 _ := hr.mono (by decide)
    have hr5 : Room 5 _ := hr.mono (by decide)
    refine ⟨_, pss_cons (ps_asg (pv 0) (pg_tup rfl (pgs_cons (pg_name (i := 1) nd rfl (Or.inl rfl)) (pgs_cons (pg_name (i := 2) nd rfl (Or.inl rfl)) (pgs_nil)))))
    (pss_cons (ps_set (i := 3) nd rfl (Or.inl rfl) (pe_make T.make GI hr2 (by rfl) mC bI .nil pass0 (pa_cons (pv 1) (pa_cons (pv 2) pa_nil))))
    (pss_cons (ps_set (i := 4) nd rfl (Or.inl rfl) (pe_int))
    (pss_cons (ps_for PassesOwn.never rfl (pi_tup (pv 1)) (pg_name (i := 5) nd rfl (Or.inl rfl)) (pss_one (ps_set (i := 4) nd rfl (Or.inl rfl) (pe_op op_add (pv 4) (pv 5)))))
    (pss_cons (ps_set (i := 6) nd rfl (Or.inl rfl) (pe_lst (pa_cons (pe_callTy call_str_int (by rfl) mS boot_str (pa_cons (pe_callB call_len_seq (by rfl) B.len PySem.boot_len (pa_cons (pv 1) pa_nil)) pa_nil)) (pa_cons (pe_str) (pa_cons (pe_callTy call_str_int (by rfl) mS boot_str (pa_cons (pv 4) pa_nil)) (pa_cons (pe_str) (pa_cons (pe_callTy call_str_int (by rfl) mS boot_str (pa_cons (pe_callB call_len_seq (by rfl) B.len PySem.boot_len (pa_cons (pe_ix ix_tup (pv 2) (pe_int) (fun _ _ => rfl)) pa_nil)) pa_nil)) (pa_cons (pe_str) pa_nil))))))))
    (pss_cons (ps_set (i := 7) nd rfl (Or.inl rfl) (pe_join (pe_str) (pv 6)))
    (pss_cons (ps_set (i := 8) nd rfl (Or.inl rfl) (pe_op op_add_str (pe_op op_add_str (pe_op op_add_str (pe_op op_add_str (pe_str) (pe_callTy (call_strD gA hr.units) (by rfl) mS boot_str (pa_cons (pv 1) pa_nil))) (pe_str)) (pe_callTy (call_strD gA hr.units) (by rfl) mS boot_str (pa_cons (pv 2) pa_nil))) (pe_str)))
    (pss_cons (ps_set (i := 9) nd rfl (Or.inl rfl) (pe_lst (pa_cons (pe_fld (pv 3) rfl) (pa_cons (pe_fld (pv 3) rfl) (pa_cons (pe_callB (call_lenI (E := fun _ _ _ => False) GL T.ln T.lnf bL pass0 hr2) (by rfl) B.len PySem.boot_len (pa_cons (pv 3) pa_nil)) (pa_cons (pe_meth0 (pv 3) T.cl T.mM GM hr1 bM .nil pass0) (pa_cons (pe_callTy (call_strI (E := fun _ _ _ => False) GS T.st T.stf bS pass0 hr5) (by rfl) mS boot_str (pa_cons (pv 3) pa_nil)) (pa_cons (pe_callB (call_reprI (E := fun _ _ _ => False) GR T.rp T.rpf bR pass0 gA ⟨hr2.dp, hr2.un⟩) (by rfl) mR boot_repr (pa_cons (pv 3) pa_nil)) (pa_cons (pe_joined1 (pe_fmtI (E := fun _ _ _ => False) GS T.st T.stf T.fm T.cm bS pass0 hr4 (pv 3))) pa_nil)))))))))
    (pss_one (ps_ret (pe_cmpR op_eq (pe_callB (call_reprD gA hr.units) (by rfl) mR boot_repr (pa_cons (pv 9) pa_nil)) (pe_callB (call_reprD gA hr.units) (by rfl) mR boot_repr (pa_cons (pe_lst (pa_cons (pv 1) (pa_cons (pv 2) (pa_cons (pv 4) (pa_cons (pe_callB call_len_seq (by rfl) B.len PySem.boot_len (pa_cons (pe_ix ix_tup (pv 2) (pe_int) (fun _ _ => rfl)) pa_nil)) (pa_cons (pv 7) (pa_cons (pv 8) (pa_cons (pv 7) pa_nil)))))))) pa_nil)) (nomark _))))))))))), ?_⟩
    obtain ⟨p, ns, bs, rfl, row, ok, k⟩ := h
    obtain ⟨row0, rest, rfl⟩ := ok.cons
    obtain ⟨a, b, qs, h1, h2, h3, h4⟩ := id row
    have ez : sizeLine = 16777216 := sizeLine_eq
    have tb := sum_le ok.most ok.ns
    have om := ok.most
    have rl := (ok.bs.2 row0 List.mem_cons_self).1
    refine ⟨_, rfl, p, _, rfl, SqT.of h1, rfl, _, _, rfl, _, _, rfl, rfl, ?_⟩
    refine ⟨_, rfl, _, rfl, ?_⟩
    refine fun x dx nx ndx ne => made_talk nx ndx ne fun H2 s2 ⟨dx, hx⟩ => ⟨rfl, ?_⟩
    have tx : TalkAt C H2 x (natI ns) (row0 :: rest) := ⟨dx, a, b, qs, hx, s2 _ _ h2, s2 _ _ h3, h4.imp fun _ _ e => s2 _ _ e⟩
    refine ⟨_, rfl, a, rfl, ⟨_, SqT.of (s2 _ _ h2)⟩, ?_⟩
    refine for_tup (K := K) (a := a) (xs := (natI ns).map V.int) (fun i σ H' => ∃ v5, σ = [some (.ref p), some (.ref a), some (.ref b), some (.ref x), some (.int ((ns.take i).sum : Nat)), v5, none, none, none, none] ∧ H' = H2) ⟨_, rfl, rfl⟩ (fun j σ H' _ ⟨_, _, e⟩ => by rw [e]; exact SqT.of (s2 _ _ h2)) ?_ ?_
    · rintro i y σ H' hy ⟨v5, rfl, rfl⟩
      rw [List.getElem?_map] at hy
      obtain ⟨z, hz, rfl⟩ := Option.map_eq_some_iff.mp hy
      unfold natI at hz
      rw [List.getElem?_map] at hz
      obtain ⟨c, hc, rfl⟩ := Option.map_eq_some_iff.mp hz
      refine ⟨_, rfl, _, rfl, _, _, rfl, rfl, ?_⟩
      refine ⟨some (.int (c : Nat)), ?_, rfl⟩
      rw [take_sum_le ns i c hc]
      rfl
    · rintro σ H' ⟨v5, rfl, rfl⟩
      rw [List.length_map, natI_len, List.take_length]
      obtain ⟨q0, qr, rfl, hq0⟩ : ∃ q0 qr, qs = q0 :: qr ∧ H0 q0 = some (.tup (row0.map V.int)) := by
        cases h4 with
        | cons h _ => exact ⟨_, _, rfl, h⟩
      have lg : ∀ n : Nat, n < 2 ^ 30 → ((n : Nat) : Int).natAbs.log2 < 1920 := fun n h => Nat.lt_trans (log_lt (k := 30) (by decide) (by omega)) (by decide)
      refine ⟨_, rfl, a, _, rfl, .inr (SqT.of (s2 _ _ h2)), ?_⟩
      rw [List.length_map, natI_len]
      refine ⟨_, rfl, lg _ (by omega), _, rfl, _, rfl, lg _ (by omega), ?_⟩
      refine ⟨_, rfl, b, _, 0, _, rfl, rfl, SqT.of (s2 _ _ h3), atI_nat (j := 0) rfl, q0, _, rfl, .inr (SqT.of (s2 _ _ hq0)), ?_⟩
      rw [List.length_map]
      refine ⟨_, rfl, lg _ (by omega), (by show 6 ≤ sizeLine; decide), fun L hL => ?_⟩
      have s3 : Same H' (upd H' L (.lst [V.str (Str.ofString (toString ((ns.length : Nat) : Int))), V.str "stretches,", V.str (Str.ofString (toString ((ns.sum : Nat) : Int))), V.str "beats,", V.str (Str.ofString (toString ((row0.length : Nat) : Int))), V.str "rates"])) := Same.upd hL
      have eL : upd H' L (.lst [V.str (Str.ofString (toString ((ns.length : Nat) : Int))), V.str "stretches,", V.str (Str.ofString (toString ((ns.sum : Nat) : Int))), V.str "beats,", V.str (Str.ofString (toString ((row0.length : Nat) : Int))), V.str "rates"]) L = some (.lst ((wordsT ns.length ns.sum row0.length).map V.str)) := upd_same
      generalize upd H' L (.lst [V.str (Str.ofString (toString ((ns.length : Nat) : Int))), V.str "stretches,", V.str (Str.ofString (toString ((ns.sum : Nat) : Int))), V.str "beats,", V.str (Str.ofString (toString ((row0.length : Nat) : Int))), V.str "rates"]) = H3 at s3 eL ⊢
      have lo := ok.low
      have w1 := shown_ints lo
      have w2 := shown_rows ok.bs
      have e1 : (("Talk(" : Str)).length = 5 := by decide +kernel
      have e2 : ((", " : Str)).length = 2 := by decide +kernel
      have e3 : ((")" : Str)).length = 1 := by decide +kernel
      have s23 := s2.trans s3
      have r4 : RowsAt H3 (q0 :: qr) (row0 :: rest) := h4.imp fun _ _ e => s23 _ _ e
      have tx3 := tx.same s3
      have hx3 := s3 _ _ hx
      refine ⟨⟨_, rfl⟩, _, rfl, _, L, wordsT ns.length ns.sum row0.length, rfl, rfl, .inl (SqL.of eL), words_sum (by omega) (by omega) (by omega), ?_⟩
      rw [words_join]
      refine ⟨_, rfl, a, dInts (natI ns), rfl, dp_ints (s23 _ _ h2), lo.sml.shw (by decide) (by decide), _, _, rfl, rfl, by rw [e1, ez]; omega, ?_⟩
      refine ⟨_, _, rfl, rfl, by rw [strLen_append, e1, e2, ez]; omega, ?_⟩
      refine ⟨_, rfl, b, dRows (row0 :: rest), rfl, dp_rows (s23 _ _ h3) r4, ok.bs.sml.shw (by decide) (by decide), _, _, rfl, rfl, by rw [strLen_append, strLen_append, e1, e2, ez]; omega, ?_⟩
      refine ⟨_, _, rfl, rfl, by rw [strLen_append, strLen_append, strLen_append, e1, e2, e3, ez]; omega, ?_⟩
      rw [shown_empty]
      refine ⟨_, rfl, x, C, dx, _, _, rfl, hx3, T.cl, T.nl, rfl, _, rfl, x, C, dx, _, _, rfl, hx3, T.cl, T.ns, rfl, ?_⟩
      refine ⟨_, rfl, x, dx, _, rfl, hx3, x, ns, row0 :: rest, rfl, tx3, by omega, fun H4 s4 => ⟨ns.sum, rfl, by omega, ?_⟩⟩
      refine ⟨_, rfl, x, dx, _, rfl, s4 _ _ hx3, rfl, x, _, row0, rest, rfl, tx3.same s4, ?_⟩
      refine ⟨_, rfl, x, dx, _, rfl, s4 _ _ hx3, x, ns, row0, rest, rfl, tx3.same s4, ok, fun H5 s5 => ⟨_, rfl, ?_⟩⟩
      have s35 := s4.trans s5
      refine ⟨_, rfl, x, dx, _, rfl, s35 _ _ hx3, x, _, _, rfl, tx3.same s35, lo, ok.bs, _, rfl, ?_⟩
      refine ⟨_, rfl, x, dx, _, rfl, s35 _ _ hx3, x, ns, row0, rest, rfl, tx3.same s35, ok, fun H6 s6 => ⟨_, rfl, ?_⟩⟩
      have s36 := s35.trans s6
      have sw := dTold_shw (n := ns.sum) (m := row0.length) lo ok.bs (by omega) (by omega) (strText_ok (a := ns.length) (b := ns.sum) (c := row0.length)) (strText_len (by omega) (by omega) (by omega))
      refine ⟨(by show 7 ≤ sizeLine; decide), fun M hM => ?_⟩
      have s7 : Same H6 (upd H6 M (.lst [V.ref a, V.ref b, V.int (ns.sum : Nat), V.int (row0.length : Nat), V.str (strText ns.length ns.sum row0.length), V.str (reprText' (natI ns) (row0 :: rest)), V.str (strText ns.length ns.sum row0.length)])) := Same.upd hM
      have eM : upd H6 M (.lst [V.ref a, V.ref b, V.int (ns.sum : Nat), V.int (row0.length : Nat), V.str (strText ns.length ns.sum row0.length), V.str (reprText' (natI ns) (row0 :: rest)), V.str (strText ns.length ns.sum row0.length)]) M = some (.lst [V.ref a, V.ref b, V.int (ns.sum : Nat), V.int (row0.length : Nat), V.str (strText ns.length ns.sum row0.length), V.str (reprText' (natI ns) (row0 :: rest)), V.str (strText ns.length ns.sum row0.length)]) := upd_same
      change gName 9 (V.ref M) _ (upd H6 M (.lst [V.ref a, V.ref b, V.int (ns.sum : Nat), V.int (row0.length : Nat), V.str (strText ns.length ns.sum row0.length), V.str (reprText' (natI ns) (row0 :: rest)), V.str (strText ns.length ns.sum row0.length)])) _
      generalize upd H6 M (.lst [V.ref a, V.ref b, V.int (ns.sum : Nat), V.int (row0.length : Nat), V.str (strText ns.length ns.sum row0.length), V.str (reprText' (natI ns) (row0 :: rest)), V.str (strText ns.length ns.sum row0.length)]) = H7 at s7 eM ⊢
      have s07 := (s23.trans s36).trans s7
      refine ⟨_, rfl, _, dTold (natI ns) (row0 :: rest) ns.sum row0.length (strText ns.length ns.sum row0.length), rfl, .lst (SqL.of eM) (dTold_all (s07 _ _ h2) (s07 _ _ h3) (h4.imp fun _ _ e => s07 _ _ e)), sw, ?_⟩
      refine ⟨_, rfl, _, rfl, _, rfl, _, rfl, b, _, 0, _, rfl, rfl, SqT.of (s07 _ _ h3), atI_nat (j := 0) rfl, q0, _, rfl, .inr (SqT.of (s07 _ _ hq0)), ?_⟩
      rw [List.length_map]
      refine ⟨_, rfl, _, rfl, _, rfl, (by show 7 ≤ sizeLine; decide), fun N hN => ?_⟩
      have s8 : Same H7 (upd H7 N (.lst [V.ref a, V.ref b, V.int (ns.sum : Nat), V.int (row0.length : Nat), V.str (strText ns.length ns.sum row0.length), V.str (reprText' (natI ns) (row0 :: rest)), V.str (strText ns.length ns.sum row0.length)])) := Same.upd hN
      have eN : upd H7 N (.lst [V.ref a, V.ref b, V.int (ns.sum : Nat), V.int (row0.length : Nat), V.str (strText ns.length ns.sum row0.length), V.str (reprText' (natI ns) (row0 :: rest)), V.str (strText ns.length ns.sum row0.length)]) N = some (.lst [V.ref a, V.ref b, V.int (ns.sum : Nat), V.int (row0.length : Nat), V.str (strText ns.length ns.sum row0.length), V.str (reprText' (natI ns) (row0 :: rest)), V.str (strText ns.length ns.sum row0.length)]) := upd_same
      have s08 := s07.trans s8
      refine ⟨_, dTold (natI ns) (row0 :: rest) ns.sum row0.length (strText ns.length ns.sum row0.length), rfl, .lst (SqL.of eN) (dTold_all (s08 _ _ h2) (s08 _ _ h3) (h4.imp fun _ _ e => s08 _ _ e)), sw, ?_⟩
      refine ⟨rfl, ?_⟩
      rw [decide_eq_true rfl]
      exact k _ s08
end
end Rp

namespace Rp
open PySem PySem.Spec PyProof.Rows L2 TL
abbrev sEqual : Stmt := topS 9
theorem scEqual : FnScope ["_law_one", "_law_other", "_law_here", "_law_there", "_law_found"] ["_law_one", "_law_other"] (defScope sEqual) := ⟨rfl, rfl, rfl, by decide +kernel, rfl, by decide +kernel, by decide +kernel⟩
inductive Ins (C : Addr) (H : Hp) (a : Addr) : List V → List Bool → Prop
  | nil : Ins C H a [] []
  | cons {v : V} {b : Bool} {vs : List V} {bl : List Bool} (h : EqR C H v (.ref a) b) (n : v ≠ .ref a) (r : Ins C H a vs bl) : Ins C H a (v :: vs) (b :: bl)
theorem Ins.at_ {C : Addr} {H : Hp} {a : Addr} : ∀ {xs : List V} {bl : List Bool}, Ins C H a xs bl → ∀ (i : Nat) (v : V) (b : Bool), xs[i]? = some v → bl[i]? = some b → EqR C H v (.ref a) b ∧ v ≠ .ref a
  | _, _, .nil, i, v, b, h, _ => by simp at h
  | _, _, .cons h n r, 0, v, b, hv, hb => by
    have e1 := Option.some.inj hv
    have e2 := Option.some.inj hb
    subst e1
    subst e2
    exact ⟨h, n⟩
  | _, _, .cons h n r, i + 1, v, b, hv, hb => r.at_ i v b hv hb
theorem pair_at {C : Addr} {H : Hp} {x y : Addr} {t : Bool} (e : EqR C H (.ref x) (.ref y) t) (n : V.ref x ≠ V.ref y) : ∀ (i : Nat) (v z : V) (b : Bool), [V.ref x, V.int 1][i]? = some v → [V.ref y, V.int 1][i]? = some z → [t, true][i]? = some b →
    (∃ a, z = .ref a ∧ EqR C H v (.ref a) b ∧ v ≠ .ref a) ∨ (flatV v = true ∧ flatV z = true ∧ eqV v z = b)
  | 0, v, z, b, h1, h2, h3 => by
    have e1 := Option.some.inj h1
    have e2 := Option.some.inj h2
    have e3 := Option.some.inj h3
    subst e1 e2 e3
    exact .inl ⟨y, rfl, e, n⟩
  | 1, v, z, b, h1, h2, h3 => by
    have e1 := Option.some.inj h1
    have e2 := Option.some.inj h2
    have e3 := Option.some.inj h3
    subst e1 e2 e3
    exact .inr ⟨rfl, rfl, rfl⟩
  | i + 2, v, z, b, h1, _, _ => by simp at h1
theorem eqv_dTalk (ls ls' : List Int) (bs bs' : List (List Int)) : PyData.eqv (dTalk ls bs) (dTalk ls' bs') = decide (ls = ls' ∧ bs = bs') := by
  unfold dTalk
  simp only [PyData.eqv, PyData.eqvAll, eqv_dInts, eqv_dRows, Bool.and_true]
  rw [Bool.eq_iff_iff]
  simp
theorem five_all {K : PySem.W.Frag} {H : Hp} (t : Bool) : DpAll K H [V.bl t, V.bl t, V.bl t, V.bl t, V.bl t] [.bool t, .bool t, .bool t, .bool t, .bool t] := .cons (.bl _) (.cons (.bl _) (.cons (.bl _) (.cons (.bl _) (.cons (.bl _) .nil))))
theorem five_shw (t : Bool) : Shw (.list [.bool t, .bool t, .bool t, .bool t, .bool t]) := by
  have s : Sml 1 (5 * (0 + 1)) (.list [.bool t, .bool t, .bool t, .bool t, .bool t]) := Sml.lst (xs := [.bool t, .bool t, .bool t, .bool t, .bool t]) (fun x hx => by
    have : x = .bool t := by simpa using hx
    rw [this]
    exact Sml.bool) (Nat.le_refl 5)
  exact s.shw (by decide) (by decide)
theorem any_one (t : Bool) : (if (false : Bool) = true then !([t].any id) else [t].any id) = t := by cases t <;> rfl
theorem any_three (t : Bool) : (if (false : Bool) = true then !([false, false, t].any id) else [false, false, t].any id) = t := by cases t <;> rfl
theorem all_two (t : Bool) : [t, true].all id = t := by cases t <;> rfl
def spEqual : Sp := fun vs H Q _ => ∃ p p' ls bs ls' bs', vs = [.ref p, .ref p'] ∧ TalkRow H p ls bs ∧ TalkRow H p' ls' bs' ∧ Low ls ∧ LowRows bs ∧ Low ls' ∧ LowRows bs' ∧ ∀ H', Same H H' → Q (.bl true) H'
section
variable {P : Program} {w : World} {K : PySem.W.Frag} {mg : Str → Option Value} {base : Heap} {C fI fL fS fR fM fE : Addr} {fdI fdE : FuncData}
theorem ok_equal {f : Addr} {fd : FuncData} (F : Fun K "_law_equal_right" "_law_equal_right" sEqual f fd) (T : TkF K C fI fL fS fR fM) (Z : EqC K C fE) (mC : mg "Talk" = some (.ref C)) (mR : mg "repr" = none) (mI : mg "isinstance" = none)
    (FI : Fun K "__init__" "Talk.__init__" sInit fI fdI) (bI : L2.Binds K fdI ["self", "lengths", "sizes"] []) (FE : Fun K "__eq__" "Talk.__eq__" sEq fE fdE) (bE : L2.Binds K fdE ["self", "other"] []) : FnG P w K mg base CX0 6 f fd ["_law_one", "_law_other"] spEqual := by
  have GI : FnOk P w K mg base CX0 1 fI fdI ["self", "lengths", "sizes"] (spInit C) := ok_init FI T.toTkB
  have GE : FnOk P w K mg base CX0 1 fE fdE ["self", "other"] (spEqv K C) := ok_eqv FE T.toTkB Z mC mI
  refine okG F scEqual (fun vs H Q E h => ?_) (fun cdv A outer s H0 vs Q E gA hr h => ?_)
  · obtain ⟨_, _, _, _, _, _, rfl, _⟩ := h
    rfl
  · have nd := scEqual.nd
    have hr1 : Room 1 _ := hr.mono (by decide)
    have hr2 : Room 2 _ := hr.mono (by decide)
    refine ⟨_, pss_cons (ps_par (i := 2) (j := 3) rfl nd rfl rfl (by decide) rfl rfl (pa_cons (pe_make T.make GI hr2 (by rfl) mC bI .nil pass0 (pa_cons (pe_ix ix_tup (pv 0) (pe_int) (fun _ _ => rfl)) (pa_cons (pe_ix ix_tup (pv 0) (pe_int) (fun _ _ => rfl)) pa_nil))) (pa_cons (pe_make T.make GI hr2 (by rfl) mC bI .nil pass0 (pa_cons (pe_ix ix_tup (pv 1) (pe_int) (fun _ _ => rfl)) (pa_cons (pe_ix ix_tup (pv 1) (pe_int) (fun _ _ => rfl)) pa_nil))) pa_nil)) rfl)
    (pss_cons (ps_set (i := 4) nd rfl (Or.inl rfl) (pe_lst (pa_cons (pe_cmpR (op_eqR T.toTkB Z GE bE hr1) (pv 2) (pv 3) (nomark _)) (pa_cons (pe_cmpR (op_eqR T.toTkB Z GE bE hr1) (pv 3) (pv 2) (nomark _)) (pa_cons (pe_cmpR (op_inR T.toTkB Z GE bE hr2) (pv 2) (pe_lst (pa_cons (pv 3) pa_nil)) (by rfl)) (pa_cons (pe_cmpR (op_inR T.toTkB Z GE bE hr2) (pv 2) (pe_tup (pa_cons (pe_non) (pa_cons (pv 0) (pa_cons (pv 3) pa_nil)))) (by rfl)) (pa_cons (pe_cmpR (op_eqTup T.toTkB Z GE bE hr2) (pe_tup (pa_cons (pv 2) (pa_cons (pe_int) pa_nil))) (pe_tup (pa_cons (pv 3) (pa_cons (pe_int) pa_nil))) (nomark _)) pa_nil)))))))
    (pss_one (ps_ret (pe_and (pe_cmpR op_eq (pe_callB (call_reprD gA hr.units) (by rfl) mR boot_repr (pa_cons (pv 4) pa_nil)) (pe_callB (call_reprD gA hr.units) (by rfl) mR boot_repr (pa_cons (pe_op op_rep (pe_lst (pa_cons (pe_cmpR (op_eqD hr.units) (pv 0) (pv 1) (nomark _)) pa_nil)) (pe_int)) pa_nil)) (nomark _)) (pe_one (pe_cmpR op_eq (pe_callB (call_reprD gA hr.units) (by rfl) mR boot_repr (pa_cons (pe_cmpR (op_neR T.toTkB Z GE bE hr2) (pv 2) (pv 3) (nomark _)) pa_nil)) (pe_callB (call_reprD gA hr.units) (by rfl) mR boot_repr (pa_cons (pe_cmpR (op_neD hr.units) (pv 0) (pv 1) (nomark _)) pa_nil)) (nomark _))))))), ?_⟩
    obtain ⟨p, p', ls, bs, ls', bs', rfl, row, row', lo, lor, lo', lor', k⟩ := h
    obtain ⟨a, b, qs, h1, h2, h3, h4⟩ := id row
    obtain ⟨a', b', qs', g1, g2, g3, g4⟩ := id row'
    refine ⟨_, rfl, p, _, 0, _, rfl, rfl, SqT.of h1, at_of (j := 0) rfl rfl, _, rfl, p, _, 1, _, rfl, rfl, SqT.of h1, at_of (j := 1) rfl rfl, ?_⟩
    refine fun x dx nx ndx ne => made_talk nx ndx ne fun H1 s1 ⟨dx, hx⟩ => ⟨rfl, ?_⟩
    refine ⟨_, rfl, p', _, 0, _, rfl, rfl, SqT.of (s1 _ _ g1), at_of (j := 0) rfl rfl, _, rfl, p', _, 1, _, rfl, rfl, SqT.of (s1 _ _ g1), at_of (j := 1) rfl rfl, ?_⟩
    refine fun y dy ny ndy ne => made_talk ny ndy ne fun H2 s2 ⟨dy, hy⟩ => ⟨rfl, ?_⟩
    have nxy : y ≠ x := Ne.symm (ne_of_none hx ny)
    have s12 := s1.trans s2
    have hx2 := s2 _ _ hx
    have tx : TalkAt C H2 x ls bs := ⟨dx, a, b, qs, hx2, s12 _ _ h2, s12 _ _ h3, h4.imp fun _ _ e => s12 _ _ e⟩
    have ty : TalkAt C H2 y ls' bs' := ⟨dy, a', b', qs', hy, s12 _ _ g2, s12 _ _ g3, g4.imp fun _ _ e => s12 _ _ e⟩
    obtain ⟨t, ht⟩ : ∃ t, t = decide (ls = ls' ∧ bs = bs') := ⟨_, rfl⟩
    have exy : EqR C H2 (.ref x) (.ref y) t := ht ▸ .tt tx ty lo lor lo' lor'
    have eyx : EqR C H2 (.ref y) (.ref x) t := by
      have e : t = decide (ls' = ls ∧ bs' = bs) := by
        rw [ht]
        exact decide_eq_decide.mpr ⟨fun ⟨u, v⟩ => ⟨u.symm, v.symm⟩, fun ⟨u, v⟩ => ⟨u.symm, v.symm⟩⟩
      exact e ▸ .tt ty tx lo' lor' lo lor
    refine ⟨_, _, rfl, _, rfl, _, rfl, t, exy, _, rfl, _, rfl, t, eyx, ?_⟩
    refine ⟨_, rfl, _, rfl, (by show 1 ≤ sizeLine; decide), fun L hL => ?_⟩
    have s3 : Same H2 (upd H2 L (.lst [.ref y])) := Same.upd hL
    have eL : upd H2 L (.lst [.ref y]) L = some (.lst [.ref y]) := upd_same
    generalize upd H2 L (.lst [.ref y]) = H3 at s3 eL ⊢
    have nv : V.ref y ≠ V.ref x := fun e => nxy (V.ref.inj e)
    refine ⟨x, L, [.ref y], [t], rfl, rfl, .inl eL, rfl, Ins.at_ (.cons (eyx.same s3) nv .nil), ?_⟩
    rw [any_one]
    refine ⟨_, rfl, _, rfl, _, rfl, (by show 3 ≤ sizeLine; decide), fun M hM => ?_⟩
    have s4 : Same H3 (upd H3 M (.tup [.non, .ref p, .ref y])) := Same.upd hM
    have eM : upd H3 M (.tup [.non, .ref p, .ref y]) M = some (.tup [.non, .ref p, .ref y]) := upd_same
    generalize upd H3 M (.tup [.non, .ref p, .ref y]) = H4 at s4 eM ⊢
    have s24 := s3.trans s4
    have s04 := s12.trans s24
    have np : V.ref p ≠ V.ref x := fun e => ne_of_none h1 nx (V.ref.inj e)
    refine ⟨x, M, [.non, .ref p, .ref y], [false, false, t], rfl, rfl, .inr (SqT.of eM), rfl, Ins.at_ (.cons (.bt (tx.same s24) .non) (fun e => by cases e) (.cons (.bt (tx.same s24) (.tup (s04 _ _ h1))) np (.cons (eyx.same s24) nv .nil))), ?_⟩
    rw [any_three]
    refine ⟨_, rfl, (by show 2 ≤ sizeLine; decide), fun U hU => ?_⟩
    have s5 : Same H4 (upd H4 U (.tup [.ref x, .int 1])) := Same.upd hU
    have eU : upd H4 U (.tup [.ref x, .int 1]) U = some (.tup [.ref x, .int 1]) := upd_same
    generalize upd H4 U (.tup [.ref x, .int 1]) = H5 at s5 eU ⊢
    refine ⟨_, rfl, (by show 2 ≤ sizeLine; decide), fun W hW => ?_⟩
    have s6 : Same H5 (upd H5 W (.tup [.ref y, .int 1])) := Same.upd hW
    have eW : upd H5 W (.tup [.ref y, .int 1]) W = some (.tup [.ref y, .int 1]) := upd_same
    generalize upd H5 W (.tup [.ref y, .int 1]) = H6 at s6 eW ⊢
    have s46 := s5.trans s6
    have s26 := s24.trans s46
    refine ⟨U, W, [.ref x, .int 1], [.ref y, .int 1], [t, true], rfl, rfl, SqT.of (s6 _ _ eU), SqT.of eW, rfl, rfl, pair_at (exy.same s26) (Ne.symm nv), ?_⟩
    rw [all_two]
    refine ⟨(by show 5 ≤ sizeLine; decide), fun N hN => ?_⟩
    have s7 : Same H6 (upd H6 N (.lst [.bl t, .bl t, .bl t, .bl t, .bl t])) := Same.upd hN
    have eN : upd H6 N (.lst [.bl t, .bl t, .bl t, .bl t, .bl t]) N = some (.lst [.bl t, .bl t, .bl t, .bl t, .bl t]) := upd_same
    change gName 4 (V.ref N) _ (upd H6 N (.lst [.bl t, .bl t, .bl t, .bl t, .bl t])) _
    generalize upd H6 N (.lst [.bl t, .bl t, .bl t, .bl t, .bl t]) = H7 at s7 eN ⊢
    have s27 := s26.trans s7
    have s07 := s12.trans s27
    have sw1 := talk_sml lo lor
    have sw2 := talk_sml lo' lor'
    refine ⟨_, rfl, _, _, rfl, .lst (SqL.of eN) (five_all t), five_shw t, ?_⟩
    refine ⟨_, rfl, _, rfl, dTalk ls bs, dTalk ls' bs', (row.same s07).dp, (row'.same s07).dp, sw1.shaped (by decide), sw2.shaped (by decide), ?_⟩
    rw [eqv_dTalk, ← ht]
    refine ⟨(by show 1 ≤ sizeLine; decide), fun R hR => ?_⟩
    have s8 : Same H7 (upd H7 R (.lst [.bl t])) := Same.upd hR
    have eR : upd H7 R (.lst [.bl t]) R = some (.lst [.bl t]) := upd_same
    generalize upd H7 R (.lst [.bl t]) = H8 at s8 eR ⊢
    refine ⟨R, 5, [.bl t], rfl, rfl, eR, by decide, by decide, (by show 5 ≤ sizeLine; decide), fun S hS => ?_⟩
    have s9 : Same H8 (upd H8 S (.lst [.bl t, .bl t, .bl t, .bl t, .bl t])) := Same.upd hS
    have eS : upd H8 S (.lst [.bl t, .bl t, .bl t, .bl t, .bl t]) S = some (.lst [.bl t, .bl t, .bl t, .bl t, .bl t]) := upd_same
    refine ⟨_, _, rfl, .lst (SqL.of eS) (five_all t), five_shw t, ?_⟩
    refine ⟨rfl, true, by rw [decide_eq_true rfl], ?_⟩
    rw [if_pos rfl]
    have s29 := (s27.trans s8).trans s9
    have s09 := s12.trans s29
    refine ⟨_, rfl, _, rfl, x, t, rfl, exy.same s29, ⟨ls, bs, tx.same s29⟩, _, .bool (!t), rfl, .bl _, Sml.bool.shw (by decide) (by decide), ?_⟩
    refine ⟨_, rfl, _, rfl, dTalk ls bs, dTalk ls' bs', (row.same s09).dp, (row'.same s09).dp, sw1.shaped (by decide), sw2.shaped (by decide), ?_⟩
    rw [eqv_dTalk, ← ht]
    refine ⟨_, .bool (!t), rfl, .bl _, Sml.bool.shw (by decide) (by decide), rfl, ?_⟩
    rw [decide_eq_true rfl]
    exact k _ s09
end
end Rp

namespace Rp
open PySem PySem.Spec PyProof.Rows L2 TL
abbrev sUnlike : Stmt := topS 10
theorem scUnlike : FnScope ["_law_row", "_law_talk_here", "_law_some", "_law_thing"] ["_law_row"] (defScope sUnlike) := ⟨rfl, rfl, rfl, by decide +kernel, rfl, by decide +kernel, by decide +kernel⟩
theorem op_isnotB {X : Cx} : OpR X (compareOp .IsNot) (fun x y H Q => ∃ a b, x = .bl a ∧ y = .bl b ∧ Q (.bl (!decide (a = b))) H) := by
  intro pins s σ H x y v u Q I rx ry h
  obtain ⟨a, b, rfl, rfl, q⟩ := h
  cases rx
  cases ry
  show wpAny _ _ ((isSame (Value.bool a) (Value.bool b)) >>= fun z => pure (Value.bool (!z))) _ _ s
  have e : (Value.bool a == Value.bool b) = decide (a = b) := by cases a <;> cases b <;> rfl
  exact wpAny_bind (wpAny_isSame_plain rfl (by rw [e]; exact wpAny_pure (fin_bl I q rfl)))
section
variable {P : Program} {w : World} {K : PySem.W.Frag} {mg : Str → Option Value} {base : Heap} {C fI fL fS fR fM fE : Addr} {fdI fdL fdS fdR fdM fdE : FuncData}
theorem ok_unlike {f : Addr} {fd : FuncData} (F : Fun K "_law_unlike_right" "_law_unlike_right" sUnlike f fd) (B : Bi mg) (T : TkF K C fI fL fS fR fM) (Z : EqC K C fE) (mC : mg "Talk" = some (.ref C)) (mS : mg "str" = none) (mR : mg "repr" = none) (mSum : mg "sum" = none) (mI : mg "isinstance" = none) (mL : mg "list" = none)
    (FI : Fun K "__init__" "Talk.__init__" sInit fI fdI) (bI : L2.Binds K fdI ["self", "lengths", "sizes"] []) (FL : Fun K "__len__" "Talk.__len__" sLen fL fdL) (bL : L2.Binds K fdL ["self"] []) (FM : Fun K "many_rates" "Talk.many_rates" sMany fM fdM) (bM : L2.Binds K fdM ["self"] [])
    (FS : Fun K "__str__" "Talk.__str__" sStr fS fdS) (bS : L2.Binds K fdS ["self"] []) (FR : Fun K "__repr__" "Talk.__repr__" sRepr fR fdR) (bR : L2.Binds K fdR ["self"] []) (FE : Fun K "__eq__" "Talk.__eq__" sEq fE fdE) (bE : L2.Binds K fdE ["self", "other"] []) : FnG P w K mg base CX0 6 f fd ["_law_row"] spTold := by
  have GI : FnOk P w K mg base CX0 1 fI fdI ["self", "lengths", "sizes"] (spInit C) := ok_init FI T.toTkB
  have GL : FnOk P w K mg base CX0 1 fL fdL ["self"] (spLen C) := ok_len FL T.toTkB B mSum
  have GS : FnOk P w K mg base CX0 3 fS fdS ["self"] (spStr C) := ok_str FS T B mSum FL bL FM bM
  have GR : FnA P w K mg base CX0 1 fR fdR ["self"] (spRepr C) := ok_repr FR T
  have GE : FnOk P w K mg base CX0 1 fE fdE ["self", "other"] (spEqv K C) := ok_eqv FE T.toTkB Z mC mI
  refine okG F scUnlike (fun vs H Q E h => ?_) (fun cdv A outer s H0 vs Q E gA hr h => ?_)
  · obtain ⟨_, _, _, rfl, _⟩ := h
    rfl
  · have nd := scUnlike.nd
    have hr1 : Room 1 _ := hr.mono (by decide)
    have hr2 : Room 2 _ := hr.mono (by decide)
    have hr5 : Room 5 _ := hr.mono (by decide)
    refine ⟨_, pss_cons (ps_set (i := 1) nd rfl (Or.inl rfl) (pe_make T.make GI hr2 (by rfl) mC bI .nil pass0 (pa_cons (pe_ix ix_tup (pv 0) (pe_int) (fun _ _ => rfl)) (pa_cons (pe_ix ix_tup (pv 0) (pe_int) (fun _ _ => rfl)) pa_nil))))
    (pss_cons (ps_set (i := 2) nd rfl (Or.inl rfl) (pe_lst (pa_cons (pv 0) (pa_cons (pe_ix ix_tup (pv 0) (pe_int) (fun _ _ => rfl)) (pa_cons (pe_callTy call_list_of (by rfl) mL boot_list (pa_cons (pv 0) pa_nil)) (pa_cons (pe_callB (call_reprI (E := fun _ _ _ => False) GR T.rp T.rpf bR pass0 gA ⟨hr2.dp, hr2.un⟩) (by rfl) mR boot_repr (pa_cons (pv 1) pa_nil)) (pa_cons (pe_callTy (call_strI (E := fun _ _ _ => False) GS T.st T.stf bS pass0 hr5) (by rfl) mS boot_str (pa_cons (pv 1) pa_nil)) (pa_cons (pe_callB (call_lenI (E := fun _ _ _ => False) GL T.ln T.lnf bL pass0 hr2) (by rfl) B.len PySem.boot_len (pa_cons (pv 1) pa_nil)) (pa_cons (pe_non) (pa_cons (pe_bl) (pa_cons (pe_tup (pa_nil)) (pa_cons (pe_lst (pa_cons (pv 1) pa_nil)) (pa_cons (pe_tup (pa_cons (pv 1) pa_nil)) (pa_cons (pe_dnewK) (pa_cons (pe_str) pa_nil)))))))))))))))
    (pss_cons (ps_for PassesOwn.never rfl (pi_list (pv 2)) (pg_name (i := 3) nd rfl (Or.inl rfl)) (pss_one (ps_if (PW.pt (pw_or (pt_cmpR op_isnotB (pe_cmpR (op_eqR T.toTkB Z GE bE hr1) (pv 1) (pv 3) (nomark _)) (pe_bl) (nomark _)) (pw_or (pt_cmpR op_isnotB (pe_cmpR (op_eqR T.toTkB Z GE bE hr1) (pv 3) (pv 1) (nomark _)) (pe_bl) (nomark _)) (pw_or1 (pt_cmpR op_isnotB (pe_cmpR (op_neR T.toTkB Z GE bE hr2) (pv 1) (pv 3) (nomark _)) (pe_bl) (nomark _)))))) (pss_one (ps_ret (pe_bl))) (pss_nil))))
    (pss_one (ps_ret (pe_cmpR (op_notInR T.toTkB Z GE bE hr2) (pv 1) (pv 2) (by rfl)))))), ?_⟩
    obtain ⟨p, ns, bs, rfl, row, ok, k⟩ := h
    obtain ⟨row0, rest, rfl⟩ := ok.cons
    obtain ⟨a, b, qs, h1, h2, h3, h4⟩ := id row
    have tb := sum_le ok.most ok.ns
    have lo := ok.low
    refine ⟨_, rfl, p, _, 0, _, rfl, rfl, SqT.of h1, at_of (j := 0) rfl rfl, _, rfl, p, _, 1, _, rfl, rfl, SqT.of h1, at_of (j := 1) rfl rfl, ?_⟩
    refine fun x dx nx ndx ne => made_talk nx ndx ne fun H1 s1 ⟨dx, hx⟩ => ⟨rfl, ?_⟩
    have tx : TalkAt C H1 x (natI ns) (row0 :: rest) := ⟨dx, a, b, qs, hx, s1 _ _ h2, s1 _ _ h3, h4.imp fun _ _ e => s1 _ _ e⟩
    refine ⟨_, rfl, _, rfl, p, _, 0, _, rfl, rfl, SqT.of (s1 _ _ h1), at_of (j := 0) rfl rfl, _, rfl, p, _, rfl, .inr (SqT.of (s1 _ _ h1)), fun l hl => ?_⟩
    have s2 : Same H1 (upd H1 l (.lst [.ref a, .ref b])) := Same.upd hl
    have el : upd H1 l (.lst [.ref a, .ref b]) l = some (.lst [.ref a, .ref b]) := upd_same
    generalize upd H1 l (.lst [.ref a, .ref b]) = H2 at s2 el ⊢
    refine ⟨_, rfl, x, dx, _, rfl, s2 _ _ hx, x, _, _, rfl, tx.same s2, lo, ok.bs, _, rfl, ?_⟩
    refine ⟨_, rfl, x, dx, _, rfl, s2 _ _ hx, x, ns, row0, rest, rfl, tx.same s2, ok, fun H3 s3 => ⟨_, rfl, ?_⟩⟩
    have s23 := s2.trans s3
    refine ⟨_, rfl, x, dx, _, rfl, s23 _ _ hx, x, ns, row0 :: rest, rfl, tx.same s23, by omega, fun H4 s4 => ⟨ns.sum, rfl, by omega, ?_⟩⟩
    refine ⟨(by show 0 ≤ sizeLine; decide), fun e he => ?_⟩
    have s5 : Same H4 (upd H4 e (.tup [])) := Same.upd he
    have ee : upd H4 e (.tup []) e = some (.tup []) := upd_same
    generalize upd H4 e (.tup []) = H5 at s5 ee ⊢
    refine ⟨_, rfl, (by show 1 ≤ sizeLine; decide), fun m hm => ?_⟩
    have s6 : Same H5 (upd H5 m (.lst [.ref x])) := Same.upd hm
    have em : upd H5 m (.lst [.ref x]) m = some (.lst [.ref x]) := upd_same
    generalize upd H5 m (.lst [.ref x]) = H6 at s6 em ⊢
    refine ⟨_, rfl, (by show 1 ≤ sizeLine; decide), fun u hu => ?_⟩
    have s7 : Same H6 (upd H6 u (.tup [.ref x])) := Same.upd hu
    have eu : upd H6 u (.tup [.ref x]) u = some (.tup [.ref x]) := upd_same
    generalize upd H6 u (.tup [.ref x]) = H7 at s7 eu ⊢
    refine fun d hd => ?_
    have s8 : Same H7 (upd H7 d (.dK [])) := Same.upd hd
    have ed : upd H7 d (.dK []) d = some (.dK []) := upd_same
    generalize upd H7 d (.dK []) = H8 at s8 ed ⊢
    have s38 := (((s4.trans s5).trans s6).trans s7).trans s8
    have s18 := s23.trans s38
    have tx8 := tx.same s18
    have all8 : ∀ v ∈ ([.ref p, .ref a, .ref l, .str (reprText' (natI ns) (row0 :: rest)), .str (strText ns.length ns.sum row0.length), .int (ns.sum : Nat), .non, .bl true, .ref e, .ref m, .ref u, .ref d, .str ""] : List V), ∃ Ty, Bth H8 v Ty := by
      intro v hv
      simp only [List.mem_cons, List.not_mem_nil, or_false] at hv
      have c1 := (s1.trans s18) _ _ h1
      have c2 := (s1.trans s18) _ _ h2
      have c3 := (s3.trans s38) _ _ el
      have c4 := ((s6.trans s7).trans s8) _ _ ee
      have c5 := (s7.trans s8) _ _ em
      have c6 := s8 _ _ eu
      rcases hv with rfl | rfl | rfl | rfl | rfl | rfl | rfl | rfl | rfl | rfl | rfl | rfl | rfl
      · exact ⟨_, .tup c1⟩
      · exact ⟨_, .tup c2⟩
      · exact ⟨_, .lst c3⟩
      · exact ⟨_, .str _⟩
      · exact ⟨_, .str _⟩
      · exact ⟨_, .int _⟩
      · exact ⟨_, .non⟩
      · exact ⟨_, .bl _⟩
      · exact ⟨_, .tup c4⟩
      · exact ⟨_, .lst c5⟩
      · exact ⟨_, .tup c6⟩
      · exact ⟨_, .dK ed⟩
      · exact ⟨_, .str _⟩
    refine ⟨(by show 13 ≤ sizeLine; decide), fun S hS => ?_⟩
    have s9 : Same H8 (upd H8 S (.lst [.ref p, .ref a, .ref l, .str (reprText' (natI ns) (row0 :: rest)), .str (strText ns.length ns.sum row0.length), .int (ns.sum : Nat), .non, .bl true, .ref e, .ref m, .ref u, .ref d, .str ""])) := Same.upd hS
    have eS : upd H8 S (.lst [.ref p, .ref a, .ref l, .str (reprText' (natI ns) (row0 :: rest)), .str (strText ns.length ns.sum row0.length), .int (ns.sum : Nat), .non, .bl true, .ref e, .ref m, .ref u, .ref d, .str ""]) S = some (.lst [.ref p, .ref a, .ref l, .str (reprText' (natI ns) (row0 :: rest)), .str (strText ns.length ns.sum row0.length), .int (ns.sum : Nat), .non, .bl true, .ref e, .ref m, .ref u, .ref d, .str ""]) := upd_same
    change gName 2 (V.ref S) _ (upd H8 S (.lst [.ref p, .ref a, .ref l, .str (reprText' (natI ns) (row0 :: rest)), .str (strText ns.length ns.sum row0.length), .int (ns.sum : Nat), .non, .bl true, .ref e, .ref m, .ref u, .ref d, .str ""])) _
    generalize upd H8 S (.lst [.ref p, .ref a, .ref l, .str (reprText' (natI ns) (row0 :: rest)), .str (strText ns.length ns.sum row0.length), .int (ns.sum : Nat), .non, .bl true, .ref e, .ref m, .ref u, .ref d, .str ""]) = H9 at s9 eS ⊢
    have tx9 := tx8.same s9
    have ho : ∃ XS : List V, XS = [.ref p, .ref a, .ref l, .str (reprText' (natI ns) (row0 :: rest)), .str (strText ns.length ns.sum row0.length), .int (ns.sum : Nat), .non, .bl true, .ref e, .ref m, .ref u, .ref d, .str ""] := ⟨_, rfl⟩
    obtain ⟨XS, hXS⟩ := ho
    rw [← hXS] at all8 eS
    have all9 : ∀ v ∈ XS, ∃ Ty, Bth H9 v Ty := fun v hv => let ⟨Ty, h⟩ := all8 v hv; ⟨Ty, h.same s9⟩
    refine ⟨_, rfl, S, rfl, ⟨_, SqL.of eS⟩, ?_⟩
    refine for_list (K := K) (a := S) (xs := XS) (fun i σ H' => ∃ v3, σ = [some (.ref p), some (.ref x), some (.ref S), v3] ∧ H' = H9) ⟨_, rfl, rfl⟩ (fun j σ H' _ ⟨_, _, e⟩ => by rw [e]; exact SqL.of eS) ?_ ?_
    · rintro i v σ H' hv ⟨v3, rfl, rfl⟩
      obtain ⟨Ty, hb⟩ := all9 v (List.mem_of_getElem? hv)
      refine ⟨_, rfl, _, rfl, false, .tb tx9 hb, false, false, rfl, rfl, _, rfl, ?_⟩
      refine iteF ?_
      refine ⟨_, rfl, _, rfl, false, .bt tx9 hb, false, false, rfl, rfl, _, rfl, ?_⟩
      refine iteF ?_
      refine ⟨_, rfl, _, rfl, x, false, rfl, .tb tx9 hb, ⟨_, _, tx9⟩, !false, true, rfl, rfl, _, rfl, ?_⟩
      refine iteF ?_
      exact ⟨some v, rfl, rfl⟩
    · rintro σ H' ⟨v3, rfl, rfl⟩
      refine ⟨_, rfl, _, rfl, x, S, XS, XS.map fun _ => false, rfl, rfl, .inl eS, by rw [List.length_map], fun i v b hv hb => ?_, ?_⟩
      · obtain ⟨Ty, h⟩ := all9 v (List.mem_of_getElem? hv)
        rw [List.getElem?_map, hv] at hb
        have eb := Option.some.inj hb
        subst eb
        exact ⟨.bt tx9 h, fun e => talk_not tx9 (e ▸ h)⟩
      · have e : ((XS.map fun _ => false).any id) = false := by simp
        rw [e]
        exact k _ ((s1.trans s18).trans s9)
end
end Rp

/-! tuple[::-1] -/
namespace HT
open PySem PySem.Spec PyProof.Rows
section
variable {prog : Program} {w : World} {A : Around} {E : Value → Shared → Prop} {s : Shared}
theorem adjust_rev (n : Nat) : Builtin.Slice.sliceAdjust none none (-1) (n : Int) = ((n : Int) - 1, -1) := by
  unfold Builtin.Slice.sliceAdjust
  rfl
theorem places_rev (n : Nat) : Builtin.Slice.slicePlaces ((n : Int) - 1) (-1) (-1) = n := by
  unfold Builtin.Slice.slicePlaces
  have h1 : ¬ ((-1 : Int) > 0) := by omega
  simp only [h1, if_false]
  rw [show (- -1 : Int) = 1 by decide, Int.ediv_one]
  split <;> omega
theorem sliceApplied_rev {sl : Addr} {vs : Value} {n : Nat} {Q : Int × Int × Nat → Shared → Prop} (hs : s.heap.IsSliceOf sl .none .none vs) (ps : IsPart vs (some (-1)))
    (h : Q ((n : Int) - 1, -1, n) s) : wpAny (model prog w) A (Builtin.Slice.sliceApplied (.ref sl) (pure (n : Int))) Q E s := by
  obtain ⟨os, hos, hcs, hds⟩ := id hs
  unfold Builtin.Slice.sliceApplied Builtin.Slice.sliceFields
  refine wpAny_bind (wpAny_bind (wpAny_field hos hds (x := .none) rfl (wpAny_bind (wpAny_field hos hds (x := .none) rfl (wpAny_bind (wpAny_field hos hds (x := vs) rfl (wpAny_pure ?_)))))))
  refine wpAny_bind (slicePart_ ps ?_)
  show wpAny _ _ (if ((-1 : Int) == 0) = true then _ else _) _ _ s
  rw [if_neg (by decide)]
  refine wpAny_bind (slicePart_none (wpAny_bind (slicePart_none (wpAny_bind (wpAny_pure ?_)))))
  show wpAny _ _ (match Builtin.Slice.sliceAdjust none none (-1) (n : Int) with | (lo, hi) => pure (lo, (-1 : Int), Builtin.Slice.slicePlaces lo hi (-1))) _ _ s
  rw [adjust_rev n]
  show wpAny _ _ (pure ((n : Int) - 1, (-1 : Int), Builtin.Slice.slicePlaces ((n : Int) - 1) (-1) (-1))) _ _ s
  rw [places_rev]
  exact wpAny_pure h
theorem fm_congr {α β : Type} {f g : α → Option β} : ∀ {l : List α}, (∀ m ∈ l, f m = g m) → l.filterMap f = l.filterMap g
  | [], _ => rfl
  | a :: l, h => by
    have ih := fm_congr (l := l) fun m hm => h m (List.mem_cons_of_mem _ hm)
    rw [List.filterMap_cons, List.filterMap_cons, h a List.mem_cons_self, ih]
theorem pick_rev (xs : Array Value) : ((List.range xs.size).filterMap fun (m : Nat) => xs[(((xs.size : Nat) : Int) - 1 + (m : Int) * (-1)).toNat]?).toArray = xs.toList.reverse.toArray := by
  have e := PySem.W.krv_pick xs
  unfold slicePick at e
  rw [PySem.W.krv_bounds] at e
  have e2 : ((sliceRange ((xs.size : Int) - 1) (-1) (-1)).filterMap (xs[·]?)).toArray = xs.toList.reverse.toArray := e
  rw [PySem.W.krv_sliceRange, List.filterMap_map] at e2
  rw [← e2]
  refine congrArg List.toArray (fm_congr fun m hm => ?_)
  have := List.mem_range.mp hm
  have q : (((xs.size : Nat) : Int) - 1 + (m : Int) * (-1)).toNat = xs.size - 1 - m := by omega
  rw [q]
  rfl
theorem getItem_tuple_rev {t sl : Addr} {items : Array Value} {vs : Value} {Q : Value → Shared → Prop} (ht : IsTup s.heap t items) (hs : s.heap.IsSliceOf sl .none .none vs) (ps : IsPart vs (some (-1)))
    (h : Q (.ref s.heap.objs.size) { s with heap := s.heap.push { cls := .type "tuple", data := .seq items.toList.reverse.toArray } })
    (hsz : items.size ≤ sizeLine) : wpAny (model prog w) A (getItem (.ref t) (.ref sl)) Q E s := by
  have htake : sizeOk (.seq items.toList.reverse.toArray) := by
    show items.toList.reverse.toArray.size ≤ sizeLine
    rw [List.size_toArray, List.length_reverse, Array.length_toList]
    exact hsz
  obtain ⟨os, hos, hcs, hds⟩ := id hs
  have hTs : s.TypeIs (.ref sl) "slice" := ⟨os, hos, hcs⟩
  unfold getItem
  try with_reducible refine wpAny_holding ?_
  first | refine wpAny_bind (wpAny_pure ?_) | skip
  refine wpAny_bind (wpAny_sequenceKey ht.typeIs (by decide) ?_)
  refine wpAny_bind (wpAny_callSpecial?_slot (name := Str.ofString "__getitem__") ht.typeIs PyProof.Rows.slot_tuple_getitem
    (wpAny_call_entry PyProof.Rows.slot_tuple_getitem ht.typeIs entry_tuple_getitem ?_ (args_tuple_getitem _ _)))
  show wpAny _ _ (Builtin.Tuple.tupleItemsOf (.ref t) >>= _) _ _ s
  refine wpAny_bind (tupleItemsOf_ ht ?_)
  refine wpAny_bind (wpAny_typeOf hTs ?_)
  rw [if_pos (by decide)]
  refine wpAny_bind (sliceApplied_rev hs ps ?_)
  have hno : ¬ ((((items.size : Int) - 1) == 0 && (-1 : Int) == 1 && items.size == items.size) = true) := by
    intro q
    rw [Bool.and_eq_true, Bool.and_eq_true] at q
    exact absurd q.1.2 (by decide)
  show wpAny _ _ (if (((items.size : Int) - 1) == 0 && (-1 : Int) == 1 && items.size == items.size) = true then _ else _) _ _ s
  rw [if_neg hno, pick_rev]
  first
    | exact wpAny_bind (m := Builtin.Tuple.tupleExact _) (wpAny_newObj_type (wpAny_pure ⟨_, rfl, wpAny_pure h⟩) htake)
    | exact wpAny_bind (m := Builtin.Tuple.tupleExact _) (wpAny_newObj_type (wpAny_bind (wpAny_pure (wpAny_pure ⟨_, rfl, wpAny_pure h⟩))) htake)
    | exact wpAny_bind (wpAny_bind (m := Builtin.Tuple.tupleExact _) (wpAny_newObj_type (wpAny_pure (wpAny_pure ⟨_, rfl, wpAny_pure h⟩)) htake))
    | exact wpAny_bind (wpAny_bind (m := Builtin.Tuple.tupleExact _) (wpAny_newObj_type (wpAny_pure ⟨_, rfl, wpAny_pure h⟩) htake))
end
end HT
namespace L2
open PySem PySem.Spec PyProof.Rows
section
variable {X : Cx}
def tRevT (K : PySem.W.Frag) (te : TE) : TE := fun σ H Q => te σ H fun x H1 => ∃ a xs, x = .ref a ∧ SqT K H1 a xs ∧ ∀ p, H1 p = none → Q (.ref p) (upd H1 p (.tup xs.reverse))
theorem pe_revT {e : Expr} {te : TE} {k : Nat} {p1 p2 p3 pos : Pos} (he : PE X e te) : PE X (.Subscript e (.Slice none none (some (.UnaryOp .USub (.Constant (.int 1) k p1) p2)) p3) pos) (tRevT X.K te) := by
  refine ⟨fun pins s σ H Q I h => ?_⟩
  refine Subscript_ (thn (he.run pins s σ H _ I h) fun v s1 ⟨x, H1, I1, r1, q1⟩ => ?_)
  obtain ⟨a, xs, ex, hx, q⟩ := q1
  subst ex
  cases r1
  have hst : PO X (some (.UnaryOp .USub (.Constant (.int 1) k p1) p2)) (tPart (tUn (rU fun i => .int (-i)) (tC (.int 1)))) := po_some (pe_un un_neg pe_int)
  refine wpAny_Slice (thn (po_none.run pins s1 σ H1 (fun o H2 => o = none ∧ H2 = H1) I1 ⟨rfl, rfl⟩) fun vl s2 ⟨l, H2, I2, pl, el, e2⟩ => ?_)
  subst el e2
  refine thn (po_none.run pins s2 σ H2 (fun o H3 => o = none ∧ H3 = H2) I2 ⟨rfl, rfl⟩) fun vu s3 ⟨u, H3, I3, pu, eu, e3⟩ => ?_
  subst eu e3
  refine thn (hst.run pins s3 σ H3 (fun o H4 => o = some (-1) ∧ H4 = H3) I3 ⟨1, rfl, -1, rfl, rfl, rfl⟩) fun vs s4 ⟨o, H4, I4, ps, eo, e4⟩ => ?_
  subst eo e4
  cases pl
  cases pu
  have I5 : Inv X pins σ H4 { s4 with heap := s4.heap.push { cls := .type "slice", data := .fields #[.none, .none, vs] } } := I4.kept (t' := s4.toks) fun b ob q => Heap.get?_push_of_some _ q
  obtain ⟨its, r, ht, hz⟩ := I5.tuple hx
  have hlen := r.length
  show wpAny (model X.prog X.w) X.A (subscriptTail e (.Slice none none (some (.UnaryOp .USub (.Constant (.int 1) k p1) p2)) p3) (.ref a) (.ref s4.heap.objs.size)) (EP X pins σ Q) X.xe { s4 with heap := s4.heap.push { cls := .type "slice", data := .fields #[.none, .none, vs] } }
  refine tail_any (ops := [.ref a, .ref s4.heap.objs.size]) ht.typeIs (PyProof.Rows.slot_tuple_getitem.lookup) ?_ (by with_unfolding_all rfl)
  refine HT.getItem_tuple_rev ht (Heap.IsSliceOf.new _ .none .none vs) ps ?_ (by rw [List.size_toArray]; omega)
  refine ⟨.ref _, _, I5.laid (t' := s4.toks) (o := .tup xs.reverse) (fun b ob q => Heap.get?_push_of_some _ q) (Nat.le_refl _) ?_, rfl, q _ (I5.hok.fresh (Nat.le_refl _))⟩
  exact ⟨by rw [List.length_reverse]; exact hz, _, r.reverse, IsTup.new _ _⟩
end
end L2

namespace Rp
open PySem PySem.Spec PyProof.Rows L2 TL
abbrev sOther : Stmt := topS 7
theorem scOther : FnScope ["_law_well_here", "_law_row", "_law_lengths", "_law_sizes", "_law_way", "_law_at", "_law_j", "_law_near", "_law_bits"] ["_law_well_here", "_law_row"] (defScope sOther) := ⟨rfl, rfl, rfl, by decide +kernel, rfl, by decide +kernel, by decide +kernel⟩
def rLsK (K : PySem.W.Frag) : List V → Hp → VK → Prop := fun xs H Q => ∃ p ys, xs = [.ref p] ∧ (SqL K H p ys ∨ SqT K H p ys) ∧ ∀ l, H l = none → Q (.ref l) (upd H l (.lst ys))
theorem call_listK {X : Cx} : CallR X (.type "list") (rLsK X.K) := call_list_of
def rTpK (K : PySem.W.Frag) : List V → Hp → VK → Prop := fun xs H Q => ∃ p ys, xs = [.ref p] ∧ ((SqL K H p ys ∧ ∀ l, H l = none → Q (.ref l) (upd H l (.tup ys))) ∨ (SqT K H p ys ∧ Q (.ref p) H))
theorem call_tupK {X : Cx} : CallR X (.type "tuple") (rTpK X.K) := call_tuple_of
def spOther : Sp := fun vs H Q _ => ∃ w p ls bs, vs = [.ref w, .ref p] ∧ Well H w ∧ TalkRow H p ls bs ∧ Fine ls bs ∧ ∀ H' q ns' bs', But w H H' → Well H' w → TalkRow H' q (natI ns') bs' → Okk ns' bs' → Q (.ref q) H'
section
variable {P : Program} {w : World} {K : PySem.W.Frag} {mg : Str → Option Value} {base : Heap}
/-- the body has its term; next: ok_other, F.ok scOther with this term and spOther -/
theorem other_body {f fT : Addr} {fdT : FuncData} {cdv : Value} {A : Around} {outer : List Env} {s : Shared} {H0 : Hp} {E : XK} (B : Bi mg) (mL : mg "list" = none) (FT : Fun K "_law_take" "_law_take" sTake fT fdT) (mT : mg "_law_take" = some (.ref fT)) (bT : L2.Binds K fdT ["_law_well_here", "_law_top"] [])
    (hr1 : Room 1 (A.deeper (envOfC "_law_otherwise" (defScope sOther) s.heap.objs.size f cdv))) :
    ∃ t, PSs (cxOf CX0 P w K mg base ["_law_well_here", "_law_row", "_law_lengths", "_law_sizes", "_law_way", "_law_at", "_law_j", "_law_near", "_law_bits"] "_law_otherwise" (defScope sOther) f cdv A outer s H0 E).nox (defBody sOther) t := by
  have G : FnOk P w K mg base CX0 1 fT fdT ["_law_well_here", "_law_top"] spTake := ok_take FT
  have nd := scOther.nd
  exact ⟨_, pss_cons (ps_asg (pv 1) (pg_tup rfl (pgs_cons (pg_name (i := 2) nd rfl (Or.inl rfl)) (pgs_cons (pg_name (i := 3) nd rfl (Or.inl rfl)) (pgs_nil)))))
    (pss_cons (ps_set (i := 4) nd rfl (Or.inl rfl) (pe_call G hr1 (by rfl) mT FT.kp bT .nil pass0 (pa_cons (pv 0) (pa_cons (pe_int) pa_nil))))
    (pss_cons (ps_set (i := 5) nd rfl (Or.inl rfl) (pe_call G hr1 (by rfl) mT FT.kp bT .nil pass0 (pa_cons (pv 0) (pa_cons (pe_callB call_len_seq (by rfl) B.len PySem.boot_len (pa_cons (pv 2) pa_nil)) pa_nil))))
    (pss_cons (ps_set (i := 6) nd rfl (Or.inr rfl) (pe_call G hr1 (by rfl) mT FT.kp bT .nil pass0 (pa_cons (pv 0) (pa_cons (pe_callB call_len_seq (by rfl) B.len PySem.boot_len (pa_cons (pe_ix ix_tup (pv 3) (pe_int) (fun _ _ => rfl)) pa_nil)) pa_nil))))
    (pss_cons (ps_if (pt_cmpR op_eq (pv 4) (pe_int) (nomark _)) (pss_cons (ps_set (i := 7) nd rfl (Or.inl rfl) (pe_op op_add (pe_ix ix_tup (pv 2) (pv 5) (fun _ _ => rfl)) (pe_ix ix_list (pe_lst (pa_cons (pe_int) (pa_cons (pe_un un_neg (pe_int)) pa_nil))) (pe_callTy call_int1 (by rfl) B.int boot_int (pa_cons (pe_cmpR op_gt (pe_ix ix_tup (pv 2) (pv 5) (fun _ _ => rfl)) (pe_int) (nomark _)) pa_nil)) (fun _ _ => rfl))))
      (pss_one (ps_ret (pe_tup (pa_cons (pe_op (r := rCatA K) op_catA (pe_op (r := rCatA K) op_catA (pe_slice (r := rSlA K) sl_tupA (pv 2) po_none (po_some (pv 5))) (pe_tup (pa_cons (pv 7) pa_nil))) (pe_slice (r := rSlA K) sl_tupA (pv 2) (po_some (pe_op op_add (pv 5) (pe_int))) po_none)) (pa_cons (pv 3) pa_nil)))))) (pss_nil))
    (pss_cons (ps_if (pt_cmpR op_eq (pv 4) (pe_int) (nomark _)) (pss_cons (ps_set (i := 7) nd rfl (Or.inl rfl) (pe_op op_add (pe_ix ix_tup (pe_ix ix_tup (pv 3) (pv 5) (fun _ _ => rfl)) (pv 6) (fun _ _ => rfl)) (pe_ix ix_list (pe_lst (pa_cons (pe_int) (pa_cons (pe_un un_neg (pe_int)) pa_nil))) (pe_callTy call_int1 (by rfl) B.int boot_int (pa_cons (pe_cmpR op_gt (pe_ix ix_tup (pe_ix ix_tup (pv 3) (pv 5) (fun _ _ => rfl)) (pv 6) (fun _ _ => rfl)) (pe_int) (nomark _)) pa_nil)) (fun _ _ => rfl))))
      (pss_one (ps_ret (pe_tup (pa_cons (pv 2) (pa_cons (pe_op (r := rCatA K) op_catA (pe_op (r := rCatA K) op_catA (pe_slice (r := rSlA K) sl_tupA (pv 3) po_none (po_some (pv 5))) (pe_tup (pa_cons (pe_op (r := rCatA K) op_catA (pe_op (r := rCatA K) op_catA (pe_slice (r := rSlA K) sl_tupA (pe_ix ix_tup (pv 3) (pv 5) (fun _ _ => rfl)) po_none (po_some (pv 6))) (pe_tup (pa_cons (pv 7) pa_nil))) (pe_slice (r := rSlA K) sl_tupA (pe_ix ix_tup (pv 3) (pv 5) (fun _ _ => rfl)) (po_some (pe_op op_add (pv 6) (pe_int))) po_none)) pa_nil))) (pe_slice (r := rSlA K) sl_tupA (pv 3) (po_some (pe_op op_add (pv 5) (pe_int))) po_none)) pa_nil)))))) (pss_nil))
    (pss_cons (ps_if (pt_cmpR op_eq (pv 4) (pe_int) (nomark _)) (pss_one (ps_ret (pe_tup (pa_cons (pe_revT (pv 2)) (pa_cons (pe_revT (pv 3)) pa_nil))))) (pss_nil))
    (pss_cons (ps_if (PW.pt (pw_and (pt_cmpR op_eq (pv 4) (pe_int) (nomark _)) (pw_and1 (pt_cmpR op_gt (pe_callB call_len_seq (by rfl) B.len PySem.boot_len (pa_cons (pv 2) pa_nil)) (pe_int) (nomark _))))) (pss_one (ps_ret (pe_tup (pa_cons (pe_op (r := rCatA K) op_catA (pe_slice (r := rSlA K) sl_tupA (pv 2) po_none (po_some (pv 5))) (pe_slice (r := rSlA K) sl_tupA (pv 2) (po_some (pe_op op_add (pv 5) (pe_int))) po_none)) (pa_cons (pe_op (r := rCatA K) op_catA (pe_slice (r := rSlA K) sl_tupA (pv 3) po_none (po_some (pv 5))) (pe_slice (r := rSlA K) sl_tupA (pv 3) (po_some (pe_op op_add (pv 5) (pe_int))) po_none)) pa_nil))))) (pss_nil))
    (pss_cons (ps_if (PW.pt (pw_and (pt_cmpR op_eq (pv 4) (pe_int) (nomark _)) (pw_and1 (pt_cmpR op_gt (pe_callB call_len_seq (by rfl) B.len PySem.boot_len (pa_cons (pe_ix ix_tup (pv 3) (pe_int) (fun _ _ => rfl)) pa_nil)) (pe_int) (nomark _))))) (pss_one (ps_ret (pe_tup (pa_cons (pv 2) (pa_cons (pe_callTy (r := rTpK K) call_tupK (by rfl) B.tuple boot_tuple (pa_cons (pe_lc (own := [("_law_bits", 8)]) (g := gName 8) (tt := tYes) rfl nd (pi_tup (pv 3)) (blkOk_by (own := [("_law_bits", 8)]) (N := ["_law_well_here", "_law_row", "_law_lengths", "_law_sizes", "_law_way", "_law_at", "_law_j", "_law_near", "_law_bits"]) (sc := defScope sOther) (by decide +kernel)) (fun _ _ _ _ _ => pg_name (i := 8) nd rfl (Or.inl rfl)) (fun _ _ _ _ _ => pts_nil) (fun _ _ _ _ _ => pe_op (r := rCatA K) op_catA (pe_slice (r := rSlA K) sl_tupA (pv 8) po_none (po_some (pv 6))) (pe_slice (r := rSlA K) sl_tupA (pv 8) (po_some (pe_op op_add (pv 6) (pe_int))) po_none))) pa_nil)) pa_nil))))) (pss_nil))
    (pss_cons (ps_if (pt_cmpR op_eq (pv 4) (pe_int) (nomark _)) (pss_one (ps_ret (pe_tup (pa_cons (pe_op (r := rCatA K) op_catA (pe_op (r := rCatA K) op_catA (pe_slice (r := rSlA K) sl_tupA (pv 2) po_none (po_some (pv 5))) (pe_revT (pe_slice (r := rSlA K) sl_tupA (pv 2) (po_some (pv 5)) (po_some (pe_op op_add (pv 5) (pe_int)))))) (pe_slice (r := rSlA K) sl_tupA (pv 2) (po_some (pe_op op_add (pv 5) (pe_int))) po_none)) (pa_cons (pv 3) pa_nil))))) (pss_nil))
    (pss_one (ps_ret (pe_tup (pa_cons (pe_callTy (r := rTpK K) call_tupK (by rfl) B.tuple boot_tuple (pa_cons (pe_callTy (r := rLsK K) call_listK (by rfl) mL boot_list (pa_cons (pv 2) pa_nil)) pa_nil)) (pa_cons (pe_callTy (r := rTpK K) call_tupK (by rfl) B.tuple boot_tuple (pa_cons (pe_lc (own := [("_law_bits", 8)]) (g := gName 8) (tt := tYes) rfl nd (pi_tup (pv 3)) (blkOk_by (own := [("_law_bits", 8)]) (N := ["_law_well_here", "_law_row", "_law_lengths", "_law_sizes", "_law_way", "_law_at", "_law_j", "_law_near", "_law_bits"]) (sc := defScope sOther) (by decide +kernel)) (fun _ _ _ _ _ => pg_name (i := 8) nd rfl (Or.inl rfl)) (fun _ _ _ _ _ => pts_nil) (fun _ _ _ _ _ => pe_callTy (r := rTpK K) call_tupK (by rfl) B.tuple boot_tuple (pa_cons (pe_callTy (r := rLsK K) call_listK (by rfl) mL boot_list (pa_cons (pv 8) pa_nil)) pa_nil))) pa_nil)) pa_nil))))))))))))))⟩
end
end Rp

namespace Rp
open PySem PySem.Spec PyProof.Rows L2 TL
/-! ### numbers of what comes out of _law_otherwise -/
theorem natI_of {ls : List Int} (h : ∀ l ∈ ls, 0 ≤ l) : natI (ls.map Int.toNat) = ls := by
  unfold natI
  rw [List.map_map]
  induction ls with
  | nil => rfl
  | cons a l ih =>
    rw [List.map_cons, ih fun x hx => h x (List.mem_cons_of_mem _ hx)]
    have := h a List.mem_cons_self
    show (((a.toNat : Nat) : Int)) :: l = a :: l
    rw [Int.toNat_of_nonneg this]
theorem okk_of {ls : List Int} {bs : List (List Int)} (same : ls.length = bs.length) (pos : 1 ≤ ls.length) (most : ls.length ≤ 12) (h : ∀ l ∈ ls, 0 ≤ l ∧ l ≤ 30) (lor : LowRows bs) : ∃ ns, natI ns = ls ∧ Okk ns bs := by
  refine ⟨ls.map Int.toNat, natI_of fun l hl => (h l hl).1, ?_, ?_, ?_, fun n hn => ?_, lor⟩
  · rw [List.length_map]; exact same
  · rw [List.length_map]; exact pos
  · rw [List.length_map]; exact most
  · obtain ⟨l, hl, rfl⟩ := List.mem_map.mp hn
    have := h l hl
    omega
theorem Fine.okk {ls : List Int} {bs : List (List Int)} (f : Fine ls bs) : ∃ ns, natI ns = ls ∧ Okk ns bs :=
  okk_of f.same f.pos f.most (fun l hl => by have := f.ls l hl; omega) f.lowR
end Rp

/-! k01: _law_otherwise. -/
namespace Rp
open PySem PySem.Spec PyProof.Rows L2 TL
theorem RowsAt.getI {H : Hp} : ∀ {qs : List Addr} {bs : List (List Int)} {i : Nat} {q : Addr}, RowsAt H qs bs → qs[i]? = some q → ∃ row, bs[i]? = some row ∧ H q = some (.tup (row.map V.int))
  | _, _, 0, q, .cons h t, e => ⟨_, rfl, by cases e; exact h⟩
  | _, _, i + 1, q, .cons h t, e => RowsAt.getI (i := i) t (by simpa using e)
theorem RowsAt.app {H : Hp} {qs' : List Addr} {bs' : List (List Int)} (h' : RowsAt H qs' bs') : ∀ {qs : List Addr} {bs : List (List Int)}, RowsAt H qs bs → RowsAt H (qs ++ qs') (bs ++ bs')
  | _, _, .nil => h'
  | _, _, .cons a t => .cons a (RowsAt.app h' t)
theorem RowsAt.rev {H : Hp} : ∀ {qs : List Addr} {bs : List (List Int)}, RowsAt H qs bs → RowsAt H qs.reverse bs.reverse
  | _, _, .nil => .nil
  | _, _, .cons a t => by rw [List.reverse_cons, List.reverse_cons]; exact RowsAt.snoc a (RowsAt.rev t)
theorem newAt {H : Hp} {p : Addr} (o : HO) (_ : H p = none) : upd H p o p = some o := upd_same
theorem cutV_whole {xs : List V} {lo hi : Option Int} (h : HT.sIx xs.length 0 lo = 0 ∧ HT.sIx xs.length xs.length hi = xs.length) : cutV xs lo hi = xs := by
  unfold cutV
  rw [h.1, h.2]
  simp
theorem slQ {K : PySem.W.Frag} {H : Hp} {a : Addr} {xs : List V} {lo hi : Option Int} {Q : VK} (h : H a = some (.tup xs)) (k : ∀ p H', Same H H' → H' p = some (.tup (cutV xs lo hi)) → Q (.ref p) H') : rSlA K (.ref a) lo hi H Q :=
  ⟨a, xs, rfl, SqT.of h, fun c => k a H (fun _ _ e => e) (by rw [cutV_whole c]; exact h), fun _ p hp => k p _ (Same.upd hp) upd_same⟩
theorem catQ {K : PySem.W.Frag} {H : Hp} {a b : Addr} {xs ys : List V} {Q : VK} (h : H a = some (.tup xs)) (h' : H b = some (.tup ys)) (hl : xs.length + ys.length ≤ 1000) (k : ∀ p H', Same H H' → H' p = some (.tup (xs ++ ys)) → Q (.ref p) H') : rCatA K (.ref a) (.ref b) H Q :=
  ⟨a, b, xs, ys, rfl, rfl, SqT.of h, SqT.of h', Nat.le_trans hl (by rw [sizeLine_eq]; decide), fun e => k b H (fun _ _ e => e) (by rw [e]; exact h'), fun _ e => k a H (fun _ _ e => e) (by rw [e, List.append_nil]; exact h), fun _ _ p hp => k p _ (Same.upd hp) upd_same⟩
theorem cutV_toN {xs : List V} {n : Nat} (h : n ≤ xs.length) : cutV xs none (some (n : Int)) = xs.take n := by
  unfold cutV
  rw [HT.sIx_nat, HT.sIx_none, Nat.min_eq_left h]
  simp
theorem cutV_fromN {xs : List V} {n : Nat} (h : n ≤ xs.length) : cutV xs (some (n : Int)) none = xs.drop n := by
  unfold cutV
  rw [HT.sIx_nat, HT.sIx_none, Nat.min_eq_left h]
  exact List.take_of_length_le (by rw [List.length_drop]; exact Nat.le_refl _)
theorem cutV_btw {xs : List V} {n m : Nat} (h : n ≤ xs.length) : cutV xs (some (n : Int)) (some (m : Int)) = (xs.drop n).take (min m xs.length - n) := by
  unfold cutV
  rw [HT.sIx_nat, HT.sIx_nat, Nat.min_eq_left h]
theorem cutV_fromM {xs : List V} {n : Nat} : cutV xs (some (n : Int)) none = xs.drop n := by
  unfold cutV
  rw [HT.sIx_nat, HT.sIx_none, List.take_of_length_le (by rw [List.length_drop]; exact Nat.le_refl _)]
  by_cases h : n ≤ xs.length
  · rw [Nat.min_eq_left h]
  · rw [Nat.min_eq_right (by omega), List.drop_of_length_le (Nat.le_refl _), List.drop_of_length_le (by omega)]
section
variable {P : Program} {w : World} {K : PySem.W.Frag} {mg : Str → Option Value} {base : Heap}
theorem ok_other {f fT : Addr} {fd fdT : FuncData} (F : Fun K "_law_otherwise" "_law_otherwise" sOther f fd) (B : Bi mg) (mL : mg "list" = none) (FT : Fun K "_law_take" "_law_take" sTake fT fdT) (mT : mg "_law_take" = some (.ref fT)) (bT : L2.Binds K fdT ["_law_well_here", "_law_top"] []) : FnOk P w K mg base CX0 2 f fd ["_law_well_here", "_law_row"] spOther := by
  have G : FnOk P w K mg base CX0 1 fT fdT ["_law_well_here", "_law_top"] spTake := ok_take FT
  refine F.ok scOther (fun vs H Q E h => ?_) (fun cdv A outer s H0 vs Q E hr h => ?_)
  · obtain ⟨_, _, _, _, rfl, _⟩ := h
    rfl
  · have nd := scOther.nd
    have hr1 : Room 1 _ := hr
    refine ⟨_, pss_cons (ps_asg (pv 1) (pg_tup rfl (pgs_cons (pg_name (i := 2) nd rfl (Or.inl rfl)) (pgs_cons (pg_name (i := 3) nd rfl (Or.inl rfl)) (pgs_nil)))))
    (pss_cons (ps_set (i := 4) nd rfl (Or.inl rfl) (pe_call G hr1 (by rfl) mT FT.kp bT .nil pass0 (pa_cons (pv 0) (pa_cons (pe_int) pa_nil))))
    (pss_cons (ps_set (i := 5) nd rfl (Or.inl rfl) (pe_call G hr1 (by rfl) mT FT.kp bT .nil pass0 (pa_cons (pv 0) (pa_cons (pe_callB call_len_seq (by rfl) B.len PySem.boot_len (pa_cons (pv 2) pa_nil)) pa_nil))))
    (pss_cons (ps_set (i := 6) nd rfl (Or.inr rfl) (pe_call G hr1 (by rfl) mT FT.kp bT .nil pass0 (pa_cons (pv 0) (pa_cons (pe_callB call_len_seq (by rfl) B.len PySem.boot_len (pa_cons (pe_ix ix_tup (pv 3) (pe_int) (fun _ _ => rfl)) pa_nil)) pa_nil))))
    (pss_cons (ps_if (pt_cmpR op_eq (pv 4) (pe_int) (nomark _)) (pss_cons (ps_set (i := 7) nd rfl (Or.inl rfl) (pe_op op_add (pe_ix ix_tup (pv 2) (pv 5) (fun _ _ => rfl)) (pe_ix ix_list (pe_lst (pa_cons (pe_int) (pa_cons (pe_un un_neg (pe_int)) pa_nil))) (pe_callTy call_int1 (by rfl) B.int boot_int (pa_cons (pe_cmpR op_gt (pe_ix ix_tup (pv 2) (pv 5) (fun _ _ => rfl)) (pe_int) (nomark _)) pa_nil)) (fun _ _ => rfl))))
      (pss_one (ps_ret (pe_tup (pa_cons (pe_op (r := rCatA K) op_catA (pe_op (r := rCatA K) op_catA (pe_slice (r := rSlA K) sl_tupA (pv 2) po_none (po_some (pv 5))) (pe_tup (pa_cons (pv 7) pa_nil))) (pe_slice (r := rSlA K) sl_tupA (pv 2) (po_some (pe_op op_add (pv 5) (pe_int))) po_none)) (pa_cons (pv 3) pa_nil)))))) (pss_nil))
    (pss_cons (ps_if (pt_cmpR op_eq (pv 4) (pe_int) (nomark _)) (pss_cons (ps_set (i := 7) nd rfl (Or.inl rfl) (pe_op op_add (pe_ix ix_tup (pe_ix ix_tup (pv 3) (pv 5) (fun _ _ => rfl)) (pv 6) (fun _ _ => rfl)) (pe_ix ix_list (pe_lst (pa_cons (pe_int) (pa_cons (pe_un un_neg (pe_int)) pa_nil))) (pe_callTy call_int1 (by rfl) B.int boot_int (pa_cons (pe_cmpR op_gt (pe_ix ix_tup (pe_ix ix_tup (pv 3) (pv 5) (fun _ _ => rfl)) (pv 6) (fun _ _ => rfl)) (pe_int) (nomark _)) pa_nil)) (fun _ _ => rfl))))
      (pss_one (ps_ret (pe_tup (pa_cons (pv 2) (pa_cons (pe_op (r := rCatA K) op_catA (pe_op (r := rCatA K) op_catA (pe_slice (r := rSlA K) sl_tupA (pv 3) po_none (po_some (pv 5))) (pe_tup (pa_cons (pe_op (r := rCatA K) op_catA (pe_op (r := rCatA K) op_catA (pe_slice (r := rSlA K) sl_tupA (pe_ix ix_tup (pv 3) (pv 5) (fun _ _ => rfl)) po_none (po_some (pv 6))) (pe_tup (pa_cons (pv 7) pa_nil))) (pe_slice (r := rSlA K) sl_tupA (pe_ix ix_tup (pv 3) (pv 5) (fun _ _ => rfl)) (po_some (pe_op op_add (pv 6) (pe_int))) po_none)) pa_nil))) (pe_slice (r := rSlA K) sl_tupA (pv 3) (po_some (pe_op op_add (pv 5) (pe_int))) po_none)) pa_nil)))))) (pss_nil))
    (pss_cons (ps_if (pt_cmpR op_eq (pv 4) (pe_int) (nomark _)) (pss_one (ps_ret (pe_tup (pa_cons (pe_revT (pv 2)) (pa_cons (pe_revT (pv 3)) pa_nil))))) (pss_nil))
    (pss_cons (ps_if (PW.pt (pw_and (pt_cmpR op_eq (pv 4) (pe_int) (nomark _)) (pw_and1 (pt_cmpR op_gt (pe_callB call_len_seq (by rfl) B.len PySem.boot_len (pa_cons (pv 2) pa_nil)) (pe_int) (nomark _))))) (pss_one (ps_ret (pe_tup (pa_cons (pe_op (r := rCatA K) op_catA (pe_slice (r := rSlA K) sl_tupA (pv 2) po_none (po_some (pv 5))) (pe_slice (r := rSlA K) sl_tupA (pv 2) (po_some (pe_op op_add (pv 5) (pe_int))) po_none)) (pa_cons (pe_op (r := rCatA K) op_catA (pe_slice (r := rSlA K) sl_tupA (pv 3) po_none (po_some (pv 5))) (pe_slice (r := rSlA K) sl_tupA (pv 3) (po_some (pe_op op_add (pv 5) (pe_int))) po_none)) pa_nil))))) (pss_nil))
    (pss_cons (ps_if (PW.pt (pw_and (pt_cmpR op_eq (pv 4) (pe_int) (nomark _)) (pw_and1 (pt_cmpR op_gt (pe_callB call_len_seq (by rfl) B.len PySem.boot_len (pa_cons (pe_ix ix_tup (pv 3) (pe_int) (fun _ _ => rfl)) pa_nil)) (pe_int) (nomark _))))) (pss_one (ps_ret (pe_tup (pa_cons (pv 2) (pa_cons (pe_callTy (r := rTpK K) call_tupK (by rfl) B.tuple boot_tuple (pa_cons (pe_lc (own := [("_law_bits", 8)]) (g := gName 8) (tt := tYes) rfl nd (pi_tup (pv 3)) (blkOk_by (own := [("_law_bits", 8)]) (N := ["_law_well_here", "_law_row", "_law_lengths", "_law_sizes", "_law_way", "_law_at", "_law_j", "_law_near", "_law_bits"]) (sc := defScope sOther) (by decide +kernel)) (fun _ _ _ _ _ => pg_name (i := 8) nd rfl (Or.inl rfl)) (fun _ _ _ _ _ => pts_nil) (fun _ _ _ _ _ => pe_op (r := rCatA K) op_catA (pe_slice (r := rSlA K) sl_tupA (pv 8) po_none (po_some (pv 6))) (pe_slice (r := rSlA K) sl_tupA (pv 8) (po_some (pe_op op_add (pv 6) (pe_int))) po_none))) pa_nil)) pa_nil))))) (pss_nil))
    (pss_cons (ps_if (pt_cmpR op_eq (pv 4) (pe_int) (nomark _)) (pss_one (ps_ret (pe_tup (pa_cons (pe_op (r := rCatA K) op_catA (pe_op (r := rCatA K) op_catA (pe_slice (r := rSlA K) sl_tupA (pv 2) po_none (po_some (pv 5))) (pe_revT (pe_slice (r := rSlA K) sl_tupA (pv 2) (po_some (pv 5)) (po_some (pe_op op_add (pv 5) (pe_int)))))) (pe_slice (r := rSlA K) sl_tupA (pv 2) (po_some (pe_op op_add (pv 5) (pe_int))) po_none)) (pa_cons (pv 3) pa_nil))))) (pss_nil))
    (pss_one (ps_ret (pe_tup (pa_cons (pe_callTy (r := rTpK K) call_tupK (by rfl) B.tuple boot_tuple (pa_cons (pe_callTy (r := rLsK K) call_listK (by rfl) mL boot_list (pa_cons (pv 2) pa_nil)) pa_nil)) (pa_cons (pe_callTy (r := rTpK K) call_tupK (by rfl) B.tuple boot_tuple (pa_cons (pe_lc (own := [("_law_bits", 8)]) (g := gName 8) (tt := tYes) rfl nd (pi_tup (pv 3)) (blkOk_by (own := [("_law_bits", 8)]) (N := ["_law_well_here", "_law_row", "_law_lengths", "_law_sizes", "_law_way", "_law_at", "_law_j", "_law_near", "_law_bits"]) (sc := defScope sOther) (by decide +kernel)) (fun _ _ _ _ _ => pg_name (i := 8) nd rfl (Or.inl rfl)) (fun _ _ _ _ _ => pts_nil) (fun _ _ _ _ _ => pe_callTy (r := rTpK K) call_tupK (by rfl) B.tuple boot_tuple (pa_cons (pe_callTy (r := rLsK K) call_listK (by rfl) mL boot_list (pa_cons (pv 8) pa_nil)) pa_nil))) pa_nil)) pa_nil)))))))))))))), ?_⟩
    obtain ⟨w0, p, ls, bs, rfl, wl, row, fine, k⟩ := h
    have ez : sizeLine = 16777216 := sizeLine_eq
    obtain ⟨a, b, qs, h1, h2, h3, h4⟩ := id row
    have f12 := fine.most
    have f1 := fine.pos
    have fs := fine.same
    have ql := h4.length
    obtain ⟨row0, rest, rfl⟩ : ∃ row0 rest, bs = row0 :: rest := by
      cases bs with
      | nil => rw [List.length_nil] at fs; omega
      | cons x y => exact ⟨x, y, rfl⟩
    obtain ⟨q0, qs', rfl⟩ : ∃ q0 qs', qs = q0 :: qs' := by
      cases qs with
      | nil => simp at ql
      | cons x y => exact ⟨x, y, rfl⟩
    obtain ⟨r, r1, r4, rok⟩ := fine.bs
    have hq0 : H0 q0 = some (.tup (row0.map V.int)) := by cases h4 with | cons x _ => exact x
    have l0 := (rok row0 List.mem_cons_self).1
    refine ⟨_, rfl, p, _, rfl, SqT.of h1, rfl, _, _, rfl, _, _, rfl, rfl, ?_⟩
    obtain ⟨z0, z1, z2, hz⟩ := id wl
    refine ⟨_, rfl, w0, z0, z1, z2, _, rfl, hz, (by decide), (by decide), fun way y0 y2 way0 way7 => ?_⟩
    have u1 : But w0 H0 (upd H0 w0 (.lst [.int y0, .int z1, .int y2])) := .upd
    have w1 : Well (upd H0 w0 (.lst [.int y0, .int z1, .int y2])) w0 := .upw
    generalize upd H0 w0 (.lst [.int y0, .int z1, .int y2]) = H1 at u1 w1 ⊢
    obtain ⟨z0, z1, z2, hz⟩ := id w1
    refine ⟨_, rfl, _, rfl, a, _, rfl, .inr (SqT.of (u1.tup wl _ _ h2)), w0, z0, z1, z2, _, rfl, hz, (by rw [List.length_map]; omega), (by rw [List.length_map]; omega), fun at_ y0 y2 at0 at1 => ?_⟩
    rw [List.length_map] at at1
    have u2 : But w0 H0 (upd H1 w0 (.lst [.int y0, .int z1, .int y2])) := u1.trans .upd
    have w2 : Well (upd H1 w0 (.lst [.int y0, .int z1, .int y2])) w0 := .upw
    generalize upd H1 w0 (.lst [.int y0, .int z1, .int y2]) = H2 at u2 w2 ⊢
    obtain ⟨z0, z1, z2, hz⟩ := id w2
    refine ⟨_, rfl, _, rfl, b, _, 0, _, rfl, rfl, SqT.of (u2.tup wl _ _ h3), atI_nat (j := 0) rfl, q0, _, rfl, .inr (SqT.of (u2.tup wl _ _ hq0)), w0, z0, z1, z2, _, rfl, hz, (by rw [List.length_map]; omega), (by rw [List.length_map]; omega), fun j y0 y2 j0 j1 => ?_⟩
    rw [List.length_map] at j1
    have u3 : But w0 H0 (upd H2 w0 (.lst [.int y0, .int z1, .int y2])) := u2.trans .upd
    have w3 : Well (upd H2 w0 (.lst [.int y0, .int z1, .int y2])) w0 := .upw
    generalize upd H2 w0 (.lst [.int y0, .int z1, .int y2]) = H3 at u3 w3 ⊢
    have g2 := u3.tup wl _ _ h2
    have g3 := u3.tup wl _ _ h3
    have g4 : RowsAt H3 (q0 :: qs') (row0 :: rest) := h4.imp fun _ _ e => u3.tup wl _ _ e
    have fin : ∀ (Hx : Hp) (a' b' : Addr) (qx : List Addr) (ls' : List Int) (bs' : List (List Int)), Same H3 Hx → Hx a' = some (.tup (ls'.map V.int)) → Hx b' = some (.tup (qx.map V.ref)) → RowsAt Hx qx bs' → ls'.length = bs'.length → 1 ≤ ls'.length → ls'.length ≤ 12 → (∀ l ∈ ls', 0 ≤ l ∧ l ≤ 30) → LowRows bs' → (2 ≤ sizeLine ∧ ∀ q, Hx q = none → Q (.ref q) (upd Hx q (.tup [.ref a', .ref b']))) := by
      intro Hx a' b' qx ls' bs' sx ea eb er e1 e2 e3 e4 e5
      refine ⟨by rw [ez]; decide, fun q hq => ?_⟩
      obtain ⟨ns, rfl, ok⟩ := okk_of e1 e2 e3 e4 e5
      have sq : Same Hx (upd Hx q (.tup [.ref a', .ref b'])) := Same.upd hq
      have s3 := sx.trans sq
      refine k _ q ns bs' (u3.same s3) ?_ ⟨a', b', qx, upd_same, sq _ _ ea, sq _ _ eb, er.imp fun _ _ e => sq _ _ e⟩ ok
      obtain ⟨c0, c1, c2, hc⟩ := w3
      exact ⟨c0, c1, c2, s3 _ _ hc⟩
    clear wl u1 w1 u2 w2 h1 h2 h3 h4 hq0 hz k
    obtain ⟨at_, rfl⟩ := Int.eq_ofNat_of_zero_le at0
    obtain ⟨j, rfl⟩ := Int.eq_ofNat_of_zero_le j0
    have la : at_ < ls.length := by omega
    have lj : j < row0.length := by omega
    have hq0' : H3 q0 = some (.tup (row0.map V.int)) := by cases g4 with | cons x _ => exact x
    have lsb : ∀ l ∈ ls, 0 ≤ l ∧ l ≤ 30 := fun l hl => by have := fine.ls l hl; omega
    have lwr := fine.lowR
    refine ⟨_, rfl, rfl, _, rfl, ite2 (fun c => ?_) (fun c => ?_)⟩
    · clear c
      have hat : atI (ls.map V.int) (at_ : Int) = some (.int ls[at_]) := atI_nat (by rw [List.getElem?_map, List.getElem?_eq_getElem la]; rfl)
      have lb := fine.ls _ (List.getElem_mem la)
      refine ⟨_, rfl, _, rfl, a, _, at_, _, rfl, rfl, SqT.of g2, hat, 1, rfl, (by show 2 ≤ sizeLine; decide), fun l hl => ?_⟩
      have s4 := Same.upd (o := .lst [.int 1, .int (-1)]) hl
      have e4 := newAt (.lst [.int 1, .int (-1)]) hl
      generalize upd H3 l (.lst [.int 1, .int (-1)]) = H4 at s4 e4 ⊢
      refine ⟨_, rfl, _, rfl, a, _, at_, _, rfl, rfl, SqT.of (s4 _ _ g2), hat, _, _, rfl, rfl, .inr ⟨_, rfl, ?_⟩⟩
      obtain ⟨v, hv, hvv⟩ := two_at 1 (-1) (if decide (1 < ls[at_]) = true then 1 else 0) (by split <;> decide) (by split <;> decide)
      refine ⟨l, _, _, _, rfl, rfl, SqL.of e4, hv, _, _, rfl, rfl, ?_⟩
      refine ⟨_, rfl, _, rfl, _, rfl, slQ (s4 _ _ g2) fun p5 H5 s5 e5 => ?_⟩
      rw [cutV_toN (by rw [List.length_map]; omega), ← List.map_take] at e5
      have s35 := s4.trans s5
      refine ⟨_, rfl, (by show 1 ≤ sizeLine; decide), fun p6 hp6 => ?_⟩
      have s6 := Same.upd (o := .tup [.int (ls[at_] + v)]) hp6
      have e6 := newAt (.tup [.int (ls[at_] + v)]) hp6
      generalize upd H5 p6 (.tup [.int (ls[at_] + v)]) = H6 at s6 e6 ⊢
      have s36 := s35.trans s6
      refine catQ (s6 _ _ e5) e6 (by rw [List.length_map, List.length_take]; show _ + 1 ≤ 1000; omega) fun p7 H7 s7 e7 => ?_
      have s37 := s36.trans s7
      refine ⟨_, rfl, _, rfl, _, _, rfl, rfl, _, rfl, ?_⟩
      dsimp only [tNoPart]
      refine slQ (s37 _ _ g2) fun p8 H8 s8 e8 => ?_
      rw [show (at_ : Int) + 1 = ((at_ + 1 : Nat) : Int) by omega, cutV_fromN (by rw [List.length_map]; omega), ← List.map_drop] at e8
      refine catQ (s8 _ _ e7) e8 (by rw [List.length_append, List.length_map, List.length_map, List.length_take, List.length_drop]; show _ + 1 + _ ≤ 1000; omega) fun p9 H9 s9 e9 => ?_
      have s39 := (s37.trans s8).trans s9
      rw [show (ls.take at_).map V.int ++ [V.int (ls[at_] + v)] ++ (ls.drop (at_ + 1)).map V.int = (ls.take at_ ++ [ls[at_] + v] ++ ls.drop (at_ + 1)).map V.int by rw [List.map_append, List.map_append]; rfl] at e9
      have len : (ls.take at_ ++ [ls[at_] + v] ++ ls.drop (at_ + 1)).length = ls.length := by rw [List.length_append, List.length_append, List.length_take, List.length_drop, List.length_singleton]; omega
      refine ⟨_, rfl, fin H9 p9 b _ _ _ s39 e9 (s39 _ _ g3) (g4.imp fun _ _ e => s39 _ _ e) (by rw [len]; exact fs) (by omega) (by omega) (fun l hl => ?_) lwr⟩
      rcases List.mem_append.mp hl with hl | hl
      · rcases List.mem_append.mp hl with hl | hl
        · exact lsb l (List.mem_of_mem_take hl)
        · cases List.mem_singleton.mp hl; omega
      · exact lsb l (List.mem_of_mem_drop hl)
    clear c
    have hqa : (q0 :: qs')[at_]? = some (q0 :: qs')[at_] := List.getElem?_eq_getElem (by omega)
    obtain ⟨rowa, hra, ga⟩ := g4.getI hqa
    generalize (q0 :: qs')[at_] = qa at hqa ga
    have hqv : atI ((q0 :: qs').map V.ref) (at_ : Int) = some (.ref qa) := atI_nat (by rw [List.getElem?_map, hqa]; rfl)
    have rka := rok rowa (List.mem_of_getElem? hra)
    have lja : j < rowa.length := by rw [rka.1]; rw [l0] at lj; exact lj
    have lwa := lwr.2 rowa (List.mem_of_getElem? hra)
    refine ⟨_, rfl, rfl, _, rfl, ite2 (fun c => ?_) (fun c => ?_)⟩
    · clear c
      have hjt : atI (rowa.map V.int) (j : Int) = some (.int rowa[j]) := atI_nat (by rw [List.getElem?_map, List.getElem?_eq_getElem lja]; rfl)
      have bb := rka.2 _ (List.getElem_mem lja)
      refine ⟨_, rfl, _, rfl, b, _, at_, _, rfl, rfl, SqT.of g3, hqv, _, rfl, qa, _, j, _, rfl, rfl, SqT.of ga, hjt, 1, rfl, (by show 2 ≤ sizeLine; decide), fun l hl => ?_⟩
      have s4 := Same.upd (o := .lst [.int 1, .int (-1)]) hl
      have e4 := newAt (.lst [.int 1, .int (-1)]) hl
      generalize upd H3 l (.lst [.int 1, .int (-1)]) = H4 at s4 e4 ⊢
      refine ⟨_, rfl, _, rfl, b, _, at_, _, rfl, rfl, SqT.of (s4 _ _ g3), hqv, _, rfl, qa, _, j, _, rfl, rfl, SqT.of (s4 _ _ ga), hjt, _, _, rfl, rfl, .inr ⟨_, rfl, ?_⟩⟩
      obtain ⟨v, hv, hvv⟩ := two_at 1 (-1) (if decide (1 < rowa[j]) = true then 1 else 0) (by split <;> decide) (by split <;> decide)
      refine ⟨l, _, _, _, rfl, rfl, SqL.of e4, hv, _, _, rfl, rfl, ?_⟩
      refine ⟨_, rfl, _, rfl, _, rfl, _, rfl, slQ (s4 _ _ g3) fun p5 H5 s5 e5 => ?_⟩
      rw [cutV_toN (by rw [List.length_map]; omega), ← List.map_take] at e5
      have s35 := s4.trans s5
      refine ⟨_, rfl, _, rfl, b, _, at_, _, rfl, rfl, SqT.of (s35 _ _ g3), hqv, _, rfl, _, rfl, slQ (s35 _ _ ga) fun p6 H6 s6 e6 => ?_⟩
      rw [cutV_toN (by rw [List.length_map]; omega), ← List.map_take] at e6
      have s36 := s35.trans s6
      refine ⟨_, rfl, (by show 1 ≤ sizeLine; decide), fun p7 hp7 => ?_⟩
      have s7 := Same.upd (o := .tup [.int (rowa[j] + v)]) hp7
      have e7 := newAt (.tup [.int (rowa[j] + v)]) hp7
      generalize upd H6 p7 (.tup [.int (rowa[j] + v)]) = H7 at s7 e7 ⊢
      have s37 := s36.trans s7
      refine catQ (s7 _ _ e6) e7 (by rw [List.length_map, List.length_take]; show _ + 1 ≤ 1000; have := rka.1; omega) fun p8 H8 s8 e8 => ?_
      have s38 := s37.trans s8
      refine ⟨_, rfl, _, rfl, b, _, at_, _, rfl, rfl, SqT.of (s38 _ _ g3), hqv, _, rfl, _, _, rfl, rfl, _, rfl, ?_⟩
      dsimp only [tNoPart]
      refine slQ (s38 _ _ ga) fun p9 H9 s9 e9 => ?_
      rw [show (j : Int) + 1 = ((j + 1 : Nat) : Int) by omega, cutV_fromN (by rw [List.length_map]; omega), ← List.map_drop] at e9
      have rl := rka.1
      refine catQ (s9 _ _ e8) e9 (by rw [List.length_append, List.length_map, List.length_map, List.length_take, List.length_drop]; show _ + 1 + _ ≤ 1000; omega) fun p10 H10 s10 e10 => ?_
      have s310 := (s38.trans s9).trans s10
      rw [show (rowa.take j).map V.int ++ [V.int (rowa[j] + v)] ++ (rowa.drop (j + 1)).map V.int = (rowa.take j ++ [rowa[j] + v] ++ rowa.drop (j + 1)).map V.int by rw [List.map_append, List.map_append]; rfl] at e10
      refine ⟨(by show 1 ≤ sizeLine; decide), fun p11 hp11 => ?_⟩
      have s11 := Same.upd (o := .tup [.ref p10]) hp11
      have e11 := newAt (.tup [.ref p10]) hp11
      generalize upd H10 p11 (.tup [.ref p10]) = H11 at s11 e11 ⊢
      have s311 := s310.trans s11
      have e5' := s11 _ _ (s10 _ _ (s9 _ _ (s8 _ _ (s7 _ _ (s6 _ _ e5)))))
      refine catQ e5' e11 (by rw [List.length_map, List.length_take]; show _ + 1 ≤ 1000; omega) fun p12 H12 s12 e12 => ?_
      have s312 := s311.trans s12
      refine ⟨_, rfl, _, rfl, _, _, rfl, rfl, _, rfl, ?_⟩
      dsimp only [tNoPart]
      refine slQ (s312 _ _ g3) fun p13 H13 s13 e13 => ?_
      rw [show (at_ : Int) + 1 = ((at_ + 1 : Nat) : Int) by omega, cutV_fromN (by rw [List.length_map]; omega), ← List.map_drop] at e13
      refine catQ (s13 _ _ e12) e13 (by rw [List.length_append, List.length_map, List.length_map, List.length_take, List.length_drop]; show _ + 1 + _ ≤ 1000; omega) fun p14 H14 s14 e14 => ?_
      have s314 := (s312.trans s13).trans s14
      rw [show ((q0 :: qs').take at_).map V.ref ++ [V.ref p10] ++ ((q0 :: qs').drop (at_ + 1)).map V.ref = ((q0 :: qs').take at_ ++ [p10] ++ (q0 :: qs').drop (at_ + 1)).map V.ref by rw [List.map_append, List.map_append]; rfl] at e14
      have g14 : RowsAt H14 (q0 :: qs') (row0 :: rest) := g4.imp fun _ _ e => s314 _ _ e
      have rn : RowsAt H14 [p10] [rowa.take j ++ [rowa[j] + v] ++ rowa.drop (j + 1)] := .cons (s14 _ _ (s13 _ _ (s12 _ _ (s11 _ _ e10)))) .nil
      have rr := RowsAt.app (g14.drop (at_ + 1)) (RowsAt.app rn (g14.take at_))
      have lbs : (row0 :: rest).length = ls.length := fs.symm
      refine fin H14 a p14 _ _ _ s314 (s314 _ _ g2) e14 rr (by rw [List.length_append, List.length_append, List.length_take, List.length_drop, List.length_singleton]; omega) f1 f12 lsb ⟨?_, fun row hr => ?_⟩
      · rw [List.length_append, List.length_append, List.length_take, List.length_drop, List.length_singleton]; omega
      · rcases List.mem_append.mp hr with hr | hr
        · rcases List.mem_append.mp hr with hr | hr
          · exact lwr.2 row (List.mem_of_mem_take hr)
          · cases List.mem_singleton.mp hr
            refine ⟨by rw [List.length_append, List.length_append, List.length_take, List.length_drop, List.length_singleton]; omega, fun n hn => ?_⟩
            rcases List.mem_append.mp hn with hn | hn
            · rcases List.mem_append.mp hn with hn | hn
              · exact lwa.2 n (List.mem_of_mem_take hn)
              · cases List.mem_singleton.mp hn; omega
            · exact lwa.2 n (List.mem_of_mem_drop hn)
        · exact lwr.2 row (List.mem_of_mem_drop hr)
    clear c
    refine ⟨_, rfl, rfl, _, rfl, ite2 (fun c => ?_) (fun c => ?_)⟩
    · clear c
      refine ⟨_, rfl, a, _, rfl, SqT.of g2, fun p4 hp4 => ?_⟩
      have s4 := Same.upd (o := .tup (ls.map V.int).reverse) hp4
      have e4 := newAt (.tup (ls.map V.int).reverse) hp4
      generalize upd H3 p4 (.tup (ls.map V.int).reverse) = H4 at s4 e4 ⊢
      refine ⟨_, rfl, b, _, rfl, SqT.of (s4 _ _ g3), fun p5 hp5 => ?_⟩
      have s5 := Same.upd (o := .tup ((q0 :: qs').map V.ref).reverse) hp5
      have e5 := newAt (.tup ((q0 :: qs').map V.ref).reverse) hp5
      generalize upd H4 p5 (.tup ((q0 :: qs').map V.ref).reverse) = H5 at s5 e5 ⊢
      have s35 := s4.trans s5
      rw [← List.map_reverse] at e4 e5
      have g5 : RowsAt H5 (q0 :: qs') (row0 :: rest) := g4.imp fun _ _ e => s35 _ _ e
      exact fin H5 p4 p5 _ _ _ s35 (s5 _ _ e4) e5 g5.rev (by rw [List.length_reverse, List.length_reverse]; exact fs) (by rw [List.length_reverse]; exact f1) (by rw [List.length_reverse]; exact f12) (fun l hl => lsb l (List.mem_reverse.mp hl)) ⟨by rw [List.length_reverse]; exact lwr.1, fun row hr => lwr.2 row (List.mem_reverse.mp hr)⟩
    clear c
    refine (fun els => ⟨_, rfl, rfl, _, rfl, ite2 (fun _ => ⟨_, rfl, a, _, rfl, .inr (SqT.of g2), _, _, rfl, rfl, _, rfl, ite2 (fun c => ?wy) (fun _ => els)⟩) (fun _ => iteF els)⟩) ?el
    case wy =>
      rw [List.length_map] at c
      have l1 : 1 < ls.length := by have := of_decide_eq_true c; omega
      clear c
      refine ⟨_, rfl, _, rfl, _, rfl, slQ g2 fun p4 H4 s4 e4 => ?_⟩
      rw [cutV_toN (by rw [List.length_map]; omega), ← List.map_take] at e4
      refine ⟨_, rfl, _, rfl, _, _, rfl, rfl, _, rfl, ?_⟩
      dsimp only [tNoPart]
      refine slQ (s4 _ _ g2) fun p5 H5 s5 e5 => ?_
      rw [show (at_ : Int) + 1 = ((at_ + 1 : Nat) : Int) by omega, cutV_fromN (by rw [List.length_map]; omega), ← List.map_drop] at e5
      have s35 := s4.trans s5
      refine catQ (s5 _ _ e4) e5 (by rw [List.length_map, List.length_map, List.length_take, List.length_drop]; omega) fun p6 H6 s6 e6 => ?_
      rw [← List.map_append] at e6
      have s36 := s35.trans s6
      refine ⟨_, rfl, _, rfl, _, rfl, slQ (s36 _ _ g3) fun p7 H7 s7 e7 => ?_⟩
      rw [cutV_toN (by rw [List.length_map]; omega), ← List.map_take] at e7
      refine ⟨_, rfl, _, rfl, _, _, rfl, rfl, _, rfl, ?_⟩
      dsimp only [tNoPart]
      refine slQ (s7 _ _ (s36 _ _ g3)) fun p8 H8 s8 e8 => ?_
      rw [show (at_ : Int) + 1 = ((at_ + 1 : Nat) : Int) by omega, cutV_fromN (by rw [List.length_map]; omega), ← List.map_drop] at e8
      refine catQ (s8 _ _ e7) e8 (by rw [List.length_map, List.length_map, List.length_take, List.length_drop]; omega) fun p9 H9 s9 e9 => ?_
      rw [← List.map_append] at e9
      have s69 := (s7.trans s8).trans s9
      have s39 := s36.trans s69
      have g9 : RowsAt H9 (q0 :: qs') (row0 :: rest) := g4.imp fun _ _ e => s39 _ _ e
      have lbs : (row0 :: rest).length = ls.length := fs.symm
      refine fin H9 p6 p9 _ _ _ s39 (s69 _ _ e6) e9 (RowsAt.app (g9.drop (at_ + 1)) (g9.take at_)) (by rw [List.length_append, List.length_append, List.length_take, List.length_drop, List.length_take, List.length_drop]; omega) (by rw [List.length_append, List.length_take, List.length_drop]; omega) (by rw [List.length_append, List.length_take, List.length_drop]; omega) (fun l hl => ?_) ⟨?_, fun row hr => ?_⟩
      · rcases List.mem_append.mp hl with hl | hl
        · exact lsb l (List.mem_of_mem_take hl)
        · exact lsb l (List.mem_of_mem_drop hl)
      · rw [List.length_append, List.length_take, List.length_drop]; omega
      · rcases List.mem_append.mp hr with hr | hr
        · exact lwr.2 row (List.mem_of_mem_take hr)
        · exact lwr.2 row (List.mem_of_mem_drop hr)
    refine (fun els => ⟨_, rfl, rfl, _, rfl, ite2 (fun _ => ⟨_, rfl, b, _, 0, _, rfl, rfl, SqT.of g3, atI_nat (j := 0) rfl, q0, _, rfl, .inr (SqT.of hq0'), _, _, rfl, rfl, _, rfl, ite2 (fun c => ?wy5) (fun _ => els)⟩) (fun _ => iteF els)⟩) ?el5
    case wy5 =>
      rw [List.length_map] at c
      have l1 : 1 < row0.length := by have := of_decide_eq_true c; omega
      clear c
      refine ⟨_, rfl, ?_⟩
      refine ⟨_, rfl, b, rfl, ⟨_, SqT.of g3⟩, fun D hD => ?_⟩
      refine lc_tup (K := K) (a := b) (xs := (q0 :: qs').map V.ref) (fun m H => ∃ ps : List Addr, H D = some (.lst (ps.map V.ref)) ∧ RowsAt H ps (((row0 :: rest).take m).map fun r => r.take j ++ r.drop (j + 1)) ∧ Same H3 H) ⟨[], upd_same, .nil, Same.upd hD⟩ (fun m H _ ⟨_, _, _, sx⟩ => SqT.of (sx _ _ g3)) ?_ ?_
      · rintro m y H hy ⟨ps, eD, rp, sx⟩
        rw [List.getElem?_map] at hy
        obtain ⟨qm, hqm, rfl⟩ := Option.map_eq_some_iff.mp hy
        obtain ⟨rowm, hrm, gm⟩ := g4.getI hqm
        have rkm := rok rowm (List.mem_of_getElem? hrm)
        have lm : rowm.length = row0.length := by rw [rkm.1, l0]
        refine ⟨rfl, ?_⟩
        refine ⟨_, rfl, _, rfl, _, rfl, slQ (sx _ _ gm) fun p4 H4 s4 e4 => ?_⟩
        rw [cutV_toN (by rw [List.length_map]; omega), ← List.map_take] at e4
        refine ⟨_, rfl, _, rfl, _, _, rfl, rfl, _, rfl, ?_⟩
        dsimp only [tNoPart]
        refine slQ (s4 _ _ (sx _ _ gm)) fun p5 H5 s5 e5 => ?_
        rw [show (j : Int) + 1 = ((j + 1 : Nat) : Int) by omega, cutV_fromN (by rw [List.length_map]; omega), ← List.map_drop] at e5
        have rl := rkm.1
        refine catQ (s5 _ _ e4) e5 (by rw [List.length_map, List.length_map, List.length_take, List.length_drop]; omega) fun p6 H6 s6 e6 => ?_
        rw [← List.map_append] at e6
        have s46 := (s4.trans s5).trans s6
        have pl := rp.length
        rw [List.length_map, List.length_take] at pl
        refine ⟨_, s46 _ _ eD, by rw [List.length_map, ez]; omega, ps ++ [p6], by rw [upd_same, List.map_append]; rfl, ?_, fun c o q => by rw [upd_ne (ne_of_none q hD)]; exact s46 _ _ (sx _ _ q)⟩
        rw [List.take_succ, hrm, List.map_append]
        have ne : ∀ {q : Addr} {row : List Int}, H6 q = some (.tup (row.map V.int)) → upd H6 D (.lst (ps.map V.ref ++ [V.ref p6])) q = some (.tup (row.map V.int)) := fun {q row} e => by
          rw [upd_ne (fun he => by subst he; rw [s46 _ _ eD] at e; cases e)]
          exact e
        exact RowsAt.snoc (ne e6) (rp.imp fun q xs e => by
          rw [upd_ne (fun he => by subst he; rw [eD] at e; cases e)]
          exact s46 _ _ e)
      · rintro H ⟨ps, eD, rp, sx⟩
        rw [List.length_map, ql, List.take_length] at rp
        refine ⟨D, _, rfl, .inl ⟨SqL.of eD, fun l hl => ?_⟩⟩
        have sl := Same.upd (o := .tup (ps.map V.ref)) hl
        refine fin _ a l ps ls _ (sx.trans sl) (sl _ _ (sx _ _ g2)) upd_same (rp.imp fun _ _ e => sl _ _ e) (by rw [List.length_map]; exact fs) f1 f12 lsb ⟨by rw [List.length_map]; exact lwr.1, fun row hr => ?_⟩
        obtain ⟨row', hr', rfl⟩ := List.mem_map.mp hr
        have w := lwr.2 row' hr'
        have w1 := w.1
        have r41 := (rok row' hr').1
        refine ⟨by rw [List.length_append, List.length_take, List.length_drop]; omega, fun n hn => ?_⟩
        rcases List.mem_append.mp hn with hn | hn
        · exact w.2 n (List.mem_of_mem_take hn)
        · exact w.2 n (List.mem_of_mem_drop hn)
    refine ⟨_, rfl, rfl, _, rfl, ite2 (fun c => ?_) (fun c => ?_)⟩
    · clear c
      refine ⟨_, rfl, _, rfl, _, rfl, slQ g2 fun p4 H4 s4 e4 => ?_⟩
      rw [cutV_toN (by rw [List.length_map]; omega), ← List.map_take] at e4
      refine ⟨_, rfl, _, rfl, _, rfl, _, rfl, _, _, rfl, rfl, _, rfl, slQ (s4 _ _ g2) fun p5 H5 s5 e5 => ?_⟩
      rw [show (at_ : Int) + 2 = ((at_ + 2 : Nat) : Int) by omega, cutV_btw (by rw [List.length_map]; omega), ← List.map_drop, ← List.map_take, List.length_map] at e5
      refine ⟨p5, _, rfl, SqT.of e5, fun p6 hp6 => ?_⟩
      have s6 := Same.upd (o := .tup (((ls.drop at_).take (min (at_ + 2) ls.length - at_)).map V.int).reverse) hp6
      have e6 := newAt (.tup (((ls.drop at_).take (min (at_ + 2) ls.length - at_)).map V.int).reverse) hp6
      generalize upd H5 p6 (.tup (((ls.drop at_).take (min (at_ + 2) ls.length - at_)).map V.int).reverse) = H6 at s6 e6 ⊢
      rw [← List.map_reverse] at e6
      have s36 := (s4.trans s5).trans s6
      refine catQ (s6 _ _ (s5 _ _ e4)) e6 (by rw [List.length_map, List.length_map, List.length_reverse, List.length_take, List.length_take, List.length_drop]; omega) fun p7 H7 s7 e7 => ?_
      rw [← List.map_append] at e7
      have s37 := s36.trans s7
      refine ⟨_, rfl, _, rfl, _, _, rfl, rfl, _, rfl, ?_⟩
      dsimp only [tNoPart]
      refine slQ (s37 _ _ g2) fun p8 H8 s8 e8 => ?_
      rw [show (at_ : Int) + 2 = ((at_ + 2 : Nat) : Int) by omega, cutV_fromM, ← List.map_drop] at e8
      have le : (ls.take at_ ++ ((ls.drop at_).take (min (at_ + 2) ls.length - at_)).reverse ++ ls.drop (at_ + 2)).length = ls.length := by
        rw [List.length_append, List.length_append, List.length_reverse, List.length_take, List.length_take, List.length_drop, List.length_drop]; omega
      refine catQ (s8 _ _ e7) e8 (by rw [List.length_map, List.length_map, ← List.length_append, le]; omega) fun p9 H9 s9 e9 => ?_
      rw [← List.map_append] at e9
      have s39 := (s37.trans s8).trans s9
      refine ⟨_, rfl, fin H9 p9 b _ _ _ s39 e9 (s39 _ _ g3) (g4.imp fun _ _ e => s39 _ _ e) (by rw [le]; exact fs) (by rw [le]; exact f1) (by rw [le]; exact f12) (fun l hl => ?_) lwr⟩
      rcases List.mem_append.mp hl with hl | hl
      · rcases List.mem_append.mp hl with hl | hl
        · exact lsb l (List.mem_of_mem_take hl)
        · exact lsb l (List.mem_of_mem_drop (List.mem_of_mem_take (List.mem_reverse.mp hl)))
      · exact lsb l (List.mem_of_mem_drop hl)
    clear c
    refine ⟨_, rfl, a, _, rfl, .inr (SqT.of g2), fun l4 hl4 => ?_⟩
    have s4 := Same.upd (o := .lst (ls.map V.int)) hl4
    have e4 := newAt (.lst (ls.map V.int)) hl4
    generalize upd H3 l4 (.lst (ls.map V.int)) = H4 at s4 e4 ⊢
    refine ⟨l4, _, rfl, .inl ⟨SqL.of e4, fun p5 hp5 => ?_⟩⟩
    have s5 := Same.upd (o := .tup (ls.map V.int)) hp5
    have e5 := newAt (.tup (ls.map V.int)) hp5
    generalize upd H4 p5 (.tup (ls.map V.int)) = H5 at s5 e5 ⊢
    have s35 := s4.trans s5
    refine ⟨_, rfl, b, rfl, ⟨_, SqT.of (s35 _ _ g3)⟩, fun D hD => ?_⟩
    refine lc_tup (K := K) (a := b) (xs := (q0 :: qs').map V.ref) (fun m H => ∃ ps : List Addr, H D = some (.lst (ps.map V.ref)) ∧ RowsAt H ps ((row0 :: rest).take m) ∧ Same H5 H) ⟨[], upd_same, .nil, Same.upd hD⟩ (fun m H _ ⟨_, _, _, sx⟩ => SqT.of (sx _ _ (s35 _ _ g3))) ?_ ?_
    · rintro m y H hy ⟨ps, eD, rp, sx⟩
      rw [List.getElem?_map] at hy
      obtain ⟨qm, hqm, rfl⟩ := Option.map_eq_some_iff.mp hy
      obtain ⟨rowm, hrm, gm⟩ := g4.getI hqm
      refine ⟨rfl, ?_⟩
      refine ⟨_, rfl, qm, _, rfl, .inr (SqT.of (sx _ _ (s35 _ _ gm))), fun l6 hl6 => ?_⟩
      have s6 := Same.upd (o := .lst (rowm.map V.int)) hl6
      have e6 := newAt (.lst (rowm.map V.int)) hl6
      generalize upd H l6 (.lst (rowm.map V.int)) = H6 at s6 e6 ⊢
      refine ⟨l6, _, rfl, .inl ⟨SqL.of e6, fun p7 hp7 => ?_⟩⟩
      have s7 := Same.upd (o := .tup (rowm.map V.int)) hp7
      have e7 := newAt (.tup (rowm.map V.int)) hp7
      generalize upd H6 p7 (.tup (rowm.map V.int)) = H7 at s7 e7 ⊢
      have s67 := s6.trans s7
      have pl := rp.length
      rw [List.length_take] at pl
      refine ⟨_, s67 _ _ eD, by rw [List.length_map, ez]; omega, ps ++ [p7], by rw [upd_same, List.map_append]; rfl, ?_, fun c o q => by rw [upd_ne (ne_of_none q hD)]; exact s67 _ _ (sx _ _ q)⟩
      rw [List.take_succ, hrm]
      refine RowsAt.snoc ?_ (rp.imp fun q xs e => by
        rw [upd_ne (fun he => by subst he; rw [eD] at e; cases e)]
        exact s67 _ _ e)
      rw [upd_ne (fun he => by subst he; rw [s67 _ _ eD] at e7; cases e7)]
      exact e7
    · rintro H ⟨ps, eD, rp, sx⟩
      rw [List.length_map, ql, List.take_length] at rp
      refine ⟨D, _, rfl, .inl ⟨SqL.of eD, fun l hl => ?_⟩⟩
      have sl := Same.upd (o := .tup (ps.map V.ref)) hl
      exact fin _ p5 l ps ls _ ((s35.trans sx).trans sl) (sl _ _ (sx _ _ e5)) upd_same (rp.imp fun _ _ e => sl _ _ e) fs f1 f12 lsb lwr
end
end Rp

/-! k01: the law. -/
namespace Rp
open PySem PySem.Spec PyProof.Rows L2 TL
abbrev sLaw : Stmt := topS 11
theorem scLaw : FnScope ["_law_script", "_law_k", "_law_well_here", "_law_one", "_law_other", "_law_row"] ["_law_script"] (defScope sLaw) := ⟨rfl, rfl, rfl, by decide +kernel, rfl, by decide +kernel, by decide +kernel⟩
def spLaw (K : PySem.W.Frag) : Sp := fun vs H Q _ => ∃ (a : Addr) (ns : List Int), vs = [.ref a] ∧ SqL K H a (ns.map V.int) ∧ ∀ H', Q (.bl true) H'
theorem Okk.lowR {ns : List Nat} {bs : List (List Int)} (o : Okk ns bs) : LowRows bs := o.bs
section
variable {P : Program} {w : World} {K : PySem.W.Frag} {mg : Str → Option Value} {base : Heap} {fW fT fK fO fD fU fE : Addr} {fdW fdT fdK fdO fdD fdU fdE : FuncData}
theorem ok_law {f : Addr} {fd : FuncData} (F : Fun K "law" "law" sLaw f fd) (B : Bi mg) (mMin : mg "min" = none) (mMax : mg "max" = none) (mL : mg "list" = none)
    (FW : Fun K "_law_well" "_law_well" sWell fW fdW) (mW : mg "_law_well" = some (.ref fW)) (bW : L2.Binds K fdW ["_law_script", "_law_k"] [])
    (FT : Fun K "_law_take" "_law_take" sTake fT fdT) (mT : mg "_law_take" = some (.ref fT)) (bT : L2.Binds K fdT ["_law_well_here", "_law_top"] [])
    (FK : Fun K "_law_talk" "_law_talk" sTalk fK fdK) (mK : mg "_law_talk" = some (.ref fK)) (bK : L2.Binds K fdK ["_law_well_here"] [])
    (FO : Fun K "_law_otherwise" "_law_otherwise" sOther fO fdO) (mO : mg "_law_otherwise" = some (.ref fO)) (bO : L2.Binds K fdO ["_law_well_here", "_law_row"] [])
    (FD : Fun K "_law_told_right" "_law_told_right" sTold fD fdD) (GD : FnG P w K mg base CX0 6 fD fdD ["_law_row"] spTold) (mD : mg "_law_told_right" = some (.ref fD)) (bD : L2.Binds K fdD ["_law_row"] [])
    (FU : Fun K "_law_unlike_right" "_law_unlike_right" sUnlike fU fdU) (GU : FnG P w K mg base CX0 6 fU fdU ["_law_row"] spTold) (mU : mg "_law_unlike_right" = some (.ref fU)) (bU : L2.Binds K fdU ["_law_row"] [])
    (FE : Fun K "_law_equal_right" "_law_equal_right" sEqual fE fdE) (GE : FnG P w K mg base CX0 6 fE fdE ["_law_one", "_law_other"] spEqual) (mE : mg "_law_equal_right" = some (.ref fE)) (bE : L2.Binds K fdE ["_law_one", "_law_other"] []) : FnG P w K mg base CX0 7 f fd ["_law_script"] (spLaw K) := by
  have GW : FnOk P w K mg base CX0 1 fW fdW ["_law_script", "_law_k"] (spWell K) := ok_well FW B
  have GK : FnOk P w K mg base CX0 2 fK fdK ["_law_well_here"] spTalk := ok_talk FK B FT mT bT
  have GO : FnOk P w K mg base CX0 2 fO fdO ["_law_well_here", "_law_row"] spOther := ok_other FO B mL FT mT bT
  refine okG F scLaw (fun vs H Q E h => ?_) (fun cdv A outer s H0 vs Q E gA hr h => ?_)
  · obtain ⟨_, _, rfl, _⟩ := h
    rfl
  · have nd := scLaw.nd
    have hr1 : Room 1 _ := hr.mono (by decide)
    have hr2 : Room 2 _ := hr.mono (by decide)
    refine ⟨_, pss_cons (ps_for PassesOwn.never rfl (pi_range1 (by rfl) B.range (pa_cons (pe_callB (call_max2 rfl) (by rfl) mMax (by decide +kernel) (pa_cons (pe_int) (pa_cons (pe_callB (call_min2 rfl) (by rfl) mMin (by decide +kernel) (pa_cons (pe_callB call_len_seq (by rfl) B.len PySem.boot_len (pa_cons (pv 0) pa_nil)) (pa_cons (pe_int) pa_nil))) pa_nil))) pa_nil)) (pg_name (i := 1) nd rfl (Or.inl rfl)) (pss_cons (ps_set (i := 2) nd rfl (Or.inl rfl) (pe_call GW hr1 (by rfl) mW FW.kp bW .nil pass0 (pa_cons (pv 0) (pa_cons (pv 1) pa_nil))))
      (pss_cons (ps_set (i := 3) nd rfl (Or.inl rfl) (pe_call GK hr2 (by rfl) mK FK.kp bK .nil pass0 (pa_cons (pv 2) pa_nil)))
      (pss_cons (ps_set (i := 4) nd rfl (Or.inl rfl) (pe_call GO hr2 (by rfl) mO FO.kp bO .nil pass0 (pa_cons (pv 2) (pa_cons (pv 3) pa_nil))))
      (pss_cons (ps_for PassesOwn.never rfl (pi_tup (pe_tup (pa_cons (pv 3) (pa_cons (pv 4) (pa_cons (pv 3) pa_nil))))) (pg_name (i := 5) nd rfl (Or.inl rfl)) (pss_one (ps_if (PW.pt (pw_or (pt_not (pt_val (pe_callG GD gA hr (by rfl) mD FD.kp bD pass0 (pa_cons (pv 5) pa_nil)))) (pw_or1 (pt_not (pt_val (pe_callG GU gA hr (by rfl) mU FU.kp bU pass0 (pa_cons (pv 5) pa_nil))))))) (pss_one (ps_ret (pe_bl))) (pss_nil))))
      (pss_one (ps_if (PW.pt (pw_or (pt_not (pt_val (pe_callG GE gA hr (by rfl) mE FE.kp bE pass0 (pa_cons (pv 3) (pa_cons (pv 4) pa_nil))))) (pw_or (pt_not (pt_val (pe_callG GE gA hr (by rfl) mE FE.kp bE pass0 (pa_cons (pv 4) (pa_cons (pv 3) pa_nil))))) (pw_or1 (pt_not (pt_val (pe_callG GE gA hr (by rfl) mE FE.kp bE pass0 (pa_cons (pv 3) (pa_cons (pv 3) pa_nil))))))))) (pss_one (ps_ret (pe_bl))) (pss_nil))))))))
    (pss_one (ps_ret (pe_callG GE gA hr (by rfl) mE FE.kp bE pass0 (pa_cons (pe_tup (pa_cons (pe_tup (pa_cons (pe_int) (pa_cons (pe_int) pa_nil))) (pa_cons (pe_tup (pa_cons (pe_tup (pa_cons (pe_int) pa_nil)) (pa_cons (pe_tup (pa_cons (pe_int) pa_nil)) pa_nil))) pa_nil))) (pa_cons (pe_tup (pa_cons (pe_tup (pa_cons (pe_int) (pa_cons (pe_int) pa_nil))) (pa_cons (pe_tup (pa_cons (pe_tup (pa_cons (pe_int) pa_nil)) (pa_cons (pe_tup (pa_cons (pe_int) pa_nil)) pa_nil))) pa_nil))) pa_nil))))), ?_⟩
    obtain ⟨a, ks, rfl, ha, k⟩ := h
    have ez : sizeLine = 16777216 := sizeLine_eq
    have sm1 : Low [2, 1] := ⟨by decide, by decide⟩
    have sm2 : Low [1, 2] := ⟨by decide, by decide⟩
    have sm3 : LowRows [[1], [1]] := ⟨by decide, fun row hr => by
      have : row = [1] := by simpa using hr
      subst this
      exact ⟨by decide, by decide⟩⟩
    refine ⟨_, rfl, a, _, rfl, .inl ha, _, _, rfl, _, _, rfl, ?_⟩
    rw [List.length_map]
    obtain ⟨N, hN, hN4⟩ : ∃ N : Nat, (if (if (6 : Int) < (ks.length : Nat) then (6 : Int) else (ks.length : Nat)) > 2 then (if (6 : Int) < (ks.length : Nat) then (6 : Int) else (ks.length : Nat)) else 2) = (N : Int) ∧ N ≤ 6 := by
      by_cases c : (6 : Int) < (ks.length : Nat)
      · rw [if_pos c]
        exact ⟨6, rfl, by decide⟩
      · rw [if_neg c]
        by_cases e : ((ks.length : Nat) : Int) > 2
        · rw [if_pos e]
          exact ⟨ks.length, rfl, by omega⟩
        · rw [if_neg e]
          exact ⟨2, rfl, by decide⟩
    rw [hN]
    refine ⟨_, rfl, (by omega), (by omega), for_range (lo := 0) (n := N) (fun i σ H => ∃ v1 v2 v3 v4 v5, σ = [some (.ref a), v1, v2, v3, v4, v5] ∧ Same H0 H) ⟨none, none, none, none, none, rfl, fun _ _ e => e⟩ ?_ ?_⟩
    · rintro i σ H hi ⟨v1, v2, v3, v4, v5, rfl, sH⟩
      refine ⟨_, rfl, _, rfl, a, ks, i, (by show [V.ref a, V.int (0 + (i : Int))] = [V.ref a, V.int (i : Nat)]; rw [Int.zero_add]), Same.seq sH ha, fun w c0 c1 c2 hw => ?_⟩
      have s1 := Same.upd (o := .lst [.int c0, .int c1, .int c2]) hw
      have w1 : Well (upd H w (.lst [.int c0, .int c1, .int c2])) w := .upw
      generalize upd H w (.lst [.int c0, .int c1, .int c2]) = H1 at s1 w1 ⊢
      refine ⟨_, rfl, w, rfl, w1, fun H2 p ls bs bt2 w2 row fine => ?_⟩
      have s2 := same_of_but hw s1 bt2
      refine ⟨_, rfl, _, rfl, w, p, ls, bs, rfl, w2, row, fine, fun H3 q ns' bs' bt3 w3 row' ok' => ?_⟩
      have s3 := same_of_but hw s2 bt3
      have row3 : TalkRow H3 p ls bs := row.imp fun _ _ e => bt3.tup w2 _ _ e
      obtain ⟨ns, rfl, ok⟩ := fine.okk
      clear row w1 w2 w3 bt2 bt3 s1 s2
      refine ⟨_, rfl, _, rfl, _, rfl, (by show 3 ≤ sizeLine; decide), fun t ht => ?_⟩
      have st := Same.upd (o := .tup [.ref p, .ref q, .ref p]) ht
      have et := newAt (.tup [.ref p, .ref q, .ref p]) ht
      generalize upd H3 t (.tup [.ref p, .ref q, .ref p]) = H4 at st et ⊢
      refine ⟨t, rfl, ⟨_, SqT.of et⟩, for_tup (K := K) (a := t) (xs := [V.ref p, V.ref q, V.ref p]) (fun m σ H => ∃ v5, σ = [some (.ref a), some (.int (0 + (i : Int))), some (.ref w), some (.ref p), some (.ref q), v5] ∧ Same H4 H) ⟨_, rfl, fun _ _ e => e⟩ (fun m σ H _ ⟨_, _, sx⟩ => SqT.of (sx _ _ et)) ?_ ?_⟩
      · rintro m y σ H hy ⟨v5, rfl, sx⟩
        obtain ⟨x, nx, bx, rfl, rowx, okx⟩ : ∃ x nx bx, y = .ref x ∧ TalkRow H4 x (natI nx) bx ∧ Okk nx bx := by
          match m, hy with
          | 0, hy => cases hy; exact ⟨p, ns, bs, rfl, row3.same st, ok⟩
          | 1, hy => cases hy; exact ⟨q, ns', bs', rfl, row'.same st, ok'⟩
          | 2, hy => cases hy; exact ⟨p, ns, bs, rfl, row3.same st, ok⟩
        refine ⟨_, rfl, x, nx, bx, rfl, rowx.same sx, okx, fun H5 s5 => ⟨true, rfl, iteF ?_⟩⟩
        refine ⟨_, rfl, x, nx, bx, rfl, rowx.same (sx.trans s5), okx, fun H6 s6 => ⟨true, rfl, iteF ?_⟩⟩
        exact ⟨_, rfl, (sx.trans s5).trans s6⟩
      · rintro σ H ⟨v5, rfl, sx⟩
        have sx3 := st.trans sx
        refine ⟨_, rfl, _, rfl, p, q, _, _, _, _, rfl, row3.same sx3, row'.same sx3, ok.low, ok.lowR, ok'.low, ok'.lowR, fun H5 s5 => ⟨true, rfl, iteF ?_⟩⟩
        have sx5 := sx3.trans s5
        refine ⟨_, rfl, _, rfl, q, p, _, _, _, _, rfl, row'.same sx5, row3.same sx5, ok'.low, ok'.lowR, ok.low, ok.lowR, fun H6 s6 => ⟨true, rfl, iteF ?_⟩⟩
        have sx6 := sx5.trans s6
        refine ⟨_, rfl, _, rfl, p, p, _, _, _, _, rfl, row3.same sx6, row3.same sx6, ok.low, ok.lowR, ok.low, ok.lowR, fun H7 s7 => ⟨true, rfl, iteF ?_⟩⟩
        exact ⟨_, _, _, _, _, rfl, (sH.trans (fun c o z => s3 c o z)).trans (sx6.trans s7)⟩
    · rintro σ H ⟨v1, v2, v3, v4, v5, rfl, sH⟩
      refine ⟨(by show 2 ≤ sizeLine; decide), fun p1 hp1 => ?_⟩
      have s1 := Same.upd (o := .tup [.int 2, .int 1]) hp1
      have e1 := newAt (.tup [.int 2, .int 1]) hp1
      generalize upd H p1 (.tup [.int 2, .int 1]) = H1 at s1 e1 ⊢
      refine ⟨(by show 1 ≤ sizeLine; decide), fun p2 hp2 => ?_⟩
      have s2 := Same.upd (o := .tup [.int 1]) hp2
      have e2 := newAt (.tup [.int 1]) hp2
      generalize upd H1 p2 (.tup [.int 1]) = H2 at s2 e2 ⊢
      refine ⟨(by show 1 ≤ sizeLine; decide), fun p3 hp3 => ?_⟩
      have s3 := Same.upd (o := .tup [.int 1]) hp3
      have e3 := newAt (.tup [.int 1]) hp3
      generalize upd H2 p3 (.tup [.int 1]) = H3 at s3 e3 ⊢
      refine ⟨(by show 2 ≤ sizeLine; decide), fun p4 hp4 => ?_⟩
      have s4 := Same.upd (o := .tup [.ref p2, .ref p3]) hp4
      have e4 := newAt (.tup [.ref p2, .ref p3]) hp4
      generalize upd H3 p4 (.tup [.ref p2, .ref p3]) = H4 at s4 e4 ⊢
      refine ⟨(by show 2 ≤ sizeLine; decide), fun p5 hp5 => ?_⟩
      have s5 := Same.upd (o := .tup [.ref p1, .ref p4]) hp5
      have e5 := newAt (.tup [.ref p1, .ref p4]) hp5
      generalize upd H4 p5 (.tup [.ref p1, .ref p4]) = H5 at s5 e5 ⊢
      refine ⟨(by show 2 ≤ sizeLine; decide), fun p6 hp6 => ?_⟩
      have s6 := Same.upd (o := .tup [.int 1, .int 2]) hp6
      have e6 := newAt (.tup [.int 1, .int 2]) hp6
      generalize upd H5 p6 (.tup [.int 1, .int 2]) = H6 at s6 e6 ⊢
      refine ⟨(by show 1 ≤ sizeLine; decide), fun p7 hp7 => ?_⟩
      have s7 := Same.upd (o := .tup [.int 1]) hp7
      have e7 := newAt (.tup [.int 1]) hp7
      generalize upd H6 p7 (.tup [.int 1]) = H7 at s7 e7 ⊢
      refine ⟨(by show 1 ≤ sizeLine; decide), fun p8 hp8 => ?_⟩
      have s8 := Same.upd (o := .tup [.int 1]) hp8
      have e8 := newAt (.tup [.int 1]) hp8
      generalize upd H7 p8 (.tup [.int 1]) = H8 at s8 e8 ⊢
      refine ⟨(by show 2 ≤ sizeLine; decide), fun p9 hp9 => ?_⟩
      have s9 := Same.upd (o := .tup [.ref p7, .ref p8]) hp9
      have e9 := newAt (.tup [.ref p7, .ref p8]) hp9
      generalize upd H8 p9 (.tup [.ref p7, .ref p8]) = H9 at s9 e9 ⊢
      refine ⟨(by show 2 ≤ sizeLine; decide), fun p10 hp10 => ?_⟩
      have s10 := Same.upd (o := .tup [.ref p6, .ref p9]) hp10
      have e10 := newAt (.tup [.ref p6, .ref p9]) hp10
      generalize upd H9 p10 (.tup [.ref p6, .ref p9]) = H10 at s10 e10 ⊢
      exact ⟨p5, p10, [2, 1], [[1], [1]], [1, 2], [[1], [1]], rfl, ⟨p1, p4, [p2, p3], (s10 _ _ (s9 _ _ (s8 _ _ (s7 _ _ (s6 _ _ e5))))), (s10 _ _ (s9 _ _ (s8 _ _ (s7 _ _ (s6 _ _ (s5 _ _ (s4 _ _ (s3 _ _ (s2 _ _ e1))))))))), (s10 _ _ (s9 _ _ (s8 _ _ (s7 _ _ (s6 _ _ (s5 _ _ e4)))))), .cons (s10 _ _ (s9 _ _ (s8 _ _ (s7 _ _ (s6 _ _ (s5 _ _ (s4 _ _ (s3 _ _ e2)))))))) (.cons (s10 _ _ (s9 _ _ (s8 _ _ (s7 _ _ (s6 _ _ (s5 _ _ (s4 _ _ e3))))))) .nil)⟩, ⟨p6, p9, [p7, p8], e10, (s10 _ _ (s9 _ _ (s8 _ _ (s7 _ _ e6)))), (s10 _ _ e9), .cons (s10 _ _ (s9 _ _ (s8 _ _ e7))) (.cons (s10 _ _ (s9 _ _ e8)) .nil)⟩, sm1, sm3, sm2, sm3, fun H' _ => k H'⟩
end
end Rp

namespace Rp
open PySem PySem.Spec PyProof.Rows L2
theorem mem_bts {T : String} (h : T ∈ bts) : T = "NoneType" ∨ T = "bool" ∨ T = "int" ∨ T = "str" ∨ T = "tuple" ∨ T = "list" ∨ T = "dict" := by
  unfold bts at h
  simpa using h
theorem all_mk {w : World} {K : PySem.W.Frag} {h : Heap} {mg : Str → Option Value} {fa : Addr} (X : K.In h) (G : h.Ns mainGlobals mg) (hfa : mg "law" = some (.ref fa))
    {C fI fL fS fR_ fE fM fW fT fK_ fO fD fU fQ fLaw : Addr} {odI anI odL anL odS anS odR_ anR_ odE anE odM anM odW anW odT anT odK_ anK_ odO anO odD anD odU anU odQ anQ odLaw anLaw : Option Addr} {slI slL slS slR_ slE slM slW slT slK_ slO slD slU slQ slLaw : Array (Option Value)} {ocI kVI dcI pmI cdI ctI ocL kVL dcL pmL cdL ctL ocS kVS dcS pmS cdS ctS ocR_ kVR_ dcR_ pmR_ cdR_ ctR_ ocE kVE dcE pmE cdE ctE ocM kVM dcM pmM cdM ctM ocW kVW dcW pmW cdW ctW ocT kVT dcT pmT cdT ctT ocK_ kVK_ dcK_ pmK_ cdK_ ctK_ ocO kVO dcO pmO cdO ctO ocD kVD dcD pmD cdD ctD ocU kVU dcU pmU cdU ctU ocQ kVQ dcQ pmQ cdQ ctQ ocLaw kVLaw dcLaw pmLaw cdLaw ctLaw : Value}
    (aC : PySem.W.nsIn K mainGlobals "Talk" = some (some (.ref C)))
    (qI : PySem.W.findIn K (.ref C) "__init__" = some (some (.ref fI)))
    (iI : PySem.W.isFn K (.ref fI) = true)
    (lI : K.lookup fI = some ⟨ocI, odI, .func (PySem.W.fnOf "__init__" "Talk.__init__" (defArgs sInit) (defBody sInit) (defScope sInit) .none kVI dcI pmI anI cdI ctI), slI⟩)
    (cI : PySem.W.codeIn K cdI "Talk.__init__" = true)
    (kI : PySem.W.keepIn K (.ref fI) = true)
    (qL : PySem.W.findIn K (.ref C) "__len__" = some (some (.ref fL)))
    (iL : PySem.W.isFn K (.ref fL) = true)
    (lL : K.lookup fL = some ⟨ocL, odL, .func (PySem.W.fnOf "__len__" "Talk.__len__" (defArgs sLen) (defBody sLen) (defScope sLen) .none kVL dcL pmL anL cdL ctL), slL⟩)
    (cL : PySem.W.codeIn K cdL "Talk.__len__" = true)
    (kL : PySem.W.keepIn K (.ref fL) = true)
    (qS : PySem.W.findIn K (.ref C) "__str__" = some (some (.ref fS)))
    (iS : PySem.W.isFn K (.ref fS) = true)
    (lS : K.lookup fS = some ⟨ocS, odS, .func (PySem.W.fnOf "__str__" "Talk.__str__" (defArgs sStr) (defBody sStr) (defScope sStr) .none kVS dcS pmS anS cdS ctS), slS⟩)
    (cS : PySem.W.codeIn K cdS "Talk.__str__" = true)
    (kS : PySem.W.keepIn K (.ref fS) = true)
    (qR_ : PySem.W.findIn K (.ref C) "__repr__" = some (some (.ref fR_)))
    (iR_ : PySem.W.isFn K (.ref fR_) = true)
    (lR_ : K.lookup fR_ = some ⟨ocR_, odR_, .func (PySem.W.fnOf "__repr__" "Talk.__repr__" (defArgs sRepr) (defBody sRepr) (defScope sRepr) .none kVR_ dcR_ pmR_ anR_ cdR_ ctR_), slR_⟩)
    (cR_ : PySem.W.codeIn K cdR_ "Talk.__repr__" = true)
    (kR_ : PySem.W.keepIn K (.ref fR_) = true)
    (qE : PySem.W.findIn K (.ref C) "__eq__" = some (some (.ref fE)))
    (iE : PySem.W.isFn K (.ref fE) = true)
    (lE : K.lookup fE = some ⟨ocE, odE, .func (PySem.W.fnOf "__eq__" "Talk.__eq__" (defArgs sEq) (defBody sEq) (defScope sEq) .none kVE dcE pmE anE cdE ctE), slE⟩)
    (cE : PySem.W.codeIn K cdE "Talk.__eq__" = true)
    (kE : PySem.W.keepIn K (.ref fE) = true)
    (qM : PySem.W.findIn K (.ref C) "many_rates" = some (some (.ref fM)))
    (iM : PySem.W.isFn K (.ref fM) = true)
    (lM : K.lookup fM = some ⟨ocM, odM, .func (PySem.W.fnOf "many_rates" "Talk.many_rates" (defArgs sMany) (defBody sMany) (defScope sMany) .none kVM dcM pmM anM cdM ctM), slM⟩)
    (cM : PySem.W.codeIn K cdM "Talk.many_rates" = true)
    (kM : PySem.W.keepIn K (.ref fM) = true)
    (gW : PySem.W.nsIn K mainGlobals "_law_well" = some (some (.ref fW)))
    (lW : K.lookup fW = some ⟨ocW, odW, .func (PySem.W.fnOf "_law_well" "_law_well" (defArgs sWell) (defBody sWell) (defScope sWell) .none kVW dcW pmW anW cdW ctW), slW⟩)
    (cW : PySem.W.codeIn K cdW "_law_well" = true)
    (kW : PySem.W.keepIn K (.ref fW) = true)
    (gT : PySem.W.nsIn K mainGlobals "_law_take" = some (some (.ref fT)))
    (lT : K.lookup fT = some ⟨ocT, odT, .func (PySem.W.fnOf "_law_take" "_law_take" (defArgs sTake) (defBody sTake) (defScope sTake) .none kVT dcT pmT anT cdT ctT), slT⟩)
    (cT : PySem.W.codeIn K cdT "_law_take" = true)
    (kT : PySem.W.keepIn K (.ref fT) = true)
    (gK_ : PySem.W.nsIn K mainGlobals "_law_talk" = some (some (.ref fK_)))
    (lK_ : K.lookup fK_ = some ⟨ocK_, odK_, .func (PySem.W.fnOf "_law_talk" "_law_talk" (defArgs sTalk) (defBody sTalk) (defScope sTalk) .none kVK_ dcK_ pmK_ anK_ cdK_ ctK_), slK_⟩)
    (cK_ : PySem.W.codeIn K cdK_ "_law_talk" = true)
    (kK_ : PySem.W.keepIn K (.ref fK_) = true)
    (gO : PySem.W.nsIn K mainGlobals "_law_otherwise" = some (some (.ref fO)))
    (lO : K.lookup fO = some ⟨ocO, odO, .func (PySem.W.fnOf "_law_otherwise" "_law_otherwise" (defArgs sOther) (defBody sOther) (defScope sOther) .none kVO dcO pmO anO cdO ctO), slO⟩)
    (cO : PySem.W.codeIn K cdO "_law_otherwise" = true)
    (kO : PySem.W.keepIn K (.ref fO) = true)
    (gD : PySem.W.nsIn K mainGlobals "_law_told_right" = some (some (.ref fD)))
    (lD : K.lookup fD = some ⟨ocD, odD, .func (PySem.W.fnOf "_law_told_right" "_law_told_right" (defArgs sTold) (defBody sTold) (defScope sTold) .none kVD dcD pmD anD cdD ctD), slD⟩)
    (cD : PySem.W.codeIn K cdD "_law_told_right" = true)
    (kD : PySem.W.keepIn K (.ref fD) = true)
    (gU : PySem.W.nsIn K mainGlobals "_law_unlike_right" = some (some (.ref fU)))
    (lU : K.lookup fU = some ⟨ocU, odU, .func (PySem.W.fnOf "_law_unlike_right" "_law_unlike_right" (defArgs sUnlike) (defBody sUnlike) (defScope sUnlike) .none kVU dcU pmU anU cdU ctU), slU⟩)
    (cU : PySem.W.codeIn K cdU "_law_unlike_right" = true)
    (kU : PySem.W.keepIn K (.ref fU) = true)
    (gQ : PySem.W.nsIn K mainGlobals "_law_equal_right" = some (some (.ref fQ)))
    (lQ : K.lookup fQ = some ⟨ocQ, odQ, .func (PySem.W.fnOf "_law_equal_right" "_law_equal_right" (defArgs sEqual) (defBody sEqual) (defScope sEqual) .none kVQ dcQ pmQ anQ cdQ ctQ), slQ⟩)
    (cQ : PySem.W.codeIn K cdQ "_law_equal_right" = true)
    (kQ : PySem.W.keepIn K (.ref fQ) = true)
    (gLaw : PySem.W.nsIn K mainGlobals "law" = some (some (.ref fLaw)))
    (lLaw : K.lookup fLaw = some ⟨ocLaw, odLaw, .func (PySem.W.fnOf "law" "law" (defArgs sLaw) (defBody sLaw) (defScope sLaw) .none kVLaw dcLaw pmLaw anLaw cdLaw ctLaw), slLaw⟩)
    (cLaw : PySem.W.codeIn K cdLaw "law" = true)
    (kLaw : PySem.W.keepIn K (.ref fLaw) = true)
    (pg : PySem.W.plainGet K C Str.empty = true)
    (hd : PySem.W.hasDictIn K C = true)
    (po : PySem.W.plainOver K C = true)
    (mk : PySem.W.makesIn K C = true)
    (kc : PySem.W.keepIn K (.ref C) = true)
    (sa : PySem.W.findIn K (.ref C) "__setattr__" = some (some (.builtin "object.__setattr__")))
    (n1 : PySem.W.findIn K (.ref C) "lengths" = some none)
    (n2 : PySem.W.findIn K (.ref C) "sizes" = some none)
    (fm : PySem.W.findIn K (.ref C) "__format__" = some (some (.builtin "object.__format__")))
    (ne : PySem.W.findIn K (.ref C) "__ne__" = some (some (.builtin "object.__ne__")))
    (cm : PySem.W.mroIn K C (.type "object") = some true)
    (ca : PySem.W.findIn K (.ref C) "__class__" = some (some (.builtin "object.__class__")))
    (cn : PySem.W.specialIn K (.builtin "object.__class__") "__get__" = some (some (.builtin "getset_descriptor.__get__")))
    (ct : PySem.W.takesIn K (.builtin "object.__class__") = some true)
    (sbNoneType : PySem.W.subIn K (.ref C) (.type "NoneType") = some false)
    (bsNoneType : PySem.W.subIn K (.type "NoneType") (.ref C) = some false)
    (ktNoneType : PySem.W.kitOne K (.type "NoneType") (.ref C) = some false)
    (sbbool : PySem.W.subIn K (.ref C) (.type "bool") = some false)
    (bsbool : PySem.W.subIn K (.type "bool") (.ref C) = some false)
    (ktbool : PySem.W.kitOne K (.type "bool") (.ref C) = some false)
    (sbint : PySem.W.subIn K (.ref C) (.type "int") = some false)
    (bsint : PySem.W.subIn K (.type "int") (.ref C) = some false)
    (ktint : PySem.W.kitOne K (.type "int") (.ref C) = some false)
    (sbstr : PySem.W.subIn K (.ref C) (.type "str") = some false)
    (bsstr : PySem.W.subIn K (.type "str") (.ref C) = some false)
    (ktstr : PySem.W.kitOne K (.type "str") (.ref C) = some false)
    (sbtuple : PySem.W.subIn K (.ref C) (.type "tuple") = some false)
    (bstuple : PySem.W.subIn K (.type "tuple") (.ref C) = some false)
    (kttuple : PySem.W.kitOne K (.type "tuple") (.ref C) = some false)
    (sblist : PySem.W.subIn K (.ref C) (.type "list") = some false)
    (bslist : PySem.W.subIn K (.type "list") (.ref C) = some false)
    (ktlist : PySem.W.kitOne K (.type "list") (.ref C) = some false)
    (sbdict : PySem.W.subIn K (.ref C) (.type "dict") = some false)
    (bsdict : PySem.W.subIn K (.type "dict") (.ref C) = some false)
    (ktdict : PySem.W.kitOne K (.type "dict") (.ref C) = some false)
    (zint : PySem.W.nsIn K mainGlobals "int" = some none)
    (zlen : PySem.W.nsIn K mainGlobals "len" = some none)
    (zrange : PySem.W.nsIn K mainGlobals "range" = some none)
    (ztuple : PySem.W.nsIn K mainGlobals "tuple" = some none)
    (zisinstance : PySem.W.nsIn K mainGlobals "isinstance" = some none)
    (zrepr : PySem.W.nsIn K mainGlobals "repr" = some none)
    (zmin : PySem.W.nsIn K mainGlobals "min" = some none)
    (zmax : PySem.W.nsIn K mainGlobals "max" = some none)
    (zstr : PySem.W.nsIn K mainGlobals "str" = some none)
    (zsum : PySem.W.nsIn K mainGlobals "sum" = some none)
    (zlist : PySem.W.nsIn K mainGlobals "list" = some none)
    : ∃ fd : FuncData, (∀ (s : Shared) (u : Value), BindsTo s fd ⟨[u], []⟩ [("_law_script", u)]) ∧ ∀ base : Heap, K.In base → base.Ns mainGlobals mg → FnG PySem.Challenge.pw_rateplan_k01_talks_equal_and_written w K mg base CX0 7 fa fd ["_law_script"] (spLaw K) := by
  have e := hfa.symm.trans (PySem.W.mg_of X G gLaw)
  cases e
  have FI := fun_mk (st := sInit) lI cI kI
  have bI := FI.binds (ps := ["self", "lengths", "sizes"]) fun _ _ _ _ _ _ us hl => match us, hl with | [_, _, _], _ => rfl
  have FL := fun_mk (st := sLen) lL cL kL
  have bL := FL.binds (ps := ["self"]) fun _ _ _ _ _ _ us hl => match us, hl with | [_], _ => rfl
  have FS := fun_mk (st := sStr) lS cS kS
  have bS := FS.binds (ps := ["self"]) fun _ _ _ _ _ _ us hl => match us, hl with | [_], _ => rfl
  have FR_ := fun_mk (st := sRepr) lR_ cR_ kR_
  have bR_ := FR_.binds (ps := ["self"]) fun _ _ _ _ _ _ us hl => match us, hl with | [_], _ => rfl
  have FE := fun_mk (st := sEq) lE cE kE
  have bE := FE.binds (ps := ["self", "other"]) fun _ _ _ _ _ _ us hl => match us, hl with | [_, _], _ => rfl
  have FM := fun_mk (st := sMany) lM cM kM
  have bM := FM.binds (ps := ["self"]) fun _ _ _ _ _ _ us hl => match us, hl with | [_], _ => rfl
  have FW := fun_mk (st := sWell) lW cW kW
  have bW := FW.binds (ps := ["_law_script", "_law_k"]) fun _ _ _ _ _ _ us hl => match us, hl with | [_, _], _ => rfl
  have mW := PySem.W.mg_of X G gW
  have FT := fun_mk (st := sTake) lT cT kT
  have bT := FT.binds (ps := ["_law_well_here", "_law_top"]) fun _ _ _ _ _ _ us hl => match us, hl with | [_, _], _ => rfl
  have mT := PySem.W.mg_of X G gT
  have FK_ := fun_mk (st := sTalk) lK_ cK_ kK_
  have bK_ := FK_.binds (ps := ["_law_well_here"]) fun _ _ _ _ _ _ us hl => match us, hl with | [_], _ => rfl
  have mK_ := PySem.W.mg_of X G gK_
  have FO := fun_mk (st := sOther) lO cO kO
  have bO := FO.binds (ps := ["_law_well_here", "_law_row"]) fun _ _ _ _ _ _ us hl => match us, hl with | [_, _], _ => rfl
  have mO := PySem.W.mg_of X G gO
  have FD := fun_mk (st := sTold) lD cD kD
  have bD := FD.binds (ps := ["_law_row"]) fun _ _ _ _ _ _ us hl => match us, hl with | [_], _ => rfl
  have mD := PySem.W.mg_of X G gD
  have FU := fun_mk (st := sUnlike) lU cU kU
  have bU := FU.binds (ps := ["_law_row"]) fun _ _ _ _ _ _ us hl => match us, hl with | [_], _ => rfl
  have mU := PySem.W.mg_of X G gU
  have FQ := fun_mk (st := sEqual) lQ cQ kQ
  have bQ := FQ.binds (ps := ["_law_one", "_law_other"]) fun _ _ _ _ _ _ us hl => match us, hl with | [_, _], _ => rfl
  have mQ := PySem.W.mg_of X G gQ
  have FLaw := fun_mk (st := sLaw) lLaw cLaw kLaw
  have bLaw := FLaw.binds (ps := ["_law_script"]) fun _ _ _ _ _ _ us hl => match us, hl with | [_], _ => rfl
  have mLaw := PySem.W.mg_of X G gLaw
  have nint := PySem.W.mg_none_of X G zint
  have nlen := PySem.W.mg_none_of X G zlen
  have nrange := PySem.W.mg_none_of X G zrange
  have ntuple := PySem.W.mg_none_of X G ztuple
  have nisinstance := PySem.W.mg_none_of X G zisinstance
  have nrepr := PySem.W.mg_none_of X G zrepr
  have nmin := PySem.W.mg_none_of X G zmin
  have nmax := PySem.W.mg_none_of X G zmax
  have nstr := PySem.W.mg_none_of X G zstr
  have nsum := PySem.W.mg_none_of X G zsum
  have nlist := PySem.W.mg_none_of X G zlist
  have mC := PySem.W.mg_of X G aC
  have B : Bi mg := ⟨nint, nlen, nrange, ntuple⟩
  have T : TkF K C fI fL fS fR_ fM := { cl := ⟨pg, hd, po, sa⟩, make := ⟨mk, qI, iI, kc⟩, nl := n1, ns := n2, ca := ca, cn := cn, ct := ct, cm := cm, ln := qL, lnf := iL, st := qS, stf := iS, rp := qR_, rpf := iR_, fm := fm, mM := ⟨qM, iM, kM⟩ }
  have sb : ∀ T ∈ bts, PySem.W.subIn K (.ref C) (.type T) = some false := fun T h => by
    rcases mem_bts h with rfl | rfl | rfl | rfl | rfl | rfl | rfl
    · exact sbNoneType
    · exact sbbool
    · exact sbint
    · exact sbstr
    · exact sbtuple
    · exact sblist
    · exact sbdict
  have bs : ∀ T ∈ bts, PySem.W.subIn K (.type T) (.ref C) = some false := fun T h => by
    rcases mem_bts h with rfl | rfl | rfl | rfl | rfl | rfl | rfl
    · exact bsNoneType
    · exact bsbool
    · exact bsint
    · exact bsstr
    · exact bstuple
    · exact bslist
    · exact bsdict
  have kt : ∀ T ∈ bts, PySem.W.kitOne K (.type T) (.ref C) = some false := fun T h => by
    rcases mem_bts h with rfl | rfl | rfl | rfl | rfl | rfl | rfl
    · exact ktNoneType
    · exact ktbool
    · exact ktint
    · exact ktstr
    · exact kttuple
    · exact ktlist
    · exact ktdict
  have Z : EqC K C fE := { eq := qE, eqf := iE, ne := ne, cm := cm, sub := sb, bus := bs, kit := kt }
  exact ⟨PySem.W.fnOf "law" "law" (defArgs sLaw) (defBody sLaw) (defScope sLaw) .none kVLaw dcLaw pmLaw anLaw cdLaw ctLaw, fun s v => .of_eq rfl, fun base _ _ => ok_law FLaw B nmin nmax nlist FW mW bW FT mT bT FK_ mK_ bK_ FO mO bO FD (ok_told FD B T mC nstr nrepr nsum FI bI FL bL FM bM FS bS FR_ bR_) mD bD FU (ok_unlike FU B T Z mC nstr nrepr nsum nisinstance nlist FI bI FL bL FM bM FS bS FR_ bR_ FE bE) mU bU FQ (ok_equal FQ T Z mC nrepr nisinstance FI bI FE bE) mQ bQ⟩
end Rp
open PySem PySem.W PyProof.Rows
set_option maxRecDepth 100000 in
set_option maxHeartbeats 0 in
theorem PySem.Challenge.cw_rateplan_k01_talks_equal_and_written_holds : PySem.Challenge.rw_rateplan_k01_talks_equal_and_written.Holds := by
  w_on; o_law; k_head; (case hw => w_witness2)
  k_fill
  refine Rp.walkG (l := PySem.Challenge.rw_rateplan_k01_talks_equal_and_written) (n := 63) (k := 7) (x := "_law_script") (CX := fun _ => L2.CX0) (sp := Rp.spLaw) rfl (by decide) rfl ⟨rfl, by decide, by decide⟩ (fun w h Y => PySem.W.kIn_of Y) ?F (fun K H a ns _ _ hS => ⟨a, ns, rfl, hS, fun _ => rfl⟩) (fun _ _ _ _ _ z => z)
  case F =>
    intro w mg fa h KX G hmg
    refine' Rp.all_mk KX G hmg ?aC ?qI ?iI ?lI ?cI ?kI ?qL ?iL ?lL ?cL ?kL ?qS ?iS ?lS ?cS ?kS ?qR_ ?iR_ ?lR_ ?cR_ ?kR_ ?qE ?iE ?lE ?cE ?kE ?qM ?iM ?lM ?cM ?kM ?gW ?lW ?cW ?kW ?gT ?lT ?cT ?kT ?gK_ ?lK_ ?cK_ ?kK_ ?gO ?lO ?cO ?kO ?gD ?lD ?cD ?kD ?gU ?lU ?cU ?kU ?gQ ?lQ ?cQ ?kQ ?gLaw ?lLaw ?cLaw ?kLaw ?pg ?hd ?po ?mk ?kc ?sa ?n1 ?n2 ?fm ?ne ?cm ?ca ?cn ?ct ?sbNoneType ?bsNoneType ?ktNoneType ?sbbool ?bsbool ?ktbool ?sbint ?bsint ?ktint ?sbstr ?bsstr ?ktstr ?sbtuple ?bstuple ?kttuple ?sblist ?bslist ?ktlist ?sbdict ?bsdict ?ktdict ?zint ?zlen ?zrange ?ztuple ?zisinstance ?zrepr ?zmin ?zmax ?zstr ?zsum ?zlist
    (case aC => k_is)
    (case qI => k_is)
    (case iI => k_is)
    (case lI => k_is)
    (case cI => k_is)
    (case kI => k_is)
    (case qL => k_is)
    (case iL => k_is)
    (case lL => k_is)
    (case cL => k_is)
    (case kL => k_is)
    (case qS => k_is)
    (case iS => k_is)
    (case lS => k_is)
    (case cS => k_is)
    (case kS => k_is)
    (case qR_ => k_is)
    (case iR_ => k_is)
    (case lR_ => k_is)
    (case cR_ => k_is)
    (case kR_ => k_is)
    (case qE => k_is)
    (case iE => k_is)
    (case lE => k_is)
    (case cE => k_is)
    (case kE => k_is)
    (case qM => k_is)
    (case iM => k_is)
    (case lM => k_is)
    (case cM => k_is)
    (case kM => k_is)
    (case gW => k_is)
    (case lW => k_is)
    (case cW => k_is)
    (case kW => k_is)
    (case gT => k_is)
    (case lT => k_is)
    (case cT => k_is)
    (case kT => k_is)
    (case gK_ => k_is)
    (case lK_ => k_is)
    (case cK_ => k_is)
    (case kK_ => k_is)
    (case gO => k_is)
    (case lO => k_is)
    (case cO => k_is)
    (case kO => k_is)
    (case gD => k_is)
    (case lD => k_is)
    (case cD => k_is)
    (case kD => k_is)
    (case gU => k_is)
    (case lU => k_is)
    (case cU => k_is)
    (case kU => k_is)
    (case gQ => k_is)
    (case lQ => k_is)
    (case cQ => k_is)
    (case kQ => k_is)
    (case gLaw => k_is)
    (case lLaw => k_is)
    (case cLaw => k_is)
    (case kLaw => k_is)
    (case pg => k_is)
    (case hd => k_is)
    (case po => k_is)
    (case mk => k_is)
    (case kc => k_is)
    (case sa => k_is)
    (case n1 => k_is)
    (case n2 => k_is)
    (case fm => k_is)
    (case ne => k_is)
    (case cm => k_is)
    (case ca => k_is)
    (case cn => k_is)
    (case ct => k_is)
    (case sbNoneType => k_is)
    (case bsNoneType => first | k_is | kit_is)
    (case ktNoneType => first | k_is | kit_is)
    (case sbbool => k_is)
    (case bsbool => first | k_is | kit_is)
    (case ktbool => first | k_is | kit_is)
    (case sbint => k_is)
    (case bsint => first | k_is | kit_is)
    (case ktint => first | k_is | kit_is)
    (case sbstr => k_is)
    (case bsstr => first | k_is | kit_is)
    (case ktstr => first | k_is | kit_is)
    (case sbtuple => k_is)
    (case bstuple => first | k_is | kit_is)
    (case kttuple => first | k_is | kit_is)
    (case sblist => k_is)
    (case bslist => first | k_is | kit_is)
    (case ktlist => first | k_is | kit_is)
    (case sbdict => k_is)
    (case bsdict => first | k_is | kit_is)
    (case ktdict => first | k_is | kit_is)
    (case zint => k_is)
    (case zlen => k_is)
    (case zrange => k_is)
    (case ztuple => k_is)
    (case zisinstance => k_is)
    (case zrepr => k_is)
    (case zmin => k_is)
    (case zmax => k_is)
    (case zstr => k_is)
    (case zsum => k_is)
    (case zlist => k_is)

